/-
  The contract of Repeat, of one octet. No conditions beyond those each theorem states.
-/
import Derived.Test.YtecihodifgjkoaaDoorN2a
import Derived.Lib.MakeNoZero
import Derived.Laws.CopyOwn
import Derived.Deep.RegionLaw
namespace Go.Proofs.YtecihodifgjkoaaDoor
open Go.RowKit
set_option maxRecDepth 100000

attribute [local go_sem ↓] ex_ld25 ex_st25 ex_al25 ex_bu25 ex_ix25 ex_eq25 ex_ne25 ex_eq23 ex_ne23 ex_ld25o ex_st65 ex_al65 ex_bu65 ex_bu65s
attribute [local go_sem] ptrB_at okPtr_at aggC_at agg62 agg69 isC_at isT_at eqV_t eqV_c isRow_new isRow_new65 World.setRow_alloc_new ptr4_at okPtr4_at cutT_at isI_at isS_at bW_at bWs_at

/-- Block g is n octets of one kind at its beginning, at least, and of S cells. -/
def Fil (w : World) (g S n : Nat) (u : UInt8) (L : List Value) : Prop := w.heap[g]? = some (.cells L.toArray 5 (0, 0)) ∧ L.length = S ∧ ∀ j, j < n → L[j]? = some (bv u)
theorem Fil.cell {w : World} {g S n : Nat} {u : UInt8} {L : List Value} (h : Fil w g S n u L) {j : Nat} (hj : j < n) : w.cell? ⟨g, j, none⟩ = some (bv u) := by
  rw [cell_of_row w g j _ 5 (0, 0) h.1]
  simpa using h.2.2 j hj
theorem Fil.rd {w : World} {g S n : Nat} {u : UInt8} {L : List Value} (h : Fil w g S n u L) (hn : n ≤ 100000) : Rd w w.heap.size (some ⟨g, 0, none⟩) (List.replicate n u) n := by
  have hlt : g < w.heap.size := (Array.getElem?_eq_some_iff.1 h.1).1
  refine ⟨by simp, by unfold maxLen; omega, fun _ => ⟨_, rfl, hlt⟩, fun a ha j v hv => ?_⟩
  injection ha with ha
  subst ha
  rw [List.getElem?_replicate] at hv
  split at hv
  · rename_i hj
    injection hv with hv
    subst hv
    rw [add_lit0]
    exact h.cell hj
  · cases hv
theorem splice_fill {L : List Value} {S q k : Nat} {u : UInt8} (hL : L.length = S) (h : ∀ j, j < q → L[j]? = some (bv u)) (hk : q + k ≤ S) :
    (splice L q (List.replicate k (bv u))).length = S ∧ ∀ j, j < q + k → (splice L q (List.replicate k (bv u)))[j]? = some (bv u) := by
  refine ⟨by rw [length_splice _ _ _ (by simp; omega)]; exact hL, fun j hj => ?_⟩
  unfold splice
  have e : (L.take q).length = q := by simp; omega
  by_cases h1 : j < q
  · rw [List.getElem?_append_left (by rw [e]; exact h1), List.getElem?_take, if_pos h1]
    exact h j h1
  · rw [List.getElem?_append_right (by rw [e]; omega), e, List.getElem?_append_left (by simp; omega), List.getElem?_replicate, if_pos (by omega)]
set_option maxHeartbeats 2000000 in
theorem repeat_any (A : Option Addr) (u : UInt8) (c n : Nat) (w : World) (hr : Rd w w.heap.size A [u] c) (h0 : 0 < n) (hn : n ≤ 4096) :
    Calls Tryd.prog 54 #[.slice A 1 c, .int .i64 (n : Int)] w fun e w' => (∃ B, e = .returned (.slice B n n) ∧ Rd w' w'.heap.size B (List.replicate n u) n) ∧ Below w.heap.size w w' := by
  have HR := keepd hr
  have CM := keepd (mul_one_any n (by omega) w)
  have n0 : ((n : Int) == 0) = false := by simp; omega
  have n0' : ¬ (n : Int) = 0 := by omega
  have n1 : ¬ (n : Int) < 0 := by omega
  have n2 : ¬ (8192 : Int) < (n : Int) := by omega
  have n3 : ¬ (9223372036854775807 : Int) < (n : Int) := by omega
  have n4 : decide ((8192 : Int) < (n : Int)) = false := by simp; omega
  have n5 : decide ((9223372036854775807 : Int) < (n : Int)) = false := by simp; omega
  have w1 : IntKind.u64.wrap (n : Int) = (n : Int) := by rw [IntKind.wrap_u64]; omega
  have w2 : IntKind.i64.wrap (n : Int) = (n : Int) := by rw [IntKind.wrap_i64]; omega
  have w3 : IntKind.u64.wrap 1 = 1 := by decide
  clear hr
  obtain ⟨cs, hrunM, hle, _⟩ := Lib.run_makeNoZero (P := Tryd.prog) w #[3] 26 5 Tryd.underlying26 n (by omega)
  have hcall : (callFunc 61 #[.int .i64 (n : Int)]).run Tryd.prog w = .ok (.value (.slice (some ⟨w.heap.size, 0, none⟩) n cs.size)) ((w.alloc (.cells cs 5)).drewN 2) := by
    rw [run_callFunc_extern Tryd.func61 (by kernel_rfl) (by kernel_rfl) (by kernel_rfl) (e := Extern.BytealgMakeNoZero.makeNoZero #[3] #[26]) (by kernel_rfl), hrunM]
    rfl
  clear hrunM
  have i0 : (0 : Int) ≤ (n : Int) := by omega
  have i1 : (n : Int) ≤ (cs.size : Int) := by omega
  obtain ⟨S, hS⟩ : ∃ S, cs.toList.length = S := ⟨_, rfl⟩
  have HC : Hid (((w.alloc (.cells cs 5)).drewN 2).heap[w.heap.size]? = some (.cells cs.toList.toArray 5 (0, 0))) := heap_alloc_new w (.cells cs 5)
  have HB : Hid (Below w.heap.size w ((w.alloc (.cells cs 5)).drewN 2)) := bDrewN (bAlloc (Below.refl _ _) _) 2
  have HSN : Hid (n ≤ S) := by show n ≤ S; rw [← hS]; simpa using hle
  have HF := keepd (splice_fill (L := cs.toList) (S := S) (q := 0) (k := 1) (u := u) hS (fun j hj => absurd hj (Nat.not_lt_zero _)) (by have := HSN.out; omega))
  have HL : Hid (0 + ([bv u] : List Value).length ≤ cs.toList.length) := by show _ ≤ _; rw [hS]; have := HSN.out; simp; omega
  have HN : Hid (([bv u] : List Value).length = Nat.min 1 n) := (Nat.min_eq_left h0).symm
  clear hS hle
  go_enter Tryd.func54, Tryd.ntmps54
  go_wp2_with fail
  with_reducible refine CM.out.mono ?_
  rintro e w ⟨rfl, rfl⟩
  go_wp2_with (with_reducible refine wpList_copy_splice rfl (.tmp 58) (.tmp 59) 26 26 rfl 5 Tryd.underlying26 size5 _ _ _ _ _ _ rfl rfl w.heap.size 0 cs.toList 5 HC.out [bv u] HN.out ?_ HL.out ?_ w.heap.size w HB.out (Nat.le_refl _) ?_)
  · obtain ⟨ad, h1, h2⟩ := HR.out.src (by simp)
    exact ⟨ad, h1, fun j v hv => by
      have h3 := h2 j v hv
      have hlt : ad.block < w.heap.size := by
        obtain ⟨ad', e1, e2⟩ := HR.out.2.2.1 (by simp)
        rw [h1] at e1
        injection e1 with e1
        subst e1
        exact e2
      exact (HB.out.cell (p := ad.add j) (by rw [blk_add]; exact hlt)).trans h3⟩
  · intro v hv
    simp at hv
    subst hv
    rfl
  intro w4 Hw4 hb4
  have HB4 := keepd hb4
  have HF4 : Hid (∃ L, Fil w4 w.heap.size S 1 u L) := ⟨_, Hw4.out, HF.out.1, fun j hj => HF.out.2 j (by omega)⟩
  clear Hw4 hb4 HB HC HF HL HN CM HR hcall
  go_wp2_with fail
  go_loopw [10] (fun v wr => ∃ q : Nat, 1 ≤ q ∧ q ≤ n ∧ v = .int .i64 q ∧ Hid (∃ L, Fil wr w.heap.size S q u L) ∧ Hid (Below w.heap.size w wr)) (fun v _ => n - (intOf v).toNat)
  case atStart => exact ⟨1, by omega, by omega, rfl, HF4, HB4⟩
  case round =>
    obtain ⟨q, hq1, hqn, rfl, HQ, HBq⟩ := hrel
    obtain ⟨L, hL⟩ := HQ.out
    by_cases hlt : q < n
    case neg =>
      obtain rfl : q = n := by omega
      have hz : decide ((q : Int) < (q : Int)) = false := by simp
      go_wp2_with fail
      go_ret
      exact ⟨⟨_, rfl, hL.rd (by omega)⟩, HBq.out⟩
    have hlt' : (q : Int) < (n : Int) := by omega
    have hnq : ¬ (n : Int) < (q : Int) := by omega
    obtain ⟨k, hk⟩ : ∃ k, min q (n - q) = k := ⟨_, rfl⟩
    have HK := keepd hk
    have HF := keepd (splice_fill (k := k) hL.2.1 hL.2.2 (by have := HSN.out; omega))
    have HC := keepd hL.1
    have HN : Hid ((List.replicate k (bv u)).length = Nat.min q (n - q)) := by show _ = _; rw [List.length_replicate]; exact hk.symm
    have HP : Hid (∀ j v, (List.replicate k (bv u))[j]? = some v → wr.cell? (Addr.add ⟨w.heap.size, 0, none⟩ j) = some v) := fun j v hv => by
      rw [List.getElem?_replicate] at hv
      split at hv
      · injection hv with hv
        subst hv
        rw [add_lit0]
        exact hL.cell (by omega)
      · cases hv
    have HL : Hid (q + (List.replicate k (bv u)).length ≤ L.length) := by show _ ≤ _; rw [hL.2.1, List.length_replicate]; have := HSN.out; omega
    have hs1 := slice_from (some ⟨w.heap.size, 0, none⟩) n n q (by omega)
    rw [if_neg (by omega), Option.map_some, Addr.add_lit, Nat.zero_add] at hs1
    have i2 : (0 : Int) ≤ (q : Int) := by omega
    have i3 : (q : Int) ≤ (n : Int) := by omega
    have wk : IntKind.i64.wrap ((q : Int) + (k : Int)) = ((q + k : Nat) : Int) := by rw [IntKind.wrap_i64]; omega
    have hqk : q + k ≤ n := by omega
    have hk1 : 1 ≤ k := by omega
    clear hL hk HQ
    go_wp2_with fail
    go_region_held3 (fun W => Below w.heap.size w W) (first | exact HBq.out.drew | assumption)
      (first | (refine step_copy_splice rfl (.tmp 70) (.tmp 73) 26 26 rfl 5 Tryd.underlying26 size5 _ _ _ _ _ _ rfl rfl w.heap.size q L 5 HC.out (List.replicate k (bv u)) HN.out (fun _ => ⟨rfl, _, rfl, HP.out⟩) HL.out (fun v hv => by rw [List.eq_of_mem_replicate hv]; rfl) w.heap.size w HBq.out.drew (Nat.le_refl _) ?_; intro w' Hw' hbw'; rw [List.length_replicate]))
    have HF5 : Hid (∃ L, Fil w' w.heap.size S (q + k) u L) := ⟨_, Hw'.out, HF.out.1, HF.out.2⟩
    have HB5 := keepd hbw'
    clear Hw' hbw' HF HC HN HP HL
    go_wp2_with fail
    go_roundw
    case rel => exact ⟨q + k, by omega, by omega, by go_num, HF5, HB5⟩
    case measure => simp [intOf]; omega

end Go.Proofs.YtecihodifgjkoaaDoor
