/-
  Several texts in one: N1 N2a N2 N3 N4. No conditions beyond those each theorem states.
-/
import Derived.Test.YtlfmbfecajhffaaDoorA3
import Derived.Test.YtlfmbfecajhffaaDoorW1
import Derived.Laws.Bits64b
import Derived.Lib.MakeNoZero
import Derived.Laws.CopyOwn
import Derived.Deep.RegionLaw
/-
  The contract of Plain. No conditions beyond those each theorem states.
-/
namespace Go.Proofs.YtlfmbfecajhffaaDoor
open Go.RowKit
set_option maxRecDepth 100000

attribute [local go_sem ↓] ex_ld25 ex_st25 ex_al25 ex_bu25 ex_ix25 ex_eq25 ex_ne25 ex_eq23 ex_ne23 ex_ld25o ex_st65 ex_al65 ex_bu65 ex_bu65s
attribute [local go_sem] ptrB_at okPtr_at aggC_at agg62 agg69 isC_at isT_at eqV_t eqV_c isRow_new isRow_new65 World.setRow_alloc_new ptr4_at okPtr4_at cutT_at isI_at isS_at bW_at bWs_at

theorem plain_or (X : Tb) (u : UInt8) : plainB X u = decide (meanF X (u.toNat : Int) = 0 ∨ meanF X (u.toNat : Int) = 17 ∨ meanF X (u.toNat : Int) = 18) := by
  unfold plainB
  generalize meanF X (u.toNat : Int) = m
  by_cases h0 : m = 0
  · subst h0; rfl
  by_cases h1 : m = 17
  · subst h1; rfl
  by_cases h2 : m = 18
  · subst h2; rfl
  simp [h0, h1, h2]
set_option maxHeartbeats 2000000 in
theorem plain_any (X : Tb) (u : UInt8) (r : Bool) (hr : plainB X u = r) (w : World) : Calls Tryd.prog 70 #[tv X, .int .u8 (u.toNat : Int)] w fun e w' => e = .returned (.bool r) ∧ Below w.heap.size w w' := by
  obtain ⟨m, hm⟩ : ∃ m, meanF X (u.toNat : Int) = m := ⟨_, rfl⟩
  rw [plain_or, hm] at hr
  have HQ := keepd hr
  have CM := keepd fun W : World => meaning_any X (u.toNat : Int) m hm W
  clear hr hm
  go_enter Tryd.func70, Tryd.ntmps70
  go_upto_region 1 with fail
  generalize hV : w.alloc (.cells (cs X).toArray 25) = V
  obtain ⟨HT, HB⟩ := tab_new _ _ _ hV
  obtain ⟨q0, q1⟩ := TB.facts HT.out
  clear hV
  go_wp2_with fail
  with_reducible refine (CM.out _).mono ?_
  rintro e w2 ⟨rfl, hb2⟩
  have HB2 := keepd (bCall HB.out hb2)
  clear hb2 CM q0 q1
  have hq := HQ.out
  by_cases h0 : m = 0
  · subst h0
    obtain rfl : true = r := by rw [← hq]; rfl
    have z0 : ((0 : Nat) : Int) = 0 := rfl
    rw [z0]
    go_wp2_with fail
    go_ret
    exact ⟨rfl, HB2.out⟩
  by_cases h1 : m = 17
  · subst h1
    obtain rfl : true = r := by rw [← hq]; rfl
    have z0 : ((17 : Nat) : Int) = 17 := rfl
    rw [z0]
    go_wp2_with fail
    go_ret
    exact ⟨rfl, HB2.out⟩
  by_cases h2 : m = 18
  · subst h2
    obtain rfl : true = r := by rw [← hq]; rfl
    have z0 : ((18 : Nat) : Int) = 18 := rfl
    rw [z0]
    go_wp2_with fail
    go_ret
    exact ⟨rfl, HB2.out⟩
  obtain rfl : false = r := by rw [← hq]; simp [h0, h1, h2]
  have z0 : ((m : Int) == 0) = false := by simp; omega
  have z1 : ((m : Int) == 17) = false := by simp; omega
  have z2 : ((m : Int) == 18) = false := by simp; omega
  have y0 : ¬ (m : Int) = 0 := by omega
  have y1 : ¬ (m : Int) = 17 := by omega
  have y2 : ¬ (m : Int) = 18 := by omega
  clear h0 h1 h2 hq
  go_wp2_with fail
  go_ret
  exact ⟨rfl, HB2.out⟩

end Go.Proofs.YtlfmbfecajhffaaDoor
/-
  The product of one and a number. No conditions beyond those each theorem states.
-/
namespace Go.Proofs.YtlfmbfecajhffaaDoor
open Go.RowKit
set_option maxRecDepth 100000

attribute [local go_sem ↓] ex_ld25 ex_st25 ex_al25 ex_bu25 ex_ix25 ex_eq25 ex_ne25 ex_eq23 ex_ne23 ex_ld25o ex_st65 ex_al65 ex_bu65 ex_bu65s
attribute [local go_sem] ptrB_at okPtr_at aggC_at agg62 agg69 isC_at isT_at eqV_t eqV_c isRow_new isRow_new65 World.setRow_alloc_new ptr4_at okPtr4_at cutT_at isI_at isS_at bW_at bWs_at

theorem and_small {n : Nat} (hn : n ≤ 1000000) : bits .and .u64 (n : Int) 4294967295 = (n : Int) := by
  have h := bits_and_u64_nat n 4294967295 (by omega) (by omega)
  rw [show n &&& 4294967295 = n % 4294967296 from Nat.and_two_pow_sub_one_eq_mod n 32, Nat.mod_eq_of_lt (by omega)] at h
  exact h
set_option maxHeartbeats 1000000 in
theorem mul64_one (n : Nat) (hn : n ≤ 1000000) (w : World) : Calls Tryd.prog 108 #[.int .u64 1, .int .u64 (n : Int)] w fun e w' => e = .returned (.tuple #[.int .u64 0, .int .u64 (n : Int)]) ∧ w' = w := by
  have a1 : bits .and .u64 1 4294967295 = 1 := by decide +kernel
  have a0 : bits .and .u64 0 4294967295 = 0 := by decide +kernel
  have a2 := and_small hn
  have d0 : (n : Int) / 4294967296 = 0 := by omega
  have w1 : IntKind.u64.wrap (n : Int) = (n : Int) := by rw [IntKind.wrap_u64]; omega
  have w0 : IntKind.u64.wrap 0 = 0 := by decide
  go_enter Tryd.func108, Tryd.ntmps108
  go_wp2_with fail
  go_ret2
  exact ⟨rfl, rfl⟩
set_option maxHeartbeats 1000000 in
theorem mul_one_any (n : Nat) (hn : n ≤ 1000000) (w : World) : Calls Tryd.prog 104 #[.int .u64 1, .int .u64 (n : Int)] w fun e w' => e = .returned (.tuple #[.int .u64 0, .int .u64 (n : Int)]) ∧ w' = w := by
  have C := keepd (mul64_one n hn w)
  go_enter Tryd.func104, Tryd.ntmps104
  go_wp2_with fail
  with_reducible refine C.out.mono ?_
  rintro e w ⟨rfl, rfl⟩
  go_wp2_with fail
  go_ret2
  exact ⟨rfl, rfl⟩

end Go.Proofs.YtlfmbfecajhffaaDoor
/-
  The contract of Repeat, of one octet. No conditions beyond those each theorem states.
-/
namespace Go.Proofs.YtlfmbfecajhffaaDoor
open Go.RowKit
set_option maxRecDepth 100000

attribute [local go_sem ↓] ex_ld25 ex_st25 ex_al25 ex_bu25 ex_ix25 ex_eq25 ex_ne25 ex_eq23 ex_ne23 ex_ld25o ex_st65 ex_al65 ex_bu65 ex_bu65s
attribute [local go_sem] ptrB_at okPtr_at aggC_at agg62 agg69 isC_at isT_at eqV_t eqV_c isRow_new isRow_new65 World.setRow_alloc_new ptr4_at okPtr4_at cutT_at isI_at isS_at bW_at bWs_at

/-- Block g is n octets of one kind at its beginning, at least, and of S cells. -/
def Fil (w : World) (g S n : Nat) (u : UInt8) (L : List Value) : Prop := w.heap[g]? = some (.cells L.toArray 5 (0, 0)) ∧ L.length = S ∧ ∀ j, j < n → L[j]? = some (bv u)
theorem Fil.cell {w : World} {g S n : Nat} {u : UInt8} {L : List Value} (h : Fil w g S n u L) {j : Nat} (hj : j < n) : w.cell? ⟨g, j, none⟩ = some (bv u) := by
  rw [cell_of_row w g j _ 5 (0, 0) h.1]
  simpa using h.2.2 j hj
theorem Fil.rd {w : World} {g S n : Nat} {u : UInt8} {L : List Value} (h : Fil w g S n u L) (hn : n ≤ 100000) : Rd w w.heap.size (some ⟨g, 0, none⟩) (List.replicate n u) n := by
  have hlt : g < w.heap.size := (Array.getElem?_eq_some_iff.1 h.1).1
  refine ⟨by simp, by unfold maxLen; omega, fun _ => ⟨_, rfl, hlt⟩, fun a ha j v hv => ?_⟩
  injection ha with ha
  subst ha
  rw [List.getElem?_replicate] at hv
  split at hv
  · rename_i hj
    injection hv with hv
    subst hv
    rw [add_lit0]
    exact h.cell hj
  · cases hv
theorem splice_fill {L : List Value} {S q k : Nat} {u : UInt8} (hL : L.length = S) (h : ∀ j, j < q → L[j]? = some (bv u)) (hk : q + k ≤ S) :
    (splice L q (List.replicate k (bv u))).length = S ∧ ∀ j, j < q + k → (splice L q (List.replicate k (bv u)))[j]? = some (bv u) := by
  refine ⟨by rw [length_splice _ _ _ (by simp; omega)]; exact hL, fun j hj => ?_⟩
  unfold splice
  have e : (L.take q).length = q := by simp; omega
  by_cases h1 : j < q
  · rw [List.getElem?_append_left (by rw [e]; exact h1), List.getElem?_take, if_pos h1]
    exact h j h1
  · rw [List.getElem?_append_right (by rw [e]; omega), e, List.getElem?_append_left (by simp; omega), List.getElem?_replicate, if_pos (by omega)]
set_option maxHeartbeats 2000000 in
theorem repeat_any (A : Option Addr) (u : UInt8) (c n : Nat) (w : World) (hr : Rd w w.heap.size A [u] c) (h0 : 0 < n) (hn : n ≤ 4096) :
    Calls Tryd.prog 83 #[.slice A 1 c, .int .i64 (n : Int)] w fun e w' => (∃ B, e = .returned (.slice B n n) ∧ Rd w' w'.heap.size B (List.replicate n u) n) ∧ Below w.heap.size w w' := by
  have HR := keepd hr
  have CM := keepd (mul_one_any n (by omega) w)
  have n0 : ((n : Int) == 0) = false := by simp; omega
  have n0' : ¬ (n : Int) = 0 := by omega
  have n1 : ¬ (n : Int) < 0 := by omega
  have n2 : ¬ (8192 : Int) < (n : Int) := by omega
  have n3 : ¬ (9223372036854775807 : Int) < (n : Int) := by omega
  have n4 : decide ((8192 : Int) < (n : Int)) = false := by simp; omega
  have n5 : decide ((9223372036854775807 : Int) < (n : Int)) = false := by simp; omega
  have w1 : IntKind.u64.wrap (n : Int) = (n : Int) := by rw [IntKind.wrap_u64]; omega
  have w2 : IntKind.i64.wrap (n : Int) = (n : Int) := by rw [IntKind.wrap_i64]; omega
  have w3 : IntKind.u64.wrap 1 = 1 := by decide
  clear hr
  obtain ⟨cs, hrunM, hle, _⟩ := Lib.run_makeNoZero (P := Tryd.prog) w #[3] 28 5 Tryd.underlying28 n (by omega)
  have hcall : (callFunc 105 #[.int .i64 (n : Int)]).run Tryd.prog w = .ok (.value (.slice (some ⟨w.heap.size, 0, none⟩) n cs.size)) ((w.alloc (.cells cs 5)).drewN 2) := by
    rw [run_callFunc_extern Tryd.func105 (by kernel_rfl) (by kernel_rfl) (by kernel_rfl) (e := Extern.BytealgMakeNoZero.makeNoZero #[3] #[28]) (by kernel_rfl), hrunM]
    rfl
  clear hrunM
  have i0 : (0 : Int) ≤ (n : Int) := by omega
  have i1 : (n : Int) ≤ (cs.size : Int) := by omega
  obtain ⟨S, hS⟩ : ∃ S, cs.toList.length = S := ⟨_, rfl⟩
  have HC : Hid (((w.alloc (.cells cs 5)).drewN 2).heap[w.heap.size]? = some (.cells cs.toList.toArray 5 (0, 0))) := heap_alloc_new w (.cells cs 5)
  have HB : Hid (Below w.heap.size w ((w.alloc (.cells cs 5)).drewN 2)) := bDrewN (bAlloc (Below.refl _ _) _) 2
  have HSN : Hid (n ≤ S) := by show n ≤ S; rw [← hS]; simpa using hle
  have HF := keepd (splice_fill (L := cs.toList) (S := S) (q := 0) (k := 1) (u := u) hS (fun j hj => absurd hj (Nat.not_lt_zero _)) (by have := HSN.out; omega))
  have HL : Hid (0 + ([bv u] : List Value).length ≤ cs.toList.length) := by show _ ≤ _; rw [hS]; have := HSN.out; simp; omega
  have HN : Hid (([bv u] : List Value).length = Nat.min 1 n) := (Nat.min_eq_left h0).symm
  clear hS hle
  go_enter Tryd.func83, Tryd.ntmps83
  go_wp2_with fail
  with_reducible refine CM.out.mono ?_
  rintro e w ⟨rfl, rfl⟩
  go_wp2_with (with_reducible refine wpList_copy_splice rfl (.tmp 58) (.tmp 59) 28 28 rfl 5 Tryd.underlying28 size5 _ _ _ _ _ _ rfl rfl w.heap.size 0 cs.toList 5 HC.out [bv u] HN.out ?_ HL.out ?_ w.heap.size w HB.out (Nat.le_refl _) ?_)
  · obtain ⟨ad, h1, h2⟩ := HR.out.src (by simp)
    exact ⟨ad, h1, fun j v hv => by
      have h3 := h2 j v hv
      have hlt : ad.block < w.heap.size := by
        obtain ⟨ad', e1, e2⟩ := HR.out.2.2.1 (by simp)
        rw [h1] at e1
        injection e1 with e1
        subst e1
        exact e2
      exact (HB.out.cell (p := ad.add j) (by rw [blk_add]; exact hlt)).trans h3⟩
  · intro v hv
    simp at hv
    subst hv
    rfl
  intro w4 Hw4 hb4
  have HB4 := keepd hb4
  have HF4 : Hid (∃ L, Fil w4 w.heap.size S 1 u L) := ⟨_, Hw4.out, HF.out.1, fun j hj => HF.out.2 j (by omega)⟩
  clear Hw4 hb4 HB HC HF HL HN CM HR hcall
  go_wp2_with fail
  go_loopw [10] (fun v wr => ∃ q : Nat, 1 ≤ q ∧ q ≤ n ∧ v = .int .i64 q ∧ Hid (∃ L, Fil wr w.heap.size S q u L) ∧ Hid (Below w.heap.size w wr)) (fun v _ => n - (intOf v).toNat)
  case atStart => exact ⟨1, by omega, by omega, rfl, HF4, HB4⟩
  case round =>
    obtain ⟨q, hq1, hqn, rfl, HQ, HBq⟩ := hrel
    obtain ⟨L, hL⟩ := HQ.out
    by_cases hlt : q < n
    case neg =>
      obtain rfl : q = n := by omega
      have hz : decide ((q : Int) < (q : Int)) = false := by simp
      go_wp2_with fail
      go_ret
      exact ⟨⟨_, rfl, hL.rd (by omega)⟩, HBq.out⟩
    have hlt' : (q : Int) < (n : Int) := by omega
    have hnq : ¬ (n : Int) < (q : Int) := by omega
    obtain ⟨k, hk⟩ : ∃ k, min q (n - q) = k := ⟨_, rfl⟩
    have HK := keepd hk
    have HF := keepd (splice_fill (k := k) hL.2.1 hL.2.2 (by have := HSN.out; omega))
    have HC := keepd hL.1
    have HN : Hid ((List.replicate k (bv u)).length = Nat.min q (n - q)) := by show _ = _; rw [List.length_replicate]; exact hk.symm
    have HP : Hid (∀ j v, (List.replicate k (bv u))[j]? = some v → wr.cell? (Addr.add ⟨w.heap.size, 0, none⟩ j) = some v) := fun j v hv => by
      rw [List.getElem?_replicate] at hv
      split at hv
      · injection hv with hv
        subst hv
        rw [add_lit0]
        exact hL.cell (by omega)
      · cases hv
    have HL : Hid (q + (List.replicate k (bv u)).length ≤ L.length) := by show _ ≤ _; rw [hL.2.1, List.length_replicate]; have := HSN.out; omega
    have hs1 := slice_from (some ⟨w.heap.size, 0, none⟩) n n q (by omega)
    rw [if_neg (by omega), Option.map_some, Addr.add_lit, Nat.zero_add] at hs1
    have i2 : (0 : Int) ≤ (q : Int) := by omega
    have i3 : (q : Int) ≤ (n : Int) := by omega
    have wk : IntKind.i64.wrap ((q : Int) + (k : Int)) = ((q + k : Nat) : Int) := by rw [IntKind.wrap_i64]; omega
    have hqk : q + k ≤ n := by omega
    have hk1 : 1 ≤ k := by omega
    clear hL hk HQ
    go_wp2_with fail
    go_region_held3 (fun W => Below w.heap.size w W) (first | exact HBq.out.drew | assumption)
      (first | (refine step_copy_splice rfl (.tmp 70) (.tmp 73) 28 28 rfl 5 Tryd.underlying28 size5 _ _ _ _ _ _ rfl rfl w.heap.size q L 5 HC.out (List.replicate k (bv u)) HN.out (fun _ => ⟨rfl, _, rfl, HP.out⟩) HL.out (fun v hv => by rw [List.eq_of_mem_replicate hv]; rfl) w.heap.size w HBq.out.drew (Nat.le_refl _) ?_; intro w' Hw' hbw'; rw [List.length_replicate]))
    have HF5 : Hid (∃ L, Fil w' w.heap.size S (q + k) u L) := ⟨_, Hw'.out, HF.out.1, HF.out.2⟩
    have HB5 := keepd hbw'
    clear Hw' hbw' HF HC HN HP HL
    go_wp2_with fail
    go_roundw
    case rel => exact ⟨q + k, by omega, by omega, by go_num, HF5, HB5⟩
    case measure => simp [intOf]; omega

end Go.Proofs.YtlfmbfecajhffaaDoor
/-
  The contracts of first, once, toBeginning. No conditions beyond those each theorem states.
-/
namespace Go.Proofs.YtlfmbfecajhffaaDoor
open Go.RowKit
set_option maxRecDepth 100000

attribute [local go_sem ↓] ex_ld25 ex_st25 ex_al25 ex_bu25 ex_ix25 ex_eq25 ex_ne25 ex_eq23 ex_ne23 ex_ld25o ex_st65 ex_al65 ex_bu65 ex_bu65s
attribute [local go_sem] ptrB_at okPtr_at aggC_at agg62 agg69 isC_at isT_at eqV_t eqV_c isRow_new isRow_new65 World.setRow_alloc_new ptr4_at okPtr4_at cutT_at isI_at isS_at bW_at bWs_at

/-- What a call answers that makes octets. -/
def GotR (w : World) (l : List UInt8) (n : Nat) (e : Ending) (w' : World) : Prop := (∃ A c, e = .returned (.slice A n c) ∧ Rd w' w'.heap.size A l c) ∧ Below w.heap.size w w'
/-- Moves in memory. -/
def mvs (ms : List (Int × Nat)) : List Value := ms.flatMap fun m => [.int .i64 m.1, .int .i64 (m.2 : Int)]
theorem mvs_at {ms : List (Int × Nat)} {k : Nat} (h : k < ms.length) : (mvs ms)[k * 2]? = some (.int .i64 ms[k].1) ∧ (mvs ms)[k * 2 + 1]? = some (.int .i64 (ms[k].2 : Int)) := by
  unfold mvs
  rw [pair_at0, pair_at1, List.getElem?_eq_getElem h]
  exact ⟨rfl, rfl⟩
abbrev MV (W : World) (g : Nat) (ms : List (Int × Nat)) : Prop := SR 112 W g (mvs ms)
theorem MV.at {W : World} {g k : Nat} {ms : List (Int × Nat)} (h : MV W g ms) (hk : k < ms.length) : W.cell? ⟨g, k * 2, none⟩ = some (.int .i64 ms[k].1) ∧ W.cell? ⟨g, k * 2 + 1, none⟩ = some (.int .i64 (ms[k].2 : Int)) :=
  ⟨(SR.cell h _).trans (mvs_at hk).1, (SR.cell h _).trans (mvs_at hk).2⟩
theorem firstL_no {X : Tb} {ms : List (Int × Nat)} {k : Nat} (hk : k < ms.length) (h : (keyF X ms[k].1).2 = false) : firstL X (ms.drop k) = firstL X (ms.drop (k + 1)) := by
  rw [List.drop_eq_getElem_cons hk]
  rw [firstL, if_neg (by rw [h]; decide)]
theorem firstL_yes {X : Tb} {ms : List (Int × Nat)} {k : Nat} (hk : k < ms.length) (h : (keyF X ms[k].1).2 = true) : firstL X (ms.drop k) = List.replicate ms[k].2 (okt (keyF X ms[k].1).1) := by
  rw [List.drop_eq_getElem_cons hk]
  rw [firstL, if_pos h]
theorem move_new (w : World) (x y : Value) (V : World) (hV : w.alloc (.cells #[x, y] 112) = V) : Hid (SR 112 V w.heap.size [x, y]) ∧ Hid (Below w.heap.size w V) := by
  subst hV
  exact ⟨SR.new 112 w _, bAlloc (Below.refl _ _) _⟩

set_option maxHeartbeats 2000000 in
theorem first_any (X : Tb) (hX : TbO X) (ms : List (Int × Nat)) (g K : Nat) (L : List UInt8) (n : Nat) (w : World) (hg : MV w g ms) (hK : K = ms.length) (hk1 : K ≤ 10) (hms : ∀ m ∈ ms, 1 ≤ m.2 ∧ m.2 ≤ 4096) (hL : firstL X ms = L) (hn : L.length = n) :
    Calls Tryd.prog 72 #[tv X, .slice (some ⟨g, 0, none⟩) K K] w (GotR w L n) := by
  have HG := keepd hg
  have HK := keepd hK
  have HM := keepd hms
  have HL0 : Hid (firstL X (ms.drop 0) = L) := hL
  have HN := keepd hn
  have HX := keepd hX
  clear hg hK hms hL hn hX
  go_enter Tryd.func72, Tryd.ntmps72
  go_upto_region 1 with fail
  generalize hV : w.alloc (.cells (cs X).toArray 25) = V
  obtain ⟨HT, HB⟩ := tab_new _ _ _ hV
  have HGV : Hid (MV V g ms) := SR.call HG.out HB.out HG.out.lt
  clear hV HG
  go_wp2_with fail
  go_loopw [11] (fun vi wr => ∃ k : Nat, k ≤ K ∧ vi = .int .i64 k ∧ Hid (firstL X (ms.drop k) = L) ∧ Hid (Below V.heap.size V wr)) (fun vi _ => K - (intOf vi).toNat)
  case atStart => exact ⟨0, by omega, rfl, HL0, (Below.refl _ _)⟩
  case round =>
    obtain ⟨k, hk, rfl, HLk, HBk⟩ := hrel
    by_cases hlt : k < K
    case neg =>
      obtain rfl : k = K := by omega
      have hl := HLk.out
      rw [HK.out, List.drop_length] at hl
      have hl2 : L = [] := hl.symm
      subst hl2
      have HB9 := keepd (bCall HB.out HBk.out)
      have hn := HN.out
      rw [List.length_nil] at hn
      subst hn
      go_wp2_with fail
      go_ret
      exact ⟨⟨none, 0, rfl, Rd.nil _ _⟩, HB9.out⟩
    have hkl : k < ms.length := by rw [← HK.out]; exact hlt
    have hmk := HM.out _ (List.getElem_mem hkl)
    obtain ⟨c0, c1⟩ := (show MV wr g ms from SR.call HGV.out HBk.out HGV.out.lt).at hkl
    have HNO := keepd (fun h => firstL_no (X := X) hkl h)
    have HYES := keepd (fun h => firstL_yes (X := X) hkl h)
    obtain ⟨⟨f, m⟩, hfm⟩ : ∃ p, ms[k] = p := ⟨_, rfl⟩
    rw [hfm] at hmk c0 c1 HNO HYES
    simp only at hmk c0 c1 HNO HYES
    clear hfm hkl
    obtain ⟨kk, b, hkey⟩ : ∃ kk b, keyF X f = (kk, b) := ⟨_, _, rfl⟩
    have CK := keepd fun W : World => key_any X f kk b hkey W
    have hkb := keyF_bound HX.out f
    rw [hkey] at HNO HYES hkb
    simp only at HNO HYES hkb
    clear hkey
    obtain ⟨u, hu⟩ : ∃ u, okt kk = u := ⟨_, rfl⟩
    have huz : (u.toNat : Int) = kk := by rw [← hu]; exact okt_nat hkb.1 hkb.2
    rw [hu] at HYES
    subst huz
    clear hu hkb
    have i0 : (0 : Int) ≤ (k : Int) := by omega
    have i1 : (k : Int) < (K : Int) := by omega
    go_upto_region 4 with fail
    generalize hW : wr.alloc (.cells #[.int .i64 f, .int .i64 (m : Int)] 112) = W
    generalize hb6 : wr.heap.size = b6
    have H6 : Hid (SR 112 W b6 [.int .i64 f, .int .i64 (m : Int)]) := by rw [← hW, ← hb6]; exact heap_alloc_new wr _
    have HBW : Hid (Below V.heap.size V W) := by rw [← hW]; exact bAlloc HBk.out _
    clear hW hb6
    obtain ⟨q0, q1⟩ := TB.facts (show TB W w.heap.size X from SR.call HT.out HBW.out (SR.lt HT.out))
    have k0 := SR.cell H6.out 0
    have k1 := SR.cell H6.out 1
    simp only [List.getElem?_cons_zero, List.getElem?_cons_succ] at k0 k1
    clear c0 c1 HBk
    go_wp2_with fail
    with_reducible refine (CK.out _).mono ?_
    rintro e w2 ⟨rfl, hb2⟩
    have HB2 := keepd (bCall HBW.out hb2)
    have H62 : Hid (SR 112 w2 b6 [.int .i64 f, .int .i64 (m : Int)]) := SR.call H6.out hb2 H6.out.lt
    clear hb2 CK q0 q1 k0 k1 H6 HBW
    have k1 := SR.cell H62.out 1
    have kl : b6 < w2.heap.size := H62.out.lt
    simp only [List.getElem?_cons_zero, List.getElem?_cons_succ] at k1
    cases b
    case false =>
      have HL2 : Hid (firstL X (ms.drop (k + 1)) = L) := (HNO.out rfl).symm.trans HLk.out
      clear HNO HYES HLk
      go_wp2_with fail
      go_roundw
      case rel => exact ⟨k + 1, by omega, by go_num, HL2, HB2⟩
      case measure => simp [intOf]; omega
    have HL2 : Hid (List.replicate m u = L) := (HYES.out rfl).symm.trans HLk.out
    clear HNO HYES HLk
    have CR := keepd (fun W : World => fun h => repeat_any (some ⟨W.heap.size, 0, none⟩) u 1 m (W.alloc (.cells #[.int .u8 (u.toNat : Int)] 5)) h hmk.1 hmk.2)
    have CR2 := keepd (CR.out w2 (by have := one_rdb w2 u; rw [World.size_alloc]; exact this))
    clear CR
    have HMN : Hid (m = n) := by
      have h1 := congrArg List.length HL2.out
      rw [List.length_replicate] at h1
      exact h1.trans HN.out
    go_wp2_with fail
    with_reducible refine CR2.out.mono ?_
    rintro e w3 ⟨⟨B, rfl, hr⟩, hb3⟩
    have HB3 := keepd (bCall (bCall HB.out HB2.out) (upA hb3))
    have HR3 := keepd hr
    clear hr hb3 CR2
    go_wp2_with fail
    go_ret
    have hr := HR3.out
    rw [HL2.out] at hr
    exact ⟨⟨_, _, ret_slice HMN.out, hr⟩, HB3.out⟩

/-- One move. -/
theorem kL_first (X : Tb) (f : Int) : firstL X [(f, 1)] = kL X f := by unfold firstL firstL kL kN; rfl
theorem once_any (X : Tb) (hX : TbO X) (f : Int) (L : List UInt8) (n : Nat) (w : World) (hL : kL X f = L) (hn : L.length = n) : Calls Tryd.prog 55 #[tv X, .int .i64 f] w (GotR w L n) := by
  have C := keepd fun (W : World) (h : MV W (W.heap.size - 1) [(f, 1)]) => first_any X hX [(f, 1)] (W.heap.size - 1) 1 L n W h rfl (by omega) (by simp) ((kL_first X f).trans hL) hn
  clear hX hL hn
  go_enter Tryd.func55, Tryd.ntmps55
  go_upto_region 1 with fail
  generalize hV : w.alloc (.cells (cs X).toArray 25) = V
  obtain ⟨HT, HB⟩ := tab_new _ _ _ hV
  obtain ⟨q0, q1⟩ := TB.facts HT.out
  clear hV
  have C2 := keepd (C.out (V.alloc (.cells #[.int .i64 f, .int .i64 1] 112)) (by rw [World.size_alloc]; exact SR.new 112 V _))
  rw [World.size_alloc, Nat.add_sub_cancel] at C2
  clear C
  go_wp2_with fail
  with_reducible refine C2.out.mono ?_
  rintro e w3 ⟨⟨A, c, rfl, hr⟩, hb3⟩
  have HB3 := keepd (bCall HB.out (upA hb3))
  have HR3 := keepd hr
  clear hr hb3 C2
  go_wp2_with fail
  go_ret
  exact ⟨⟨_, _, rfl, HR3.out⟩, HB3.out⟩
theorem home_any (X : Tb) (hX : TbO X) (k : Nat) (L : List UInt8) (n : Nat) (w : World) (hk : k ≤ 4096) (hL : homeL X k = L) (hn : L.length = n) : Calls Tryd.prog 54 #[tv X, .int .i64 (k : Int)] w (GotR w L n) := by
  rcases Nat.eq_zero_or_pos k with h0 | h0
  · subst h0
    have hl : L = [] := hL.symm
    subst hl
    rw [List.length_nil] at hn
    subst hn
    go_enter Tryd.func54, Tryd.ntmps54
    go_upto_region 1 with fail
    generalize hV : w.alloc (.cells (cs X).toArray 25) = V
    obtain ⟨HT, HB⟩ := tab_new _ _ _ hV
    clear hV
    go_wp2_with fail
    go_ret
    exact ⟨⟨none, 0, rfl, Rd.nil _ _⟩, HB.out⟩
  have h1 : ¬ (k : Int) = 0 := by omega
  have h2 : ((k : Int) == 0) = false := by simp; omega
  have hl : firstL X [(23, 1), (19, k), (21, k)] = L := by rw [← hL]; unfold homeL; rw [if_neg (by omega)]
  have C := keepd fun (W : World) (h : MV W (W.heap.size - 1) [(23, 1), (19, k), (21, k)]) => first_any X hX [(23, 1), (19, k), (21, k)] (W.heap.size - 1) 3 L n W h rfl (by omega) (by simp; omega) hl hn
  clear hX hL hn hl
  go_enter Tryd.func54, Tryd.ntmps54
  go_upto_region 1 with fail
  generalize hV : w.alloc (.cells (cs X).toArray 25) = V
  obtain ⟨HT, HB⟩ := tab_new _ _ _ hV
  obtain ⟨q0, q1⟩ := TB.facts HT.out
  clear hV
  have C2 := keepd (C.out (V.alloc (.cells #[.int .i64 23, .int .i64 1, .int .i64 19, .int .i64 (k : Int), .int .i64 21, .int .i64 (k : Int)] 112)) (by rw [World.size_alloc]; exact SR.new 112 V _))
  rw [World.size_alloc, Nat.add_sub_cancel] at C2
  clear C
  go_wp2_with fail
  with_reducible refine C2.out.mono ?_
  rintro e w3 ⟨⟨A, c, rfl, hr⟩, hb3⟩
  have HB3 := keepd (bCall HB.out (upA hb3))
  have HR3 := keepd hr
  clear hr hb3 C2
  go_wp2_with fail
  go_ret
  exact ⟨⟨_, _, rfl, HR3.out⟩, HB3.out⟩

end Go.Proofs.YtlfmbfecajhffaaDoor
/-
  The contracts of telling, and of what tells. No conditions beyond those each theorem states.
-/
namespace Go.Proofs.YtlfmbfecajhffaaDoor
open Go.RowKit
set_option maxRecDepth 100000

attribute [local go_sem ↓] ex_ld25 ex_st25 ex_al25 ex_bu25 ex_ix25 ex_eq25 ex_ne25 ex_eq23 ex_ne23 ex_ld25o ex_st65 ex_al65 ex_bu65 ex_bu65s
attribute [local go_sem] ptrB_at okPtr_at aggC_at agg62 agg69 isC_at isT_at eqV_t eqV_c isRow_new isRow_new65 World.setRow_alloc_new ptr4_at okPtr4_at cutT_at isI_at isS_at bW_at bWs_at

/-- What telling answers: a function, and what it captures. -/
def GotF (w : World) (X : Tb) (e : Ending) (w' : World) : Prop :=
  ∃ g h A c, e = .returned (.func (.func 69) #[] #[.pointer (some ⟨g, 0, none⟩), .pointer (some ⟨h, 0, none⟩)]) ∧ TB w' g X ∧ SR 28 w' h [.slice A (kL X 14).length c] ∧ Rd w' w'.heap.size A (kL X 14) c ∧ Below w.heap.size w w'
theorem telling_any (X : Tb) (hX : TbO X) (w : World) : Calls Tryd.prog 52 #[tv X] w (GotF w X) := by
  obtain ⟨n, hn⟩ : ∃ n, (kL X 14).length = n := ⟨_, rfl⟩
  have C := keepd fun W : World => once_any X hX 14 _ n W rfl hn
  have HN := keepd hn
  have hmf : ∀ (fn : Fn) (first cap : Array Value) (w : World), (Instr.makeFunc fn first cap).run Tryd.prog w = .ok (.func fn first cap) w := fun _ _ _ _ => rfl
  clear hX hn
  go_enter Tryd.func52, Tryd.ntmps52
  go_upto_region 1 with fail
  generalize hV : w.alloc (.cells (cs X).toArray 25) = V
  obtain ⟨HT, HB⟩ := tab_new _ _ _ hV
  obtain ⟨q0, q1⟩ := TB.facts HT.out
  clear hV
  go_wp2_with fail
  with_reducible refine (C.out _).mono ?_
  rintro e w2 ⟨⟨A, c, rfl, hr⟩, hb2⟩
  have HR2 := keepd hr
  have HB2 := keepd hb2
  clear hr hb2 C q0 q1
  go_upto_region 2 with fail
  generalize hV : w2.alloc (.cells #[.slice A n c] 28) = V2
  generalize hb6 : w2.heap.size = b6
  have H6 : Hid (SR 28 V2 b6 [.slice A n c]) := by rw [← hV, ← hb6]; exact heap_alloc_new w2 _
  have HB3 : Hid (Below V.heap.size V V2) := by rw [← hV]; exact bAlloc HB2.out _
  have HR3 : Hid (Rd V2 V2.heap.size A (kL X 14) c) := by rw [← hV]; exact HR2.out.at_ (bAlloc (Below.refl _ _) _)
  clear hV hb6 HB2 HR2
  go_wp2_with fail
  go_ret
  have h6 := H6.out
  rw [← HN.out] at h6
  exact ⟨_, _, _, _, rfl, SR.call HT.out HB3.out (SR.lt HT.out), h6, HR3.out, bCall HB.out HB3.out⟩

set_option maxHeartbeats 2000000 in
theorem told_any (X : Tb) (A B : Option Addr) (l : List UInt8) (n c d g h : Nat) (L : List UInt8) (m : Nat) (w : World) (hn : n = l.length) (hr : Rd w w.heap.size A l c) (hl : n ≤ 4096) (hg : TB w g X) (hh : SR 28 w h [.slice B (kL X 14).length d]) (hb : Rd w w.heap.size B (kL X 14) d) (hL : toldL X l = L) (hm : L.length = m) :
    Calls Tryd.prog 69 #[.slice A n c, .pointer (some ⟨g, 0, none⟩), .pointer (some ⟨h, 0, none⟩)] w (GotR w L m) := by
  obtain ⟨j, hj⟩ : ∃ j, (kL X 14).length = j := ⟨_, rfl⟩
  have hj1 : j ≤ 1 := by rw [← hj]; exact kN_len X 14 1
  rw [hj] at hh
  have HN := keepd hn
  have HR0 := keepd hr
  have HG := keepd hg
  have HH := keepd hh
  have HB0 := keepd hb
  have HL := keepd hL
  have HM := keepd hm
  have HJ := keepd hj.symm
  have hc : n ≤ c := by rw [hn]; exact hr.1
  have hcm := hr.2.1
  unfold maxLen at hcm
  have CP := keepd fun (u : UInt8) (W : World) => plain_any X u _ rfl W
  clear hn hr hg hh hb hL hm hj
  go_enter Tryd.func69, Tryd.ntmps69
  go_wp2_with fail
  go_loopw [5, 10] (fun v vi wr => ∃ k : Nat, k ≤ n ∧ vi = .int .i64 k ∧ Hid (Own wr w.heap.size v (toldL X (l.take k))) ∧ Hid (Below w.heap.size w wr)) (fun _ vi _ => n - (intOf vi).toNat)
  case atStart => exact ⟨0, by omega, rfl, (by show Own _ _ _ _; simpa [toldL] using Own.nil w w.heap.size), (Below.refl _ _)⟩
  case round =>
    obtain ⟨k, hk, rfl, HO, HBk⟩ := hrel
    by_cases hlt : k < n
    case neg =>
      obtain rfl : k = n := by omega
      have ho := HO.out
      rw [List.take_of_length_le (by rw [← HN.out]; omega), HL.out] at ho
      obtain ⟨A, c, he, hr⟩ := ho.rd
      rw [show L.length = m from HM.out] at he
      have HR := keepd hr
      have HE := keepd he
      clear ho he hr
      go_wp2_with fail
      go_ret
      exact ⟨⟨A, c, congrArg Ending.returned HE.out, HR.out⟩, HBk.out⟩
    have hkl : k < l.length := by rw [← HN.out]; exact hlt
    have hsu := toldL_succ X hkl
    have hlen := (toldL_len X (l.take k)).2
    rw [List.length_take] at hlen
    obtain ⟨bA, offA, hA, hbA⟩ := HR0.out.addr (by omega)
    subst hA
    have hce := (HR0.out.at_ HBk.out).cellk hkl
    have hu0 : l.getD k 0 = l[k] := getD_at hkl
    rw [hu0] at hce
    generalize l[k] = u at *
    have hq0 : rowOf wr g = (cs X).toArray ∧ isRow wr 25 g 62 = true := TB.facts (show TB wr g X from SR.call HG.out HBk.out (SR.lt HG.out))
    obtain ⟨q0, q1⟩ := hq0
    have HSU := keepd hsu
    have HLE : Hid ((toldL X (l.take k)).length ≤ 8192) := by show _ ≤ _; omega
    have i0 : (0 : Int) ≤ (k : Int) := by omega
    have i1 : (k : Int) < (n : Int) := by omega
    have hbA2 : bA < wr.heap.size := Nat.lt_of_lt_of_le hbA HBk.out.size
    clear hsu hlen hu0 hkl
    obtain ⟨r, hr⟩ : ∃ r, plainB X u = r := ⟨_, rfl⟩
    have CP2 := keepd (CP.out u wr)
    rw [hr] at CP2
    go_wp2_with fail
    with_reducible refine CP2.out.mono ?_
    rintro e w2 ⟨rfl, hb2⟩
    have HB2 := keepd (bCall HBk.out hb2)
    have HO2 := keepd (HO.out.below hb2)
    clear hb2 CP2 HO HBk q0 q1 hce
    have HT1 : Hid (tell1 X u = if r then [u] else kL X 14 ++ [u]) := by show _ = _; unfold tell1; rw [hr]
    clear hr
    cases r
    case true =>
      go_wp2_with (at_builtin; refine wpList_app _ rfl (.tmp 21) (.tmp 23) rfl w.heap.size u5 (toldL X (l.take k)) rfl (HO2.out.alloc _) _ _ 1 1 [u] rfl rfl ((one_rdb w2 u)) (by have := HLE.out; simp; omega) ?_ ?_)
      · exact (bAlloc HB2.out _).size
      intro v3 w3 ho3 hg3 _
      have HB3 := keepd (app_below (bAlloc HB2.out _) (HO2.out.alloc _) hg3)
      have HO4 : Hid (Own w3 w.heap.size v3 (toldL X (l.take (k + 1)))) := by
        show Own _ _ _ _
        rw [HSU.out, HT1.out]
        exact ho3
      clear ho3 hg3 HO2 HB2
      go_wp2_with fail
      go_roundw
      case rel => exact ⟨k + 1, by omega, by go_num, HO4, HB3⟩
      case measure => simp [intOf]; omega
    case false =>
      have kh := SR.cell (show SR 28 w2 h [.slice B j d] from SR.call HH.out HB2.out HH.out.lt) 0
      simp only [List.getElem?_cons_zero] at kh
      go_wp2_with (at_builtin; refine wpList_app _ rfl (.tmp 18) (.tmp 19) rfl w.heap.size u5 (toldL X (l.take k)) rfl HO2.out _ B j d (kL X 14) rfl HJ.out (HB0.out.at_ HB2.out) (by have h1 := HLE.out; have h2 := HJ.out; omega) ?_ ?_)
      · exact HB2.out.size
      intro v3 w3 ho3 hg3 _
      have HB3 := keepd (app_below HB2.out HO2.out hg3)
      have HO3 := keepd ho3
      clear ho3 hg3 HO2 HB2 kh
      go_wp2_with (at_builtin; refine wpList_app _ rfl (.tmp 21) (.tmp 23) rfl w.heap.size v3 (toldL X (l.take k) ++ kL X 14) rfl (HO3.out.alloc _) _ _ 1 1 [u] rfl rfl ((one_rdb w3 u)) (by have h1 := HLE.out; have h2 := HJ.out; rw [List.length_append]; simp; omega) ?_ ?_)
      · exact (bAlloc HB3.out _).size
      intro v4 w4 ho4 hg4 _
      have HB4 := keepd (app_below (bAlloc HB3.out _) (HO3.out.alloc _) hg4)
      have HO4 : Hid (Own w4 w.heap.size v4 (toldL X (l.take (k + 1)))) := by
        show Own _ _ _ _
        rw [HSU.out, HT1.out]
        exact ho4
      clear ho4 hg4 HO3 HB3
      go_wp2_with fail
      go_roundw
      case rel => exact ⟨k + 1, by omega, by go_num, HO4, HB4⟩
      case measure => simp [intOf]; omega

end Go.Proofs.YtlfmbfecajhffaaDoor
