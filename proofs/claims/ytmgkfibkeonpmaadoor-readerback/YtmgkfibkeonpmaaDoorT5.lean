/-
  The contract of nvt.each: the octets, as they lie, are told one by one.
-/
import Derived.Test.YtmgkfibkeonpmaaDoorT4
namespace Go.Proofs.YtmgkfibkeonpmaaDoor
open Go.RowKit

/-- How an octet lies. -/
def lay1 (u : UInt8) : List UInt8 := if u = 255 then [255, 255] else if u = 13 then [13, 10] else [u]
/-- How octets lie, one behind the other. -/
def layL (l : List UInt8) : List UInt8 := l.flatMap lay1

theorem lay1_len (u : UInt8) : 1 ≤ (lay1 u).length ∧ (lay1 u).length ≤ 2 := by unfold lay1; split <;> (try split) <;> simp
theorem layL_len (l : List UInt8) : l.length ≤ (layL l).length ∧ (layL l).length ≤ 2 * l.length := by
  induction l with
  | nil => simp [layL]
  | cons a r ih =>
    have := lay1_len a
    have e : layL (a :: r) = lay1 a ++ layL r := by simp [layL]
    rw [e, List.length_append, List.length_cons]
    omega
theorem layL_take_succ (l : List UInt8) (k : Nat) (h : k < l.length) : layL (l.take (k + 1)) = layL (l.take k) ++ lay1 l[k] := by
  unfold layL
  rw [List.take_succ_eq_append_getElem h, List.flatMap_append]
  simp

set_option maxRecDepth 100000 in
set_option maxHeartbeats 1000000 in
theorem each_any {W : World} {fn : Nat} {cap : Value} {I : List (Nat × Obj) → List UInt8 → World → Prop} (P : Putter W fn cap I) (A : Option Addr) (l : List UInt8) (n c : Nat) (hn : n = l.length) (hr : Rd W W.heap.size A l c) (hl : n ≤ 400)
    (K : List (Nat × Obj)) (w : World) (h : I K [] w) :
    Calls Tryd.prog 45 #[.slice A n c, .func (.func fn) #[] #[cap]] w fun e w' => e = .returned (.tuple #[]) ∧ ∃ K', I K' (layL l) w' := by
  have HN := keepd hn
  have HR := keepd hr
  have b1 : n ≤ c := by have := hr.1; omega
  have b2 : c ≤ maxLen := hr.2.1
  have hz := zero35
  unfold maxLen at b2
  have H := keepd h
  have hin := P.enters
  clear hr hn h
  go_enter Tryd.func45, Tryd.ntmps45
  go_wp2_with fail
  with_reducible refine (ways_any fn cap w).mono ?_
  rintro e w1 ⟨rfl, hq, hb⟩
  have hst := run_lies (fn := fn) (cap := cap) (q := w.heap.size) (heap_alloc_new w1 (.cells Z35 66))
  have hsz := lies_size (.func (.func fn) #[] #[cap]) w.heap.size
  have HQ := keepd hq
  have HB := keepd hb
  clear hq hb
  go_wp2_with fail
  have z1 := HB.out.size
  have z2 := lt_of_block HQ.out
  have R1 := keepd ((setRow_other (w1.alloc (.cells Z35 66)) w1.heap.size w.heap.size (liesOf (.func (.func fn) #[] #[cap]) w.heap.size) (by omega)).trans (row_alloc HQ.out))
  have R2 := keepd (setRow_heap (w1.alloc (.cells Z35 66)) w1.heap.size Z35 (liesOf (.func (.func fn) #[] #[cap]) w.heap.size) 66 (0, 0) (heap_alloc_new w1 _))
  have R3 := keepd (below_setRow (bAlloc HB.out (.cells Z35 66)) z1 (liesOf (.func (.func fn) #[] #[cap]) w.heap.size))
  have R4 := keepd (P.add K [(w1.heap.size, .cells (liesOf (.func (.func fn) #[] #[cap]) w.heap.size) 66 (0, 0)), (w.heap.size, .cells #[.func (.func fn) #[] #[cap]] 57 (0, 0))] [] w _ H.out R3.out (by
    intro k o hko
    simp only [List.mem_cons, List.not_mem_nil, or_false, Prod.mk.injEq] at hko
    rcases hko with ⟨rfl, rfl⟩ | ⟨rfl, rfl⟩
    · exact ⟨z1, R2.out⟩
    · exact ⟨Nat.le_refl _, R1.out⟩))
  obtain ⟨KK, hKK⟩ : ∃ KK, KK = [(w1.heap.size, Obj.cells (liesOf (.func (.func fn) #[] #[cap]) w.heap.size) 66 (0, 0)), (w.heap.size, .cells #[.func (.func fn) #[] #[cap]] 57 (0, 0))] ++ K := ⟨_, rfl⟩
  have M1 : (w1.heap.size, Obj.cells (liesOf (.func (.func fn) #[] #[cap]) w.heap.size) 66 (0, 0)) ∈ KK := by rw [hKK]; simp
  have M2 : (w.heap.size, Obj.cells #[.func (.func fn) #[] #[cap]] 57 (0, 0)) ∈ KK := by rw [hKK]; simp
  rw [← hKK] at R4
  have HM1 := keepd M1
  have HM2 := keepd M2
  clear hKK M1 M2 hst hsz hz z1 z2 R1 R2 R3 H
  generalize (w1.alloc (.cells Z35 66)).setRow w1.heap.size (liesOf (.func (.func fn) #[] #[cap]) w.heap.size) = V at *
  go_loopw [11] (fun i wr => ∃ k : Nat, k ≤ n ∧ i = .int .i64 k ∧ Hid (I KK (layL (l.take k)) wr)) (fun i _ => n - (intOf i).toNat)
  case atStart => exact ⟨0, by omega, rfl, R4⟩
  case round =>
    obtain ⟨k, hk, rfl, J⟩ := hrel
    by_cases hlt : k < n
    · have hkl : k < l.length := by rw [← HN.out]; omega
      obtain ⟨b', off', hA', hbl, hce⟩ := (HR.out.at_ (P.below _ _ _ J.out)).form hkl
      subst hA'
      have hll : (layL (l.take k)).length ≤ 800 := by have := (layL_len (l.take k)).2; rw [List.length_take] at this; omega
      have HLL := keepd hll
      have HS := keepd (layL_take_succ l k hkl)
      obtain ⟨u, hu⟩ : ∃ u, l[k] = u := ⟨_, rfl⟩
      rw [hu] at hce HS
      have i1 : (0 : Int) ≤ (k : Int) := by omega
      have i2 : (k : Int) < (n : Int) := by omega
      have hrow := P.got _ _ _ J.out _ _ HM1.out
      have HROW := keepd hrow
      clear hu hll hrow
      by_cases e1 : u = 255
      · subst e1
        have hc := (cell_of_row _ _ 255 _ _ _ HROW.out).trans (lies_mark _ _)
        unfold markF at hc
        have hp := mark_any P KK (layL (l.take k)) wr w.heap.size 255 HM2.out J.out (by have := HLL.out; omega)
        rw [show ((255 : UInt8).toNat : Int) = 255 from rfl] at hp hce
        have HP := keepd hp
        clear hp
        go_wp2_with fail
        with_reducible refine HP.out.mono ?_
        rintro e w2 ⟨rfl, h2⟩
        have H2 := keepd h2
        clear h2 hc hce
        go_wp2
        go_roundw
        case rel => exact ⟨k + 1, by omega, by go_num, by show I _ _ _; rw [HS.out]; exact H2.out⟩
        case measure => simp [intOf]; omega
      · by_cases e2 : u = 13
        · subst e2
          have hc := (cell_of_row _ _ 13 _ _ _ HROW.out).trans (lies_enter _ _)
          unfold enterF at hc
          have hp := enter_any P KK (layL (l.take k)) wr w.heap.size 13 HM2.out J.out (by have := HLL.out; omega)
          rw [show ((13 : UInt8).toNat : Int) = 13 from rfl] at hp hce
          have HP := keepd hp
          clear hp e1
          go_wp2_with fail
          with_reducible refine HP.out.mono ?_
          rintro e w2 ⟨rfl, h2⟩
          have H2 := keepd h2
          clear h2 hc hce
          go_wp2
          go_roundw
          case rel => exact ⟨k + 1, by omega, by go_num, by show I _ _ _; rw [HS.out]; exact H2.out⟩
          case measure => simp [intOf]; omega
        · have hu1 : u.toNat < 256 := u.toNat_lt
          have hx1 : (u.toNat : Int) < 256 := by omega
          have hc := (cell_of_row _ _ u.toNat _ _ _ HROW.out).trans (lies_other (.func (.func fn) #[] #[cap]) w.heap.size u.toNat hu1 (fun e => e1 (UInt8.toNat_inj.1 e)) (fun e => e2 (UInt8.toNat_inj.1 e)))
          have HP := keepd (P.put KK (layL (l.take k)) wr u (by have := HLL.out; omega) J.out)
          have HL1 : Hid (lay1 u = [u]) := by show _ = _; unfold lay1; rw [if_neg e1, if_neg e2]
          clear e1 e2 hu1
          go_wp2_with fail
          with_reducible refine HP.out.mono ?_
          rintro e w2 ⟨rfl, h2⟩
          have H2 := keepd h2
          clear h2 hc hce
          go_wp2
          go_roundw
          case rel => exact ⟨k + 1, by omega, by go_num, by show I _ _ _; rw [HS.out, HL1.out]; exact H2.out⟩
          case measure => simp [intOf]; omega
    · obtain rfl : n = k := by omega
      go_wp2
      go_end0
      exact ⟨rfl, KK, by have := J.out; rw [HN.out, List.take_length] at this; exact this⟩

end Go.Proofs.YtmgkfibkeonpmaaDoor
