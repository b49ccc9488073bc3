/-
  The contract of nvt.ways: the array of 256 closures.
-/
import Derived.Test.YtmgkfibkeonpmaaDoorT3
namespace Go.Proofs.YtmgkfibkeonpmaaDoor
open Go.RowKit

/-- A new array of closures: none is there yet. -/
def Z35 : Array Value := Array.replicate 256 .nilFunc
theorem zero35 (w : World) : (zeroValue 66).run Tryd.prog w = .ok (.agg Z35) w := by kernel_rfl
theorem info35 : (Tryd.prog.info? 66).map (·.size) = some 256 := by kernel_rfl

/-- The first k are there. -/
def fillC (f : Value) (k : Nat) : Array Value := (List.replicate k f ++ List.replicate (256 - k) Value.nilFunc).toArray
theorem fillC_zero (f : Value) : Z35 = fillC f 0 := by
  unfold Z35 fillC
  rw [List.replicate_zero, List.nil_append, Nat.sub_zero, List.toArray_replicate]
theorem fillC_size (f : Value) (k : Nat) (h : k ≤ 256) : (fillC f k).size = 256 := by unfold fillC; rw [List.size_toArray, List.length_append, List.length_replicate, List.length_replicate]; omega
theorem fillC_at (f : Value) (k : Nat) (h : k < 256) : (fillC f k)[k]? = some .nilFunc := by
  unfold fillC
  rw [List.getElem?_toArray, List.getElem?_append_right (by simp)]
  rw [List.length_replicate, Nat.sub_self, List.getElem?_replicate, if_pos (by omega)]
theorem fillC_set (f : Value) (k : Nat) (h : k < 256) : (fillC f k).setIfInBounds k f = fillC f (k + 1) := by
  unfold fillC
  obtain ⟨m, hm⟩ : ∃ m, 256 - k = m + 1 := ⟨256 - k - 1, by omega⟩
  have hm' : 256 - (k + 1) = m := by omega
  rw [hm, hm', List.setIfInBounds_toArray, List.set_append_right _ _ (by simp), List.length_replicate, Nat.sub_self, List.replicate_succ, List.set_cons_zero, List.replicate_succ' (n := k), List.append_assoc]
  rfl

def markF (q : Nat) : Value := .func (.func 52) #[] #[.pointer (some ⟨q, 0, none⟩)]
def enterF (q : Nat) : Value := .func (.func 53) #[] #[.pointer (some ⟨q, 0, none⟩)]

/-- How each octet lies: the array as it is answered. -/
def liesOf (f : Value) (q : Nat) : Array Value := ((fillC f 256).setIfInBounds 255 (markF q)).setIfInBounds 13 (enterF q)
theorem lies_size (f : Value) (q : Nat) : (liesOf f q).size = 256 := by unfold liesOf; simp [fillC_size]
theorem fillC_all (f : Value) (j : Nat) (hj : j < 256) : (fillC f 256)[j]? = some f := by
  unfold fillC
  rw [List.getElem?_toArray, List.getElem?_append_left (by rw [List.length_replicate]; exact hj), List.getElem?_replicate, if_pos hj]
theorem lies_mark (f : Value) (q : Nat) : (liesOf f q)[255]? = some (markF q) := by
  unfold liesOf
  rw [Array.getElem?_setIfInBounds, if_neg (by decide), Array.getElem?_setIfInBounds, if_pos rfl, if_pos (by rw [fillC_size _ _ (by omega)]; omega)]
theorem lies_enter (f : Value) (q : Nat) : (liesOf f q)[13]? = some (enterF q) := by
  unfold liesOf
  rw [Array.getElem?_setIfInBounds, if_pos rfl, if_pos (by rw [Array.size_setIfInBounds, fillC_size _ _ (by omega)]; omega)]
theorem lies_other (f : Value) (q j : Nat) (hj : j < 256) (h1 : j ≠ 255) (h2 : j ≠ 13) : (liesOf f q)[j]? = some f := by
  unfold liesOf
  rw [Array.getElem?_setIfInBounds, if_neg (by omega), Array.getElem?_setIfInBounds, if_neg (by omega), fillC_all f j hj]
theorem lies_one (f : Value) (q : Nat) (hf : f.oneCell' = true) : (liesOf f q).all (·.oneCell') = true := by
  rw [Array.all_eq_true_iff_forall_mem]
  intro x hx
  unfold liesOf at hx
  rcases Array.mem_or_eq_of_mem_setIfInBounds hx with h | rfl
  · rcases Array.mem_or_eq_of_mem_setIfInBounds h with h | rfl
    · unfold fillC at h
      rw [List.mem_toArray, List.mem_append] at h
      rcases h with h | h
      · rw [List.eq_of_mem_replicate h]; exact hf
      · rw [Nat.sub_self, List.replicate_zero] at h; cases h
    · rfl
  · rfl

/-- ways has answered. -/
def GotW (w : World) (f : Value) (e : Ending) (w' : World) : Prop :=
  e = .returned (.agg (liesOf f w.heap.size)) ∧ w'.heap[w.heap.size]? = some (.cells #[f] 57 (0, 0)) ∧ Below w.heap.size w w'

theorem row_free {w : World} {g i : Nat} {cs : Array Value} {t : TypeId} (h : w.heap[g]? = some (.cells cs t (0, 0))) : w.frozen? ⟨g, i, none⟩ = false := by simp [World.frozen?, h]

theorem far_set {w : World} {g b i : Nat} {o : Obj} {u : Value} (hb : g ≠ b) (h : w.heap[g]? = some o) : (w.setCell ⟨b, i, none⟩ u).heap[g]? = some o := (Below.heap_setCell _ ⟨b, i, none⟩ _ _ hb).trans h

theorem lies_set {w : World} {g q : Nat} {f : Value} (h : w.heap[g]? = some (.cells (fillC f 256) 66 (0, 0))) :
    ((w.setCell ⟨g, 255, none⟩ (.func (.func 52) #[] #[.pointer (some ⟨q, 0, none⟩)])).setCell ⟨g, 13, none⟩ (.func (.func 53) #[] #[.pointer (some ⟨q, 0, none⟩)])).heap[g]? = some (.cells (liesOf f q) 66 (0, 0)) :=
  row_set _ _ 13 _ _ 66 (row_set _ _ 255 _ _ 66 h)

theorem run_lies {w : World} {g q fn : Nat} {cap : Value} (h : w.heap[g]? = some (.cells Z35 66 (0, 0))) :
    (storeCells ⟨g, 0, none⟩ (liesOf (.func (.func fn) #[] #[cap]) q).toList).run Tryd.prog w = .ok () (w.setRow g (liesOf (.func (.func fn) #[] #[cap]) q)) := by
  have h1 := lies_one (.func (.func fn) #[] #[cap]) q rfl
  have := run_storeCells_from (P := Tryd.prog) g 66 (liesOf (.func (.func fn) #[] #[cap]) q).toList 0 Z35 w h (by rw [Array.length_toList, lies_size]; unfold Z35; rw [Array.size_replicate]) (fun v hv => (Array.all_eq_true_iff_forall_mem.1 h1) v (by simpa using hv))
  rw [this]
  simp

set_option maxRecDepth 100000 in
set_option maxHeartbeats 1000000 in
theorem ways_any (fn : Nat) (cap : Value) (w : World) : Calls Tryd.prog 48 #[.func (.func fn) #[] #[cap]] w (GotW w (.func (.func fn) #[] #[cap])) := by
  have hz := zero35
  have hmf : ∀ (fn : Fn) (first cap : Array Value) (w : World), (Instr.makeFunc fn first cap).run Tryd.prog w = .ok (.func fn first cap) w := fun _ _ _ _ => rfl
  have hsf : ∀ (a : Addr) (fn : Fn) (first c : Array Value) (w : World), (store a (.func fn first c)).run Tryd.prog w = stored Tryd.prog w a (.func fn first c) .plain := fun a fn first c w => run_store Tryd.prog w a (.func fn first c) .plain rfl
  go_enter Tryd.func48, Tryd.ntmps48
  go_wp2_with fail
  go_loopw [5] (fun i wr => ∃ k : Nat, k ≤ 256 ∧ i = .int .i64 k ∧ Hid (wr.heap[w.heap.size]? = some (.cells #[.func (.func fn) #[] #[cap]] 57 (0, 0))) ∧ Hid (wr.heap[w.heap.size + 1]? = some (.cells Z35 66 (0, 0))) ∧
      Hid (wr.heap[w.heap.size + 1 + 1]? = some (.cells (fillC (.func (.func fn) #[] #[cap]) k) 66 (0, 0))) ∧ Hid (Below w.heap.size w wr)) (fun i _ => 256 - (intOf i).toNat)
  case atStart => exact ⟨0, by omega, rfl, row_alloc (row_alloc (heap_alloc_new w _)), row_alloc (n3 w _ _), (n4 w _ _ _).trans (by rw [fillC_zero]), bAlloc (bAlloc (bAlloc (Below.refl _ _) _) _) _⟩
  case round =>
    obtain ⟨k, hk, rfl, J1, J2, J3, J4⟩ := hrel
    have c1 := cell_of_one J1.out
    have x1 := lt_of_block J3.out
    by_cases hlt : k < 256
    · have c3 : wr.cell? ⟨w.heap.size + 1 + 1, k, none⟩ = some .nilFunc := by rw [cell_of_row _ _ _ _ _ _ J3.out]; exact fillC_at _ k hlt
      have f3 : wr.frozen? ⟨w.heap.size + 1 + 1, k, none⟩ = false := row_free J3.out
      go_wp2
      go_roundw
      case rel => exact ⟨k + 1, by omega, by go_num, far_set (by omega) J1.out, far_set (by omega) J2.out, (row_set _ _ k _ _ 66 J3.out).trans (by rw [fillC_set _ k hlt]), bSet J4.out (by omega) _⟩
      case measure => simp [intOf]; omega
    · obtain rfl : k = 256 := by omega
      have c3 : wr.cell? ⟨w.heap.size + 1 + 1, 255, none⟩ = some (.func (.func fn) #[] #[cap]) := by rw [cell_of_row _ _ _ _ _ _ J3.out]; exact fillC_all _ 255 (by omega)
      have f3 : wr.frozen? ⟨w.heap.size + 1 + 1, 255, none⟩ = false := row_free J3.out
      have c4 : wr.cell? ⟨w.heap.size + 1 + 1, 13, none⟩ = some (.func (.func fn) #[] #[cap]) := by rw [cell_of_row _ _ _ _ _ _ J3.out]; exact fillC_all _ 13 (by omega)
      have f4 : wr.frozen? ⟨w.heap.size + 1 + 1, 13, none⟩ = false := row_free J3.out
      have s1 := Below.size J4.out
      have R1 := keepd (far_set (b := w.heap.size + 1 + 1) (i := 13) (u := .func (.func 53) #[] #[.pointer (some ⟨w.heap.size, 0, none⟩)]) (by omega) (far_set (b := w.heap.size + 1 + 1) (i := 255) (u := .func (.func 52) #[] #[.pointer (some ⟨w.heap.size, 0, none⟩)]) (by omega) J1.out))
      have R2 := keepd (far_set (b := w.heap.size + 1 + 1) (i := 13) (u := .func (.func 53) #[] #[.pointer (some ⟨w.heap.size, 0, none⟩)]) (by omega) (far_set (b := w.heap.size + 1 + 1) (i := 255) (u := .func (.func 52) #[] #[.pointer (some ⟨w.heap.size, 0, none⟩)]) (by omega) J2.out))
      have R3 := keepd (lies_set (q := w.heap.size) J3.out)
      have R4 := keepd (bSet (b := w.heap.size + 1 + 1) (i := 13) (bSet (b := w.heap.size + 1 + 1) (i := 255) J4.out (by omega) (.func (.func 52) #[] #[.pointer (some ⟨w.heap.size, 0, none⟩)])) (by omega) (.func (.func 53) #[] #[.pointer (some ⟨w.heap.size, 0, none⟩)]))
      clear s1
      go_wp2_with fail
      generalize (wr.setCell ⟨w.heap.size + 1 + 1, 255, none⟩ (.func (.func 52) #[] #[.pointer (some ⟨w.heap.size, 0, none⟩)])).setCell ⟨w.heap.size + 1 + 1, 13, none⟩ (.func (.func 53) #[] #[.pointer (some ⟨w.heap.size, 0, none⟩)]) = V at *
      refine wp_load_row 66 (.tmp 3) rfl (w.heap.size + 1 + 1) rfl 66 _ (0, 0) _ R3.out Tryd.underlying66 rfl (by rw [lies_size]; exact info35) ?_
      have hst := run_lies (fn := fn) (cap := cap) (q := w.heap.size) R2.out
      have hsz := lies_size (.func (.func fn) #[] #[cap]) w.heap.size
      clear c1 c3 c4 f3 f4 hmf hsf hz J1 J2 J3 J4
      go_wp2_with fail
      refine bodyPost_ret (results_cell_row rfl _ _ (w.heap.size + 1) 66 (liesOf (.func (.func fn) #[] #[cap]) w.heap.size) (0, 0) _ rfl (setRow_heap _ _ Z35 _ _ _ R2.out) Tryd.underlying66 rfl (by rw [lies_size]; exact info35)) rfl ⟨rfl, ?_, ?_⟩
      · exact (setRow_other _ _ _ _ (by omega)).trans R1.out
      · exact below_setRow R4.out (by omega) _

end Go.Proofs.YtmgkfibkeonpmaaDoor
