/-
  The contract of nvt.ways: the array of 256 closures.
-/
import Derived.Test.YtmgkfibkeonpmaaT3
namespace Go.Proofs.Ytmgkfibkeonpmaa
open Go.RowKit

/-- A new array of closures: none is there yet. -/
def Z35 : Array Value := Array.replicate 256 .nilFunc
/-- The first k are there. -/
def fillC (f : Value) (k : Nat) : Array Value := (List.replicate k f ++ List.replicate (256 - k) Value.nilFunc).toArray
theorem fillC_zero (f : Value) : Z35 = fillC f 0 := by
  unfold Z35 fillC
  rw [List.replicate_zero, List.nil_append, Nat.sub_zero, List.toArray_replicate]
theorem fillC_size (f : Value) (k : Nat) (h : k ≤ 256) : (fillC f k).size = 256 := by unfold fillC; rw [List.size_toArray, List.length_append, List.length_replicate, List.length_replicate]; omega
theorem fillC_at (f : Value) (k : Nat) (h : k < 256) : (fillC f k)[k]? = some .nilFunc := by
  unfold fillC
  rw [List.getElem?_toArray, List.getElem?_append_right (by simp)]
  rw [List.length_replicate, Nat.sub_self, List.getElem?_replicate, if_pos (by omega)]
theorem fillC_set (f : Value) (k : Nat) (h : k < 256) : (fillC f k).setIfInBounds k f = fillC f (k + 1) := by
  unfold fillC
  obtain ⟨m, hm⟩ : ∃ m, 256 - k = m + 1 := ⟨256 - k - 1, by omega⟩
  have hm' : 256 - (k + 1) = m := by omega
  rw [hm, hm', List.setIfInBounds_toArray, List.set_append_right _ _ (by simp), List.length_replicate, Nat.sub_self, List.replicate_succ, List.set_cons_zero, List.replicate_succ' (n := k), List.append_assoc]
  rfl

theorem fillC_all (f : Value) (j : Nat) (hj : j < 256) : (fillC f 256)[j]? = some f := by
  unfold fillC
  rw [List.getElem?_toArray, List.getElem?_append_left (by rw [List.length_replicate]; exact hj), List.getElem?_replicate, if_pos hj]
theorem row_free {w : World} {g i : Nat} {cs : Array Value} {t : TypeId} (h : w.heap[g]? = some (.cells cs t (0, 0))) : w.frozen? ⟨g, i, none⟩ = false := by simp [World.frozen?, h]

theorem far_set {w : World} {g b i : Nat} {o : Obj} {u : Value} (hb : g ≠ b) (h : w.heap[g]? = some o) : (w.setCell ⟨b, i, none⟩ u).heap[g]? = some o := (Below.heap_setCell _ ⟨b, i, none⟩ _ _ hb).trans h

end Go.Proofs.Ytmgkfibkeonpmaa
