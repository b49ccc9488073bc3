/-
  A contract over the library as layer 3 calls it: bytes.Replace and bytes.ReplaceAll of 255 by two of them. No conditions beyond those each theorem states.
-/
import Derived.Test.YtmgkfibkeonpmaaI2
namespace Go.Proofs.Ytmgkfibkeonpmaa
open Go.RowKit

/-- Octets in new memory: the answer. -/
def GotO (w : World) (l : List UInt8) (e : Ending) (w' : World) : Prop :=
  ∃ A c, e = .returned (.slice A l.length c) ∧ Rd w' w'.heap.size A l c ∧ Below w.heap.size w w'

theorem dbl_step {l : List UInt8} {s j : Nat} (h3 : (255 : UInt8) ∉ (l.drop s).take j) (h4 : (l.drop s).take (j + 1) = (l.drop s).take j ++ [255]) :
    dbl (l.take (s + j + 1)) = (dbl (l.take s) ++ (l.drop s).take j) ++ [255, 255] ∧ (l.take (s + j + 1)).count 255 = (l.take s).count 255 + 1 := by
  have e : l.take (s + j + 1) = l.take s ++ ((l.drop s).take j ++ [255]) := by
    rw [← h4, Nat.add_assoc, List.take_add]
  rw [e]
  constructor
  · rw [dbl_append, dbl_append, dbl_none h3, dbl_255, List.append_assoc]
  · rw [List.count_append, List.count_append, List.count_eq_zero_of_not_mem h3]
    simp

theorem slice_mid (A : Option Addr) (n c k m : Nat) (hk : k ≤ m) (hm : m ≤ c) (W : World) :
    (Instr.sliceAt 22 (.slice A n c) (some (.int .i64 k)) (some (.int .i64 m)) none).run Try.prog W = .ok (.slice (if c = k then A else A.map (·.add k)) (m - k) (c - k)) W := by
  have hs : ∀ W : World, (sizeOf (Try.prog.elem 22)).run Try.prog W = .ok 1 W := fun W => by kernel_rfl
  rw [run_sliceAt_slice _ _ _ _ _ _ (by kernel_rfl), run_slice_lh _ _ _ _ _ (by kernel_rfl) _ _ _ _ (by omega) (by omega) (by omega), hs]
  simp [sliced, Result.andThen]

end Go.Proofs.Ytmgkfibkeonpmaa
