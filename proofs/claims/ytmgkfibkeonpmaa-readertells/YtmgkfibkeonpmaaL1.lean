/-
  A contract over the laws' own 'one': a reader, no more of it than is looked at. No conditions beyond those the theorem states.
-/
import Derived.Test.YtmgkfibkeonpmaaR9
namespace Go.Proofs.Ytmgkfibkeonpmaa
open Go.RowKit

set_option maxHeartbeats 400000 in
theorem one6_any (k a b : Int) (A : Option Addr) (n c : Nat) (w : World) (hn : n ≤ c) (hc : c ≤ maxLen) :
    Calls Try.prog 6 #[.agg #[.int .i64 k, .int .i64 a, .int .i64 b, .slice A n c]] w fun e w' => e = .returned (.agg #[.int .i64 k, .int .i64 a, .int .i64 b, .slice A (min n 600) c]) ∧ Below w.heap.size w w' := by
  unfold maxLen at hc
  have B0 : ∀ o o', Below w.heap.size w ((w.alloc o).alloc o') := fun o o' => bAlloc (bAlloc (Below.refl _ _) o) o'
  by_cases h : n ≤ 600
  · have g : decide ((600 : Int) < (n : Int)) = false := by simp; omega
    rw [show min n 600 = n by omega]
    go_enter Try.func6, Try.ntmps6
    go_wp2
    refine bodyPost_ret (v := .agg #[.int .i64 k, .int .i64 a, .int .i64 b, .slice A n c]) (by simp [results, Try.results6, go_sem]) rfl ⟨rfl, B0 _ _⟩
  · have g : decide ((600 : Int) < (n : Int)) = true := by simp; omega
    rw [show min n 600 = 600 by omega]
    go_enter Try.func6, Try.ntmps6
    go_wp2
    refine bodyPost_ret (v := .agg #[.int .i64 k, .int .i64 a, .int .i64 b, .slice A 600 c]) (by simp [results, Try.results6, go_sem]) rfl ⟨rfl, B0 _ _⟩

end Go.Proofs.Ytmgkfibkeonpmaa
