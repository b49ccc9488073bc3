/-
  The contract of Wanted; the document's May, Wanted, Got and Ask; the chapter's examples (awake).
-/
import Derived.Test.YtlgcfpdmklieiaaDoorT3
namespace Go.Proofs.YtlgcfpdmklieiaaDoor
open Go.RowKit

set_option maxHeartbeats 2000000 in
theorem wanted0 (w : World) (hL : LaidA w) : Calls Tryd.prog 21 #[.int .i64 0] w fun e w' => e = .returned (.bool false) ∧ w' = w := by
  obtain ⟨c0, c1, c2, c3, c4, c5⟩ := hL.2 0 _ rfl
  simp only [Nat.zero_mul, Nat.zero_add] at c0 c1 c2 c3 c4 c5
  have HC := keepd (fun w => check_in 0 w (by omega) (by omega))
  clear hL
  go_enter Tryd.func21, Tryd.ntmps21
  go_wp2_with (go_at_call 44; with_reducible refine (HC.out _).mono ?_; rintro e w1 ⟨rfl, rfl⟩)
  go_ret
  exact ⟨rfl, rfl⟩

set_option maxHeartbeats 2000000 in
theorem wanted1 (w : World) (hL : LaidA w) : Calls Tryd.prog 21 #[.int .i64 1] w fun e w' => e = .returned (.bool true) ∧ w' = w := by
  obtain ⟨c0, c1, c2, c3, c4, c5⟩ := hL.2 1 _ rfl
  simp only [Nat.one_mul, Nat.reduceAdd] at c0 c1 c2 c3 c4 c5
  have HC := keepd (fun w => check_in 1 w (by omega) (by omega))
  clear hL
  go_enter Tryd.func21, Tryd.ntmps21
  go_wp2_with (go_at_call 44; with_reducible refine (HC.out _).mono ?_; rintro e w1 ⟨rfl, rfl⟩)
  go_ret
  exact ⟨rfl, rfl⟩

set_option maxHeartbeats 2000000 in
theorem wanted2 (w : World) (hL : LaidA w) : Calls Tryd.prog 21 #[.int .i64 2] w fun e w' => e = .returned (.bool false) ∧ w' = w := by
  obtain ⟨c0, c1, c2, c3, c4, c5⟩ := hL.2 2 _ rfl
  simp only [Nat.reduceMul, Nat.reduceAdd] at c0 c1 c2 c3 c4 c5
  have HC := keepd (fun w => check_in 2 w (by omega) (by omega))
  clear hL
  go_enter Tryd.func21, Tryd.ntmps21
  go_wp2_with (go_at_call 44; with_reducible refine (HC.out _).mono ?_; rintro e w1 ⟨rfl, rfl⟩)
  go_ret
  exact ⟨rfl, rfl⟩

set_option maxHeartbeats 2000000 in
theorem wanted3 (w : World) (hL : LaidA w) : Calls Tryd.prog 21 #[.int .i64 3] w fun e w' => e = .returned (.bool true) ∧ w' = w := by
  obtain ⟨c0, c1, c2, c3, c4, c5⟩ := hL.2 3 _ rfl
  simp only [Nat.reduceMul, Nat.reduceAdd] at c0 c1 c2 c3 c4 c5
  have HC := keepd (fun w => check_in 3 w (by omega) (by omega))
  clear hL
  go_enter Tryd.func21, Tryd.ntmps21
  go_wp2_with (go_at_call 44; with_reducible refine (HC.out _).mono ?_; rintro e w1 ⟨rfl, rfl⟩)
  go_ret
  exact ⟨rfl, rfl⟩

set_option maxHeartbeats 2000000 in
theorem wanted4 (w : World) (hL : LaidA w) : Calls Tryd.prog 21 #[.int .i64 4] w fun e w' => e = .returned (.bool true) ∧ w' = w := by
  obtain ⟨c0, c1, c2, c3, c4, c5⟩ := hL.2 4 _ rfl
  simp only [Nat.reduceMul, Nat.reduceAdd] at c0 c1 c2 c3 c4 c5
  have HC := keepd (fun w => check_in 4 w (by omega) (by omega))
  clear hL
  go_enter Tryd.func21, Tryd.ntmps21
  go_wp2_with (go_at_call 44; with_reducible refine (HC.out _).mono ?_; rintro e w1 ⟨rfl, rfl⟩)
  go_ret
  exact ⟨rfl, rfl⟩

set_option maxHeartbeats 2000000 in
theorem wanted5 (w : World) (hL : LaidA w) : Calls Tryd.prog 21 #[.int .i64 5] w fun e w' => e = .returned (.bool false) ∧ w' = w := by
  obtain ⟨c0, c1, c2, c3, c4, c5⟩ := hL.2 5 _ rfl
  simp only [Nat.reduceMul, Nat.reduceAdd] at c0 c1 c2 c3 c4 c5
  have HC := keepd (fun w => check_in 5 w (by omega) (by omega))
  clear hL
  go_enter Tryd.func21, Tryd.ntmps21
  go_wp2_with (go_at_call 44; with_reducible refine (HC.out _).mono ?_; rintro e w1 ⟨rfl, rfl⟩)
  go_ret
  exact ⟨rfl, rfl⟩

theorem wanted_out (q : Int) (w : World) (h : q < 0 ∨ 5 < q) : Calls Tryd.prog 21 #[.int .i64 q] w fun e w' => e = .returned (.bool false) ∧ w' = w := by
  have HC := keepd (fun w => check_out q w h)
  clear h
  go_enter Tryd.func21, Tryd.ntmps21
  go_wp2_with (go_at_call 44; with_reducible refine (HC.out _).mono ?_; rintro e w1 ⟨rfl, rfl⟩)
  go_ret
  exact ⟨rfl, rfl⟩

theorem wanted_any (q : Int) (w : World) (hL : LaidA w) : Calls Tryd.prog 21 #[.int .i64 q] w fun e w' => e = .returned (.bool (wF q)) ∧ w' = w := by
  by_cases h : 0 ≤ q ∧ q ≤ 5
  · rcases six h.1 h.2 with rfl | rfl | rfl | rfl | rfl | rfl
    · exact wanted0 w hL
    · exact wanted1 w hL
    · exact wanted2 w hL
    · exact wanted3 w hL
    · exact wanted4 w hL
    · exact wanted5 w hL
  · have : wF q = false := by unfold wF; simp; omega
    rw [this]
    exact wanted_out q w (by omega)

end Go.Proofs.YtlgcfpdmklieiaaDoor
