/-
  The contract of Ask: what the table says, wherever it is.
-/
import Derived.Test.YtlgcfpdmklieiaaDoorT2
namespace Go.Proofs.YtlgcfpdmklieiaaDoor
open Go.RowKit

set_option maxHeartbeats 2000000 in
theorem ask0f (w : World) (hL : LaidA w) : Calls Tryd.prog 37 #[.int .i64 0, .bool false] w (GotT w (0, 0, 5)) := by
  obtain ⟨c0, c1, c2, c3, c4, c5⟩ := hL.2 0 _ rfl
  simp only [Nat.zero_mul, Nat.zero_add] at c0 c1 c2 c3 c4 c5
  have HC := keepd (fun w => check_in 0 w (by omega) (by omega))
  clear hL
  go_enter Tryd.func37, Tryd.ntmps37
  go_wp2_with (first | (go_at_call 44; with_reducible refine (HC.out _).mono ?_; rintro e w1 ⟨rfl, rfl⟩) | (go_at_call 45; with_reducible refine (of_no _ _ _ _ _ _ _).mono ?_; rintro e w2 ⟨rfl, hb⟩; have HB := keepd hb; clear hb c0 c1 c2 c3 c4 c5))
  go_quiet (fail)
  go_wp2
  exact bodyPost_ret (v := .tuple #[.int .i64 0, .int .i64 0, .int .i64 5]) (by simp [results, Tryd.results37, go_sem]) rfl ⟨rfl, bDrewN (bAlloc HB.out _) _⟩

set_option maxHeartbeats 2000000 in
theorem ask0t (w : World) (hL : LaidA w) : Calls Tryd.prog 37 #[.int .i64 0, .bool true] w (GotT w (4, 1, 0)) := by
  obtain ⟨c0, c1, c2, c3, c4, c5⟩ := hL.2 0 _ rfl
  simp only [Nat.zero_mul, Nat.zero_add] at c0 c1 c2 c3 c4 c5
  have HC := keepd (fun w => check_in 0 w (by omega) (by omega))
  clear hL
  go_enter Tryd.func37, Tryd.ntmps37
  go_wp2_with (first | (go_at_call 44; with_reducible refine (HC.out _).mono ?_; rintro e w1 ⟨rfl, rfl⟩) | (go_at_call 45; with_reducible refine (of_yes _ _ _ _ _ _ _).mono ?_; rintro e w2 ⟨rfl, hb⟩; have HB := keepd hb; clear hb c0 c1 c2 c3 c4 c5))
  go_quiet (fail)
  go_wp2
  exact bodyPost_ret (v := .tuple #[.int .i64 4, .int .i64 1, .int .i64 0]) (by simp [results, Tryd.results37, go_sem]) rfl ⟨rfl, bDrewN (bAlloc HB.out _) _⟩

set_option maxHeartbeats 2000000 in
theorem ask1f (w : World) (hL : LaidA w) : Calls Tryd.prog 37 #[.int .i64 1, .bool false] w (GotT w (2, 2, 0)) := by
  obtain ⟨c0, c1, c2, c3, c4, c5⟩ := hL.2 1 _ rfl
  simp only [Nat.one_mul, Nat.reduceAdd] at c0 c1 c2 c3 c4 c5
  have HC := keepd (fun w => check_in 1 w (by omega) (by omega))
  clear hL
  go_enter Tryd.func37, Tryd.ntmps37
  go_wp2_with (first | (go_at_call 44; with_reducible refine (HC.out _).mono ?_; rintro e w1 ⟨rfl, rfl⟩) | (go_at_call 45; with_reducible refine (of_no _ _ _ _ _ _ _).mono ?_; rintro e w2 ⟨rfl, hb⟩; have HB := keepd hb; clear hb c0 c1 c2 c3 c4 c5))
  go_quiet (fail)
  go_wp2
  exact bodyPost_ret (v := .tuple #[.int .i64 2, .int .i64 2, .int .i64 0]) (by simp [results, Tryd.results37, go_sem]) rfl ⟨rfl, bDrewN (bAlloc HB.out _) _⟩

set_option maxHeartbeats 2000000 in
theorem ask1t (w : World) (hL : LaidA w) : Calls Tryd.prog 37 #[.int .i64 1, .bool true] w (GotT w (1, 0, 5)) := by
  obtain ⟨c0, c1, c2, c3, c4, c5⟩ := hL.2 1 _ rfl
  simp only [Nat.one_mul, Nat.reduceAdd] at c0 c1 c2 c3 c4 c5
  have HC := keepd (fun w => check_in 1 w (by omega) (by omega))
  clear hL
  go_enter Tryd.func37, Tryd.ntmps37
  go_wp2_with (first | (go_at_call 44; with_reducible refine (HC.out _).mono ?_; rintro e w1 ⟨rfl, rfl⟩) | (go_at_call 45; with_reducible refine (of_yes _ _ _ _ _ _ _).mono ?_; rintro e w2 ⟨rfl, hb⟩; have HB := keepd hb; clear hb c0 c1 c2 c3 c4 c5))
  go_quiet (fail)
  go_wp2
  exact bodyPost_ret (v := .tuple #[.int .i64 1, .int .i64 0, .int .i64 5]) (by simp [results, Tryd.results37, go_sem]) rfl ⟨rfl, bDrewN (bAlloc HB.out _) _⟩

set_option maxHeartbeats 2000000 in
theorem ask2f (w : World) (hL : LaidA w) : Calls Tryd.prog 37 #[.int .i64 2, .bool false] w (GotT w (2, 0, 5)) := by
  obtain ⟨c0, c1, c2, c3, c4, c5⟩ := hL.2 2 _ rfl
  simp only [Nat.reduceMul, Nat.reduceAdd] at c0 c1 c2 c3 c4 c5
  have HC := keepd (fun w => check_in 2 w (by omega) (by omega))
  clear hL
  go_enter Tryd.func37, Tryd.ntmps37
  go_wp2_with (first | (go_at_call 44; with_reducible refine (HC.out _).mono ?_; rintro e w1 ⟨rfl, rfl⟩) | (go_at_call 45; with_reducible refine (of_no _ _ _ _ _ _ _).mono ?_; rintro e w2 ⟨rfl, hb⟩; have HB := keepd hb; clear hb c0 c1 c2 c3 c4 c5))
  go_quiet (fail)
  go_wp2
  exact bodyPost_ret (v := .tuple #[.int .i64 2, .int .i64 0, .int .i64 5]) (by simp [results, Tryd.results37, go_sem]) rfl ⟨rfl, bDrewN (bAlloc HB.out _) _⟩

set_option maxHeartbeats 2000000 in
theorem ask2t (w : World) (hL : LaidA w) : Calls Tryd.prog 37 #[.int .i64 2, .bool true] w (GotT w (3, 0, 0)) := by
  obtain ⟨c0, c1, c2, c3, c4, c5⟩ := hL.2 2 _ rfl
  simp only [Nat.reduceMul, Nat.reduceAdd] at c0 c1 c2 c3 c4 c5
  have HC := keepd (fun w => check_in 2 w (by omega) (by omega))
  clear hL
  go_enter Tryd.func37, Tryd.ntmps37
  go_wp2_with (first | (go_at_call 44; with_reducible refine (HC.out _).mono ?_; rintro e w1 ⟨rfl, rfl⟩) | (go_at_call 45; with_reducible refine (of_yes _ _ _ _ _ _ _).mono ?_; rintro e w2 ⟨rfl, hb⟩; have HB := keepd hb; clear hb c0 c1 c2 c3 c4 c5))
  go_quiet (fail)
  go_wp2
  exact bodyPost_ret (v := .tuple #[.int .i64 3, .int .i64 0, .int .i64 0]) (by simp [results, Tryd.results37, go_sem]) rfl ⟨rfl, bDrewN (bAlloc HB.out _) _⟩

set_option maxHeartbeats 2000000 in
theorem ask3f (w : World) (hL : LaidA w) : Calls Tryd.prog 37 #[.int .i64 3, .bool false] w (GotT w (2, 0, 0)) := by
  obtain ⟨c0, c1, c2, c3, c4, c5⟩ := hL.2 3 _ rfl
  simp only [Nat.reduceMul, Nat.reduceAdd] at c0 c1 c2 c3 c4 c5
  have HC := keepd (fun w => check_in 3 w (by omega) (by omega))
  clear hL
  go_enter Tryd.func37, Tryd.ntmps37
  go_wp2_with (first | (go_at_call 44; with_reducible refine (HC.out _).mono ?_; rintro e w1 ⟨rfl, rfl⟩) | (go_at_call 45; with_reducible refine (of_no _ _ _ _ _ _ _).mono ?_; rintro e w2 ⟨rfl, hb⟩; have HB := keepd hb; clear hb c0 c1 c2 c3 c4 c5))
  go_quiet (fail)
  go_wp2
  exact bodyPost_ret (v := .tuple #[.int .i64 2, .int .i64 0, .int .i64 0]) (by simp [results, Tryd.results37, go_sem]) rfl ⟨rfl, bDrewN (bAlloc HB.out _) _⟩

set_option maxHeartbeats 2000000 in
theorem ask3t (w : World) (hL : LaidA w) : Calls Tryd.prog 37 #[.int .i64 3, .bool true] w (GotT w (3, 0, 5)) := by
  obtain ⟨c0, c1, c2, c3, c4, c5⟩ := hL.2 3 _ rfl
  simp only [Nat.reduceMul, Nat.reduceAdd] at c0 c1 c2 c3 c4 c5
  have HC := keepd (fun w => check_in 3 w (by omega) (by omega))
  clear hL
  go_enter Tryd.func37, Tryd.ntmps37
  go_wp2_with (first | (go_at_call 44; with_reducible refine (HC.out _).mono ?_; rintro e w1 ⟨rfl, rfl⟩) | (go_at_call 45; with_reducible refine (of_yes _ _ _ _ _ _ _).mono ?_; rintro e w2 ⟨rfl, hb⟩; have HB := keepd hb; clear hb c0 c1 c2 c3 c4 c5))
  go_quiet (fail)
  go_wp2
  exact bodyPost_ret (v := .tuple #[.int .i64 3, .int .i64 0, .int .i64 5]) (by simp [results, Tryd.results37, go_sem]) rfl ⟨rfl, bDrewN (bAlloc HB.out _) _⟩

set_option maxHeartbeats 2000000 in
theorem ask4f (w : World) (hL : LaidA w) : Calls Tryd.prog 37 #[.int .i64 4, .bool false] w (GotT w (5, 0, 0)) := by
  obtain ⟨c0, c1, c2, c3, c4, c5⟩ := hL.2 4 _ rfl
  simp only [Nat.reduceMul, Nat.reduceAdd] at c0 c1 c2 c3 c4 c5
  have HC := keepd (fun w => check_in 4 w (by omega) (by omega))
  clear hL
  go_enter Tryd.func37, Tryd.ntmps37
  go_wp2_with (first | (go_at_call 44; with_reducible refine (HC.out _).mono ?_; rintro e w1 ⟨rfl, rfl⟩) | (go_at_call 45; with_reducible refine (of_no _ _ _ _ _ _ _).mono ?_; rintro e w2 ⟨rfl, hb⟩; have HB := keepd hb; clear hb c0 c1 c2 c3 c4 c5))
  go_quiet (fail)
  go_wp2
  exact bodyPost_ret (v := .tuple #[.int .i64 5, .int .i64 0, .int .i64 0]) (by simp [results, Tryd.results37, go_sem]) rfl ⟨rfl, bDrewN (bAlloc HB.out _) _⟩

set_option maxHeartbeats 2000000 in
theorem ask4t (w : World) (hL : LaidA w) : Calls Tryd.prog 37 #[.int .i64 4, .bool true] w (GotT w (4, 0, 5)) := by
  obtain ⟨c0, c1, c2, c3, c4, c5⟩ := hL.2 4 _ rfl
  simp only [Nat.reduceMul, Nat.reduceAdd] at c0 c1 c2 c3 c4 c5
  have HC := keepd (fun w => check_in 4 w (by omega) (by omega))
  clear hL
  go_enter Tryd.func37, Tryd.ntmps37
  go_wp2_with (first | (go_at_call 44; with_reducible refine (HC.out _).mono ?_; rintro e w1 ⟨rfl, rfl⟩) | (go_at_call 45; with_reducible refine (of_yes _ _ _ _ _ _ _).mono ?_; rintro e w2 ⟨rfl, hb⟩; have HB := keepd hb; clear hb c0 c1 c2 c3 c4 c5))
  go_quiet (fail)
  go_wp2
  exact bodyPost_ret (v := .tuple #[.int .i64 4, .int .i64 0, .int .i64 5]) (by simp [results, Tryd.results37, go_sem]) rfl ⟨rfl, bDrewN (bAlloc HB.out _) _⟩

set_option maxHeartbeats 2000000 in
theorem ask5f (w : World) (hL : LaidA w) : Calls Tryd.prog 37 #[.int .i64 5, .bool false] w (GotT w (5, 0, 5)) := by
  obtain ⟨c0, c1, c2, c3, c4, c5⟩ := hL.2 5 _ rfl
  simp only [Nat.reduceMul, Nat.reduceAdd] at c0 c1 c2 c3 c4 c5
  have HC := keepd (fun w => check_in 5 w (by omega) (by omega))
  clear hL
  go_enter Tryd.func37, Tryd.ntmps37
  go_wp2_with (first | (go_at_call 44; with_reducible refine (HC.out _).mono ?_; rintro e w1 ⟨rfl, rfl⟩) | (go_at_call 45; with_reducible refine (of_no _ _ _ _ _ _ _).mono ?_; rintro e w2 ⟨rfl, hb⟩; have HB := keepd hb; clear hb c0 c1 c2 c3 c4 c5))
  go_quiet (fail)
  go_wp2
  exact bodyPost_ret (v := .tuple #[.int .i64 5, .int .i64 0, .int .i64 5]) (by simp [results, Tryd.results37, go_sem]) rfl ⟨rfl, bDrewN (bAlloc HB.out _) _⟩

set_option maxHeartbeats 2000000 in
theorem ask5t (w : World) (hL : LaidA w) : Calls Tryd.prog 37 #[.int .i64 5, .bool true] w (GotT w (4, 0, 0)) := by
  obtain ⟨c0, c1, c2, c3, c4, c5⟩ := hL.2 5 _ rfl
  simp only [Nat.reduceMul, Nat.reduceAdd] at c0 c1 c2 c3 c4 c5
  have HC := keepd (fun w => check_in 5 w (by omega) (by omega))
  clear hL
  go_enter Tryd.func37, Tryd.ntmps37
  go_wp2_with (first | (go_at_call 44; with_reducible refine (HC.out _).mono ?_; rintro e w1 ⟨rfl, rfl⟩) | (go_at_call 45; with_reducible refine (of_yes _ _ _ _ _ _ _).mono ?_; rintro e w2 ⟨rfl, hb⟩; have HB := keepd hb; clear hb c0 c1 c2 c3 c4 c5))
  go_quiet (fail)
  go_wp2
  exact bodyPost_ret (v := .tuple #[.int .i64 4, .int .i64 0, .int .i64 0]) (by simp [results, Tryd.results37, go_sem]) rfl ⟨rfl, bDrewN (bAlloc HB.out _) _⟩

theorem ask_in (q : Int) (y : Bool) (w : World) (hL : LaidA w) (h0 : 0 ≤ q) (h5 : q ≤ 5) : Calls Tryd.prog 37 #[.int .i64 q, .bool y] w (GotT w (aF q y)) := by
  rcases six h0 h5 with rfl | rfl | rfl | rfl | rfl | rfl
  · cases y
    · exact ask0f w hL
    · exact ask0t w hL
  · cases y
    · exact ask1f w hL
    · exact ask1t w hL
  · cases y
    · exact ask2f w hL
    · exact ask2t w hL
  · cases y
    · exact ask3f w hL
    · exact ask3t w hL
  · cases y
    · exact ask4f w hL
    · exact ask4t w hL
  · cases y
    · exact ask5f w hL
    · exact ask5t w hL

theorem ask_out (q : Int) (y : Bool) (w : World) (h : q < 0 ∨ 5 < q) : Calls Tryd.prog 37 #[.int .i64 q, .bool y] w (GotT w (q, 0, 1)) := by
  have HC := keepd (fun w => check_out q w h)
  clear h
  go_enter Tryd.func37, Tryd.ntmps37
  go_wp2_with (go_at_call 44; with_reducible refine (HC.out _).mono ?_; rintro e w1 ⟨rfl, rfl⟩)
  exact bodyPost_ret (v := .tuple #[.int .i64 q, .int .i64 0, .int .i64 1]) (by simp [results, Tryd.results37, go_sem]) rfl ⟨rfl, Below.refl _ _⟩

theorem ask_any (q : Int) (y : Bool) (w : World) (hL : LaidA w) : Calls Tryd.prog 37 #[.int .i64 q, .bool y] w (GotT w (aF q y)) := by
  by_cases h : 0 ≤ q ∧ q ≤ 5
  · exact ask_in q y w hL h.1 h.2
  · have : aF q y = (q, 0, 1) := by unfold aF; rw [if_neg h]
    rw [this]
    exact ask_out q y w (by omega)

end Go.Proofs.YtlgcfpdmklieiaaDoor
