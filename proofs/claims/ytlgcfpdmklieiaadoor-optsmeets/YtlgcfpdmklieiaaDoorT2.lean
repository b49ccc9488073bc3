/-
  The contract of Got: what the table says, wherever it is.
-/
import Derived.Test.YtlgcfpdmklieiaaDoorT1
namespace Go.Proofs.YtlgcfpdmklieiaaDoor
open Go.RowKit

theorem six {q : Int} (h0 : 0 ≤ q) (h5 : q ≤ 5) : q = 0 ∨ q = 1 ∨ q = 2 ∨ q = 3 ∨ q = 4 ∨ q = 5 := by omega

/-- Behind the call: three numbers are answered, and what lay before the call lies still. -/
def GotT (w : World) (z : Three) (e : Ending) (w' : World) : Prop := e = .returned (tup z) ∧ Below w.heap.size w w'

set_option maxHeartbeats 2000000 in
theorem got0ff (w : World) (hL : Laid w) : Calls Tryd.prog 30 #[.int .i64 0, .bool false, .bool false] w (GotT w (0, 0, 0)) := by
  obtain ⟨c0, c1, c2, c3, c4, c5⟩ := hL.1 0 _ rfl
  simp only [Nat.zero_mul, Nat.zero_add] at c0 c1 c2 c3 c4 c5
  have HC := keepd (fun w => check_in 0 w (by omega) (by omega))
  clear hL
  go_enter Tryd.func30, Tryd.ntmps30
  go_wp2_with (first | (go_at_call 44; with_reducible refine (HC.out _).mono ?_; rintro e w1 ⟨rfl, rfl⟩) | (go_at_call 45; with_reducible refine (of_no _ _ _ _ _ _ _).mono ?_; rintro e w2 ⟨rfl, hb⟩; have HB := keepd hb; clear hb c0 c1 c2 c3 c4 c5))
  go_quiet (fail)
  go_wp2
  exact bodyPost_ret (v := .tuple #[.int .i64 0, .int .i64 0, .int .i64 0]) (by simp [results, Tryd.results30, go_sem]) rfl ⟨rfl, bDrewN (bAlloc HB.out _) _⟩

set_option maxHeartbeats 2000000 in
theorem got0ft (w : World) (hL : Laid w) : Calls Tryd.prog 30 #[.int .i64 0, .bool false, .bool true] w (GotT w (0, 0, 0)) := by
  obtain ⟨c0, c1, c2, c3, c4, c5⟩ := hL.1 0 _ rfl
  simp only [Nat.zero_mul, Nat.zero_add] at c0 c1 c2 c3 c4 c5
  have HC := keepd (fun w => check_in 0 w (by omega) (by omega))
  clear hL
  go_enter Tryd.func30, Tryd.ntmps30
  go_wp2_with (first | (go_at_call 44; with_reducible refine (HC.out _).mono ?_; rintro e w1 ⟨rfl, rfl⟩) | (go_at_call 45; with_reducible refine (of_no _ _ _ _ _ _ _).mono ?_; rintro e w2 ⟨rfl, hb⟩; have HB := keepd hb; clear hb c0 c1 c2 c3 c4 c5))
  go_quiet (fail)
  go_wp2
  exact bodyPost_ret (v := .tuple #[.int .i64 0, .int .i64 0, .int .i64 0]) (by simp [results, Tryd.results30, go_sem]) rfl ⟨rfl, bDrewN (bAlloc HB.out _) _⟩

set_option maxHeartbeats 2000000 in
theorem got0tf (w : World) (hL : Laid w) : Calls Tryd.prog 30 #[.int .i64 0, .bool true, .bool false] w (GotT w (0, 2, 0)) := by
  obtain ⟨c0, c1, c2, c3, c4, c5⟩ := hL.1 0 _ rfl
  simp only [Nat.zero_mul, Nat.zero_add] at c0 c1 c2 c3 c4 c5
  have HC := keepd (fun w => check_in 0 w (by omega) (by omega))
  clear hL
  go_enter Tryd.func30, Tryd.ntmps30
  go_wp2_with (first | (go_at_call 44; with_reducible refine (HC.out _).mono ?_; rintro e w1 ⟨rfl, rfl⟩) | (go_at_call 45; with_reducible refine (of_yes _ _ _ _ _ _ _).mono ?_; rintro e w2 ⟨rfl, hb⟩; have HB := keepd hb; clear hb c0 c1 c2 c3 c4 c5))
  go_quiet (fail)
  go_wp2
  exact bodyPost_ret (v := .tuple #[.int .i64 0, .int .i64 2, .int .i64 0]) (by simp [results, Tryd.results30, go_sem]) rfl ⟨rfl, bDrewN (bAlloc HB.out _) _⟩

set_option maxHeartbeats 2000000 in
theorem got0tt (w : World) (hL : Laid w) : Calls Tryd.prog 30 #[.int .i64 0, .bool true, .bool true] w (GotT w (1, 1, 0)) := by
  obtain ⟨c0, c1, c2, c3, c4, c5⟩ := hL.1 0 _ rfl
  simp only [Nat.zero_mul, Nat.zero_add] at c0 c1 c2 c3 c4 c5
  have HC := keepd (fun w => check_in 0 w (by omega) (by omega))
  clear hL
  go_enter Tryd.func30, Tryd.ntmps30
  go_wp2_with (first | (go_at_call 44; with_reducible refine (HC.out _).mono ?_; rintro e w1 ⟨rfl, rfl⟩) | (go_at_call 45; with_reducible refine (of_yes _ _ _ _ _ _ _).mono ?_; rintro e w2 ⟨rfl, hb⟩; have HB := keepd hb; clear hb c0 c1 c2 c3 c4 c5))
  go_quiet (fail)
  go_wp2
  exact bodyPost_ret (v := .tuple #[.int .i64 1, .int .i64 1, .int .i64 0]) (by simp [results, Tryd.results30, go_sem]) rfl ⟨rfl, bDrewN (bAlloc HB.out _) _⟩

set_option maxHeartbeats 2000000 in
theorem got1ff (w : World) (hL : Laid w) : Calls Tryd.prog 30 #[.int .i64 1, .bool false, .bool false] w (GotT w (0, 2, 0)) := by
  obtain ⟨c0, c1, c2, c3, c4, c5⟩ := hL.1 1 _ rfl
  simp only [Nat.one_mul, Nat.reduceAdd] at c0 c1 c2 c3 c4 c5
  have HC := keepd (fun w => check_in 1 w (by omega) (by omega))
  clear hL
  go_enter Tryd.func30, Tryd.ntmps30
  go_wp2_with (first | (go_at_call 44; with_reducible refine (HC.out _).mono ?_; rintro e w1 ⟨rfl, rfl⟩) | (go_at_call 45; with_reducible refine (of_no _ _ _ _ _ _ _).mono ?_; rintro e w2 ⟨rfl, hb⟩; have HB := keepd hb; clear hb c0 c1 c2 c3 c4 c5))
  go_quiet (fail)
  go_wp2
  exact bodyPost_ret (v := .tuple #[.int .i64 0, .int .i64 2, .int .i64 0]) (by simp [results, Tryd.results30, go_sem]) rfl ⟨rfl, bDrewN (bAlloc HB.out _) _⟩

set_option maxHeartbeats 2000000 in
theorem got1ft (w : World) (hL : Laid w) : Calls Tryd.prog 30 #[.int .i64 1, .bool false, .bool true] w (GotT w (0, 2, 0)) := by
  obtain ⟨c0, c1, c2, c3, c4, c5⟩ := hL.1 1 _ rfl
  simp only [Nat.one_mul, Nat.reduceAdd] at c0 c1 c2 c3 c4 c5
  have HC := keepd (fun w => check_in 1 w (by omega) (by omega))
  clear hL
  go_enter Tryd.func30, Tryd.ntmps30
  go_wp2_with (first | (go_at_call 44; with_reducible refine (HC.out _).mono ?_; rintro e w1 ⟨rfl, rfl⟩) | (go_at_call 45; with_reducible refine (of_no _ _ _ _ _ _ _).mono ?_; rintro e w2 ⟨rfl, hb⟩; have HB := keepd hb; clear hb c0 c1 c2 c3 c4 c5))
  go_quiet (fail)
  go_wp2
  exact bodyPost_ret (v := .tuple #[.int .i64 0, .int .i64 2, .int .i64 0]) (by simp [results, Tryd.results30, go_sem]) rfl ⟨rfl, bDrewN (bAlloc HB.out _) _⟩

set_option maxHeartbeats 2000000 in
theorem got1tf (w : World) (hL : Laid w) : Calls Tryd.prog 30 #[.int .i64 1, .bool true, .bool false] w (GotT w (1, 0, 0)) := by
  obtain ⟨c0, c1, c2, c3, c4, c5⟩ := hL.1 1 _ rfl
  simp only [Nat.one_mul, Nat.reduceAdd] at c0 c1 c2 c3 c4 c5
  have HC := keepd (fun w => check_in 1 w (by omega) (by omega))
  clear hL
  go_enter Tryd.func30, Tryd.ntmps30
  go_wp2_with (first | (go_at_call 44; with_reducible refine (HC.out _).mono ?_; rintro e w1 ⟨rfl, rfl⟩) | (go_at_call 45; with_reducible refine (of_yes _ _ _ _ _ _ _).mono ?_; rintro e w2 ⟨rfl, hb⟩; have HB := keepd hb; clear hb c0 c1 c2 c3 c4 c5))
  go_quiet (fail)
  go_wp2
  exact bodyPost_ret (v := .tuple #[.int .i64 1, .int .i64 0, .int .i64 0]) (by simp [results, Tryd.results30, go_sem]) rfl ⟨rfl, bDrewN (bAlloc HB.out _) _⟩

set_option maxHeartbeats 2000000 in
theorem got1tt (w : World) (hL : Laid w) : Calls Tryd.prog 30 #[.int .i64 1, .bool true, .bool true] w (GotT w (1, 0, 0)) := by
  obtain ⟨c0, c1, c2, c3, c4, c5⟩ := hL.1 1 _ rfl
  simp only [Nat.one_mul, Nat.reduceAdd] at c0 c1 c2 c3 c4 c5
  have HC := keepd (fun w => check_in 1 w (by omega) (by omega))
  clear hL
  go_enter Tryd.func30, Tryd.ntmps30
  go_wp2_with (first | (go_at_call 44; with_reducible refine (HC.out _).mono ?_; rintro e w1 ⟨rfl, rfl⟩) | (go_at_call 45; with_reducible refine (of_yes _ _ _ _ _ _ _).mono ?_; rintro e w2 ⟨rfl, hb⟩; have HB := keepd hb; clear hb c0 c1 c2 c3 c4 c5))
  go_quiet (fail)
  go_wp2
  exact bodyPost_ret (v := .tuple #[.int .i64 1, .int .i64 0, .int .i64 0]) (by simp [results, Tryd.results30, go_sem]) rfl ⟨rfl, bDrewN (bAlloc HB.out _) _⟩

set_option maxHeartbeats 2000000 in
theorem got2ff (w : World) (hL : Laid w) : Calls Tryd.prog 30 #[.int .i64 2, .bool false, .bool false] w (GotT w (0, 0, 0)) := by
  obtain ⟨c0, c1, c2, c3, c4, c5⟩ := hL.1 2 _ rfl
  simp only [Nat.reduceMul, Nat.reduceAdd] at c0 c1 c2 c3 c4 c5
  have HC := keepd (fun w => check_in 2 w (by omega) (by omega))
  clear hL
  go_enter Tryd.func30, Tryd.ntmps30
  go_wp2_with (first | (go_at_call 44; with_reducible refine (HC.out _).mono ?_; rintro e w1 ⟨rfl, rfl⟩) | (go_at_call 45; with_reducible refine (of_no _ _ _ _ _ _ _).mono ?_; rintro e w2 ⟨rfl, hb⟩; have HB := keepd hb; clear hb c0 c1 c2 c3 c4 c5))
  go_quiet (fail)
  go_wp2
  exact bodyPost_ret (v := .tuple #[.int .i64 0, .int .i64 0, .int .i64 0]) (by simp [results, Tryd.results30, go_sem]) rfl ⟨rfl, bDrewN (bAlloc HB.out _) _⟩

set_option maxHeartbeats 2000000 in
theorem got2ft (w : World) (hL : Laid w) : Calls Tryd.prog 30 #[.int .i64 2, .bool false, .bool true] w (GotT w (0, 0, 0)) := by
  obtain ⟨c0, c1, c2, c3, c4, c5⟩ := hL.1 2 _ rfl
  simp only [Nat.reduceMul, Nat.reduceAdd] at c0 c1 c2 c3 c4 c5
  have HC := keepd (fun w => check_in 2 w (by omega) (by omega))
  clear hL
  go_enter Tryd.func30, Tryd.ntmps30
  go_wp2_with (first | (go_at_call 44; with_reducible refine (HC.out _).mono ?_; rintro e w1 ⟨rfl, rfl⟩) | (go_at_call 45; with_reducible refine (of_no _ _ _ _ _ _ _).mono ?_; rintro e w2 ⟨rfl, hb⟩; have HB := keepd hb; clear hb c0 c1 c2 c3 c4 c5))
  go_quiet (fail)
  go_wp2
  exact bodyPost_ret (v := .tuple #[.int .i64 0, .int .i64 0, .int .i64 0]) (by simp [results, Tryd.results30, go_sem]) rfl ⟨rfl, bDrewN (bAlloc HB.out _) _⟩

set_option maxHeartbeats 2000000 in
theorem got2tf (w : World) (hL : Laid w) : Calls Tryd.prog 30 #[.int .i64 2, .bool true, .bool false] w (GotT w (0, 0, 5)) := by
  obtain ⟨c0, c1, c2, c3, c4, c5⟩ := hL.1 2 _ rfl
  simp only [Nat.reduceMul, Nat.reduceAdd] at c0 c1 c2 c3 c4 c5
  have HC := keepd (fun w => check_in 2 w (by omega) (by omega))
  clear hL
  go_enter Tryd.func30, Tryd.ntmps30
  go_wp2_with (first | (go_at_call 44; with_reducible refine (HC.out _).mono ?_; rintro e w1 ⟨rfl, rfl⟩) | (go_at_call 45; with_reducible refine (of_yes _ _ _ _ _ _ _).mono ?_; rintro e w2 ⟨rfl, hb⟩; have HB := keepd hb; clear hb c0 c1 c2 c3 c4 c5))
  go_quiet (fail)
  go_wp2
  exact bodyPost_ret (v := .tuple #[.int .i64 0, .int .i64 0, .int .i64 5]) (by simp [results, Tryd.results30, go_sem]) rfl ⟨rfl, bDrewN (bAlloc HB.out _) _⟩

set_option maxHeartbeats 2000000 in
theorem got2tt (w : World) (hL : Laid w) : Calls Tryd.prog 30 #[.int .i64 2, .bool true, .bool true] w (GotT w (0, 0, 5)) := by
  obtain ⟨c0, c1, c2, c3, c4, c5⟩ := hL.1 2 _ rfl
  simp only [Nat.reduceMul, Nat.reduceAdd] at c0 c1 c2 c3 c4 c5
  have HC := keepd (fun w => check_in 2 w (by omega) (by omega))
  clear hL
  go_enter Tryd.func30, Tryd.ntmps30
  go_wp2_with (first | (go_at_call 44; with_reducible refine (HC.out _).mono ?_; rintro e w1 ⟨rfl, rfl⟩) | (go_at_call 45; with_reducible refine (of_yes _ _ _ _ _ _ _).mono ?_; rintro e w2 ⟨rfl, hb⟩; have HB := keepd hb; clear hb c0 c1 c2 c3 c4 c5))
  go_quiet (fail)
  go_wp2
  exact bodyPost_ret (v := .tuple #[.int .i64 0, .int .i64 0, .int .i64 5]) (by simp [results, Tryd.results30, go_sem]) rfl ⟨rfl, bDrewN (bAlloc HB.out _) _⟩

set_option maxHeartbeats 2000000 in
theorem got3ff (w : World) (hL : Laid w) : Calls Tryd.prog 30 #[.int .i64 3, .bool false, .bool false] w (GotT w (4, 1, 0)) := by
  obtain ⟨c0, c1, c2, c3, c4, c5⟩ := hL.1 3 _ rfl
  simp only [Nat.reduceMul, Nat.reduceAdd] at c0 c1 c2 c3 c4 c5
  have HC := keepd (fun w => check_in 3 w (by omega) (by omega))
  clear hL
  go_enter Tryd.func30, Tryd.ntmps30
  go_wp2_with (first | (go_at_call 44; with_reducible refine (HC.out _).mono ?_; rintro e w1 ⟨rfl, rfl⟩) | (go_at_call 45; with_reducible refine (of_no _ _ _ _ _ _ _).mono ?_; rintro e w2 ⟨rfl, hb⟩; have HB := keepd hb; clear hb c0 c1 c2 c3 c4 c5))
  go_quiet (fail)
  go_wp2
  exact bodyPost_ret (v := .tuple #[.int .i64 4, .int .i64 1, .int .i64 0]) (by simp [results, Tryd.results30, go_sem]) rfl ⟨rfl, bDrewN (bAlloc HB.out _) _⟩

set_option maxHeartbeats 2000000 in
theorem got3ft (w : World) (hL : Laid w) : Calls Tryd.prog 30 #[.int .i64 3, .bool false, .bool true] w (GotT w (4, 1, 0)) := by
  obtain ⟨c0, c1, c2, c3, c4, c5⟩ := hL.1 3 _ rfl
  simp only [Nat.reduceMul, Nat.reduceAdd] at c0 c1 c2 c3 c4 c5
  have HC := keepd (fun w => check_in 3 w (by omega) (by omega))
  clear hL
  go_enter Tryd.func30, Tryd.ntmps30
  go_wp2_with (first | (go_at_call 44; with_reducible refine (HC.out _).mono ?_; rintro e w1 ⟨rfl, rfl⟩) | (go_at_call 45; with_reducible refine (of_no _ _ _ _ _ _ _).mono ?_; rintro e w2 ⟨rfl, hb⟩; have HB := keepd hb; clear hb c0 c1 c2 c3 c4 c5))
  go_quiet (fail)
  go_wp2
  exact bodyPost_ret (v := .tuple #[.int .i64 4, .int .i64 1, .int .i64 0]) (by simp [results, Tryd.results30, go_sem]) rfl ⟨rfl, bDrewN (bAlloc HB.out _) _⟩

set_option maxHeartbeats 2000000 in
theorem got3tf (w : World) (hL : Laid w) : Calls Tryd.prog 30 #[.int .i64 3, .bool true, .bool false] w (GotT w (1, 0, 5)) := by
  obtain ⟨c0, c1, c2, c3, c4, c5⟩ := hL.1 3 _ rfl
  simp only [Nat.reduceMul, Nat.reduceAdd] at c0 c1 c2 c3 c4 c5
  have HC := keepd (fun w => check_in 3 w (by omega) (by omega))
  clear hL
  go_enter Tryd.func30, Tryd.ntmps30
  go_wp2_with (first | (go_at_call 44; with_reducible refine (HC.out _).mono ?_; rintro e w1 ⟨rfl, rfl⟩) | (go_at_call 45; with_reducible refine (of_yes _ _ _ _ _ _ _).mono ?_; rintro e w2 ⟨rfl, hb⟩; have HB := keepd hb; clear hb c0 c1 c2 c3 c4 c5))
  go_quiet (fail)
  go_wp2
  exact bodyPost_ret (v := .tuple #[.int .i64 1, .int .i64 0, .int .i64 5]) (by simp [results, Tryd.results30, go_sem]) rfl ⟨rfl, bDrewN (bAlloc HB.out _) _⟩

set_option maxHeartbeats 2000000 in
theorem got3tt (w : World) (hL : Laid w) : Calls Tryd.prog 30 #[.int .i64 3, .bool true, .bool true] w (GotT w (1, 0, 5)) := by
  obtain ⟨c0, c1, c2, c3, c4, c5⟩ := hL.1 3 _ rfl
  simp only [Nat.reduceMul, Nat.reduceAdd] at c0 c1 c2 c3 c4 c5
  have HC := keepd (fun w => check_in 3 w (by omega) (by omega))
  clear hL
  go_enter Tryd.func30, Tryd.ntmps30
  go_wp2_with (first | (go_at_call 44; with_reducible refine (HC.out _).mono ?_; rintro e w1 ⟨rfl, rfl⟩) | (go_at_call 45; with_reducible refine (of_yes _ _ _ _ _ _ _).mono ?_; rintro e w2 ⟨rfl, hb⟩; have HB := keepd hb; clear hb c0 c1 c2 c3 c4 c5))
  go_quiet (fail)
  go_wp2
  exact bodyPost_ret (v := .tuple #[.int .i64 1, .int .i64 0, .int .i64 5]) (by simp [results, Tryd.results30, go_sem]) rfl ⟨rfl, bDrewN (bAlloc HB.out _) _⟩

set_option maxHeartbeats 2000000 in
theorem got4ff (w : World) (hL : Laid w) : Calls Tryd.prog 30 #[.int .i64 4, .bool false, .bool false] w (GotT w (0, 0, 0)) := by
  obtain ⟨c0, c1, c2, c3, c4, c5⟩ := hL.1 4 _ rfl
  simp only [Nat.reduceMul, Nat.reduceAdd] at c0 c1 c2 c3 c4 c5
  have HC := keepd (fun w => check_in 4 w (by omega) (by omega))
  clear hL
  go_enter Tryd.func30, Tryd.ntmps30
  go_wp2_with (first | (go_at_call 44; with_reducible refine (HC.out _).mono ?_; rintro e w1 ⟨rfl, rfl⟩) | (go_at_call 45; with_reducible refine (of_no _ _ _ _ _ _ _).mono ?_; rintro e w2 ⟨rfl, hb⟩; have HB := keepd hb; clear hb c0 c1 c2 c3 c4 c5))
  go_quiet (fail)
  go_wp2
  exact bodyPost_ret (v := .tuple #[.int .i64 0, .int .i64 0, .int .i64 0]) (by simp [results, Tryd.results30, go_sem]) rfl ⟨rfl, bDrewN (bAlloc HB.out _) _⟩

set_option maxHeartbeats 2000000 in
theorem got4ft (w : World) (hL : Laid w) : Calls Tryd.prog 30 #[.int .i64 4, .bool false, .bool true] w (GotT w (0, 0, 0)) := by
  obtain ⟨c0, c1, c2, c3, c4, c5⟩ := hL.1 4 _ rfl
  simp only [Nat.reduceMul, Nat.reduceAdd] at c0 c1 c2 c3 c4 c5
  have HC := keepd (fun w => check_in 4 w (by omega) (by omega))
  clear hL
  go_enter Tryd.func30, Tryd.ntmps30
  go_wp2_with (first | (go_at_call 44; with_reducible refine (HC.out _).mono ?_; rintro e w1 ⟨rfl, rfl⟩) | (go_at_call 45; with_reducible refine (of_no _ _ _ _ _ _ _).mono ?_; rintro e w2 ⟨rfl, hb⟩; have HB := keepd hb; clear hb c0 c1 c2 c3 c4 c5))
  go_quiet (fail)
  go_wp2
  exact bodyPost_ret (v := .tuple #[.int .i64 0, .int .i64 0, .int .i64 0]) (by simp [results, Tryd.results30, go_sem]) rfl ⟨rfl, bDrewN (bAlloc HB.out _) _⟩

set_option maxHeartbeats 2000000 in
theorem got4tf (w : World) (hL : Laid w) : Calls Tryd.prog 30 #[.int .i64 4, .bool true, .bool false] w (GotT w (1, 0, 0)) := by
  obtain ⟨c0, c1, c2, c3, c4, c5⟩ := hL.1 4 _ rfl
  simp only [Nat.reduceMul, Nat.reduceAdd] at c0 c1 c2 c3 c4 c5
  have HC := keepd (fun w => check_in 4 w (by omega) (by omega))
  clear hL
  go_enter Tryd.func30, Tryd.ntmps30
  go_wp2_with (first | (go_at_call 44; with_reducible refine (HC.out _).mono ?_; rintro e w1 ⟨rfl, rfl⟩) | (go_at_call 45; with_reducible refine (of_yes _ _ _ _ _ _ _).mono ?_; rintro e w2 ⟨rfl, hb⟩; have HB := keepd hb; clear hb c0 c1 c2 c3 c4 c5))
  go_quiet (fail)
  go_wp2
  exact bodyPost_ret (v := .tuple #[.int .i64 1, .int .i64 0, .int .i64 0]) (by simp [results, Tryd.results30, go_sem]) rfl ⟨rfl, bDrewN (bAlloc HB.out _) _⟩

set_option maxHeartbeats 2000000 in
theorem got4tt (w : World) (hL : Laid w) : Calls Tryd.prog 30 #[.int .i64 4, .bool true, .bool true] w (GotT w (1, 0, 0)) := by
  obtain ⟨c0, c1, c2, c3, c4, c5⟩ := hL.1 4 _ rfl
  simp only [Nat.reduceMul, Nat.reduceAdd] at c0 c1 c2 c3 c4 c5
  have HC := keepd (fun w => check_in 4 w (by omega) (by omega))
  clear hL
  go_enter Tryd.func30, Tryd.ntmps30
  go_wp2_with (first | (go_at_call 44; with_reducible refine (HC.out _).mono ?_; rintro e w1 ⟨rfl, rfl⟩) | (go_at_call 45; with_reducible refine (of_yes _ _ _ _ _ _ _).mono ?_; rintro e w2 ⟨rfl, hb⟩; have HB := keepd hb; clear hb c0 c1 c2 c3 c4 c5))
  go_quiet (fail)
  go_wp2
  exact bodyPost_ret (v := .tuple #[.int .i64 1, .int .i64 0, .int .i64 0]) (by simp [results, Tryd.results30, go_sem]) rfl ⟨rfl, bDrewN (bAlloc HB.out _) _⟩

set_option maxHeartbeats 2000000 in
theorem got5ff (w : World) (hL : Laid w) : Calls Tryd.prog 30 #[.int .i64 5, .bool false, .bool false] w (GotT w (0, 0, 0)) := by
  obtain ⟨c0, c1, c2, c3, c4, c5⟩ := hL.1 5 _ rfl
  simp only [Nat.reduceMul, Nat.reduceAdd] at c0 c1 c2 c3 c4 c5
  have HC := keepd (fun w => check_in 5 w (by omega) (by omega))
  clear hL
  go_enter Tryd.func30, Tryd.ntmps30
  go_wp2_with (first | (go_at_call 44; with_reducible refine (HC.out _).mono ?_; rintro e w1 ⟨rfl, rfl⟩) | (go_at_call 45; with_reducible refine (of_no _ _ _ _ _ _ _).mono ?_; rintro e w2 ⟨rfl, hb⟩; have HB := keepd hb; clear hb c0 c1 c2 c3 c4 c5))
  go_quiet (fail)
  go_wp2
  exact bodyPost_ret (v := .tuple #[.int .i64 0, .int .i64 0, .int .i64 0]) (by simp [results, Tryd.results30, go_sem]) rfl ⟨rfl, bDrewN (bAlloc HB.out _) _⟩

set_option maxHeartbeats 2000000 in
theorem got5ft (w : World) (hL : Laid w) : Calls Tryd.prog 30 #[.int .i64 5, .bool false, .bool true] w (GotT w (0, 0, 0)) := by
  obtain ⟨c0, c1, c2, c3, c4, c5⟩ := hL.1 5 _ rfl
  simp only [Nat.reduceMul, Nat.reduceAdd] at c0 c1 c2 c3 c4 c5
  have HC := keepd (fun w => check_in 5 w (by omega) (by omega))
  clear hL
  go_enter Tryd.func30, Tryd.ntmps30
  go_wp2_with (first | (go_at_call 44; with_reducible refine (HC.out _).mono ?_; rintro e w1 ⟨rfl, rfl⟩) | (go_at_call 45; with_reducible refine (of_no _ _ _ _ _ _ _).mono ?_; rintro e w2 ⟨rfl, hb⟩; have HB := keepd hb; clear hb c0 c1 c2 c3 c4 c5))
  go_quiet (fail)
  go_wp2
  exact bodyPost_ret (v := .tuple #[.int .i64 0, .int .i64 0, .int .i64 0]) (by simp [results, Tryd.results30, go_sem]) rfl ⟨rfl, bDrewN (bAlloc HB.out _) _⟩

set_option maxHeartbeats 2000000 in
theorem got5tf (w : World) (hL : Laid w) : Calls Tryd.prog 30 #[.int .i64 5, .bool true, .bool false] w (GotT w (2, 2, 0)) := by
  obtain ⟨c0, c1, c2, c3, c4, c5⟩ := hL.1 5 _ rfl
  simp only [Nat.reduceMul, Nat.reduceAdd] at c0 c1 c2 c3 c4 c5
  have HC := keepd (fun w => check_in 5 w (by omega) (by omega))
  clear hL
  go_enter Tryd.func30, Tryd.ntmps30
  go_wp2_with (first | (go_at_call 44; with_reducible refine (HC.out _).mono ?_; rintro e w1 ⟨rfl, rfl⟩) | (go_at_call 45; with_reducible refine (of_yes _ _ _ _ _ _ _).mono ?_; rintro e w2 ⟨rfl, hb⟩; have HB := keepd hb; clear hb c0 c1 c2 c3 c4 c5))
  go_quiet (fail)
  go_wp2
  exact bodyPost_ret (v := .tuple #[.int .i64 2, .int .i64 2, .int .i64 0]) (by simp [results, Tryd.results30, go_sem]) rfl ⟨rfl, bDrewN (bAlloc HB.out _) _⟩

set_option maxHeartbeats 2000000 in
theorem got5tt (w : World) (hL : Laid w) : Calls Tryd.prog 30 #[.int .i64 5, .bool true, .bool true] w (GotT w (2, 2, 0)) := by
  obtain ⟨c0, c1, c2, c3, c4, c5⟩ := hL.1 5 _ rfl
  simp only [Nat.reduceMul, Nat.reduceAdd] at c0 c1 c2 c3 c4 c5
  have HC := keepd (fun w => check_in 5 w (by omega) (by omega))
  clear hL
  go_enter Tryd.func30, Tryd.ntmps30
  go_wp2_with (first | (go_at_call 44; with_reducible refine (HC.out _).mono ?_; rintro e w1 ⟨rfl, rfl⟩) | (go_at_call 45; with_reducible refine (of_yes _ _ _ _ _ _ _).mono ?_; rintro e w2 ⟨rfl, hb⟩; have HB := keepd hb; clear hb c0 c1 c2 c3 c4 c5))
  go_quiet (fail)
  go_wp2
  exact bodyPost_ret (v := .tuple #[.int .i64 2, .int .i64 2, .int .i64 0]) (by simp [results, Tryd.results30, go_sem]) rfl ⟨rfl, bDrewN (bAlloc HB.out _) _⟩

theorem got_in (q : Int) (y m : Bool) (w : World) (hL : Laid w) (h0 : 0 ≤ q) (h5 : q ≤ 5) : Calls Tryd.prog 30 #[.int .i64 q, .bool y, .bool m] w (GotT w (gF q y m)) := by
  rcases six h0 h5 with rfl | rfl | rfl | rfl | rfl | rfl
  · cases y
    · cases m
      · exact got0ff w hL
      · exact got0ft w hL
    · cases m
      · exact got0tf w hL
      · exact got0tt w hL
  · cases y
    · cases m
      · exact got1ff w hL
      · exact got1ft w hL
    · cases m
      · exact got1tf w hL
      · exact got1tt w hL
  · cases y
    · cases m
      · exact got2ff w hL
      · exact got2ft w hL
    · cases m
      · exact got2tf w hL
      · exact got2tt w hL
  · cases y
    · cases m
      · exact got3ff w hL
      · exact got3ft w hL
    · cases m
      · exact got3tf w hL
      · exact got3tt w hL
  · cases y
    · cases m
      · exact got4ff w hL
      · exact got4ft w hL
    · cases m
      · exact got4tf w hL
      · exact got4tt w hL
  · cases y
    · cases m
      · exact got5ff w hL
      · exact got5ft w hL
    · cases m
      · exact got5tf w hL
      · exact got5tt w hL

theorem got_out (q : Int) (y m : Bool) (w : World) (h : q < 0 ∨ 5 < q) : Calls Tryd.prog 30 #[.int .i64 q, .bool y, .bool m] w (GotT w (q, 0, 1)) := by
  have HC := keepd (fun w => check_out q w h)
  clear h
  go_enter Tryd.func30, Tryd.ntmps30
  go_wp2_with (go_at_call 44; with_reducible refine (HC.out _).mono ?_; rintro e w1 ⟨rfl, rfl⟩)
  exact bodyPost_ret (v := .tuple #[.int .i64 q, .int .i64 0, .int .i64 1]) (by simp [results, Tryd.results30, go_sem]) rfl ⟨rfl, Below.refl _ _⟩

theorem got_any (q : Int) (y m : Bool) (w : World) (hL : Laid w) : Calls Tryd.prog 30 #[.int .i64 q, .bool y, .bool m] w (GotT w (gF q y m)) := by
  by_cases h : 0 ≤ q ∧ q ≤ 5
  · exact got_in q y m w hL h.1 h.2
  · have : gF q y m = (q, 0, 1) := by unfold gF; rw [if_neg h]
    rw [this]
    exact got_out q y m w (by omega)

end Go.Proofs.YtlgcfpdmklieiaaDoor
