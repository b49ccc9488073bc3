/-
  The law QbitAnswers, walked: it returns true, whatever the number and the two bools.
-/
import Derived.Test.YtiohcdedndbbgaaDoorT5
namespace Go.Proofs.YtiohcdedndbbgaaDoor
open Go.RowKit

set_option maxRecDepth 100000 in
set_option maxHeartbeats 4000000 in
theorem answers_out (q : Int) (y m : Bool) (w : World) (hL : Laid w) (h : q < 0 ∨ 5 < q) : Calls Tryd.prog 6 #[.int .i64 q, .bool y, .bool m] w fun e w' => e = .returned (.bool true) ∧ Below w.heap.size w w' := by
  have HL := keepd hL
  have HA := keepd (fun w => got_out q y m w h)
  have HC := keepd (fun w => check_out q w h)
  clear hL h
  go_enter Tryd.func6, Tryd.ntmps6
  go_wp2_with fail
  with_reducible refine (HA.out _).mono ?_
  rintro e w1 ⟨rfl, hb1⟩
  dsimp only [tup]
  have HL1 := keepd (HL.out.below hb1)
  have HB1 := keepd hb1
  clear hb1 HL
  go_wp2_with (first | (go_at_call 13; with_reducible refine (HC.out _).mono ?_; rintro e w5 ⟨rfl, rfl⟩) | (go_at_call 17; with_reducible refine (awake_any _ HL1.out).mono ?_; rintro e w5 ⟨rfl, hb5⟩))
  go_ret
  exact ⟨rfl, bCall HB1.out hb5⟩

set_option maxRecDepth 100000 in
set_option maxHeartbeats 4000000 in
theorem answers0ff (w : World) (hL : Laid w) : Calls Tryd.prog 6 #[.int .i64 0, .bool false, .bool false] w fun e w' => e = .returned (.bool true) ∧ Below w.heap.size w w' := by
  have HL := keepd hL
  have HC := keepd (fun w => check_in 0 w (by omega) (by omega))
  have HD := keepd (fun w => check_in 0 w (by omega) (by omega))
  clear hL
  go_enter Tryd.func6, Tryd.ntmps6
  go_wp2_with fail
  with_reducible refine (got_at 0 false false 0 0 0 rfl _ HL.out).mono ?_
  rintro e w1 ⟨rfl, hb1⟩
  have HL1 := keepd (HL.out.below hb1)
  have HB1 := keepd hb1
  clear hb1 HL
  go_wp2_with (go_at_call 13; with_reducible refine (HC.out _).mono ?_; rintro e w5 ⟨rfl, rfl⟩)
  with_reducible refine (got_at 0 false false 0 0 0 rfl _ HL1.out).mono ?_
  rintro e w2 ⟨rfl, hb2⟩
  have HL2 := keepd (HL1.out.below hb2)
  have HB2 := keepd (bCall HB1.out hb2)
  clear hb2 HL1 HB1
  go_wp2_with (first | (go_at_call 13; with_reducible refine (HD.out _).mono ?_; rintro e w5 ⟨rfl, rfl⟩) | (go_at_call 17; with_reducible refine (awake_any _ HL2.out).mono ?_; rintro e w5 ⟨rfl, hb5⟩))
  go_ret
  exact ⟨rfl, bCall HB2.out hb5⟩

set_option maxRecDepth 100000 in
set_option maxHeartbeats 4000000 in
theorem answers0ft (w : World) (hL : Laid w) : Calls Tryd.prog 6 #[.int .i64 0, .bool false, .bool true] w fun e w' => e = .returned (.bool true) ∧ Below w.heap.size w w' := by
  have HL := keepd hL
  have HC := keepd (fun w => check_in 0 w (by omega) (by omega))
  have HD := keepd (fun w => check_in 0 w (by omega) (by omega))
  clear hL
  go_enter Tryd.func6, Tryd.ntmps6
  go_wp2_with fail
  with_reducible refine (got_at 0 false true 0 0 0 rfl _ HL.out).mono ?_
  rintro e w1 ⟨rfl, hb1⟩
  have HL1 := keepd (HL.out.below hb1)
  have HB1 := keepd hb1
  clear hb1 HL
  go_wp2_with (go_at_call 13; with_reducible refine (HC.out _).mono ?_; rintro e w5 ⟨rfl, rfl⟩)
  with_reducible refine (got_at 0 false true 0 0 0 rfl _ HL1.out).mono ?_
  rintro e w2 ⟨rfl, hb2⟩
  have HL2 := keepd (HL1.out.below hb2)
  have HB2 := keepd (bCall HB1.out hb2)
  clear hb2 HL1 HB1
  go_wp2_with (first | (go_at_call 13; with_reducible refine (HD.out _).mono ?_; rintro e w5 ⟨rfl, rfl⟩) | (go_at_call 17; with_reducible refine (awake_any _ HL2.out).mono ?_; rintro e w5 ⟨rfl, hb5⟩))
  go_ret
  exact ⟨rfl, bCall HB2.out hb5⟩

set_option maxRecDepth 100000 in
set_option maxHeartbeats 4000000 in
theorem answers0tf (w : World) (hL : Laid w) : Calls Tryd.prog 6 #[.int .i64 0, .bool true, .bool false] w fun e w' => e = .returned (.bool true) ∧ Below w.heap.size w w' := by
  have HL := keepd hL
  have HC := keepd (fun w => check_in 0 w (by omega) (by omega))
  have HD := keepd (fun w => check_in 0 w (by omega) (by omega))
  clear hL
  go_enter Tryd.func6, Tryd.ntmps6
  go_wp2_with fail
  with_reducible refine (got_at 0 true false 0 2 0 rfl _ HL.out).mono ?_
  rintro e w1 ⟨rfl, hb1⟩
  have HL1 := keepd (HL.out.below hb1)
  have HB1 := keepd hb1
  clear hb1 HL
  go_wp2_with (go_at_call 13; with_reducible refine (HC.out _).mono ?_; rintro e w5 ⟨rfl, rfl⟩)
  with_reducible refine (got_at 0 true false 0 2 0 rfl _ HL1.out).mono ?_
  rintro e w2 ⟨rfl, hb2⟩
  have HL2 := keepd (HL1.out.below hb2)
  have HB2 := keepd (bCall HB1.out hb2)
  clear hb2 HL1 HB1
  go_wp2_with (first | (go_at_call 13; with_reducible refine (HD.out _).mono ?_; rintro e w5 ⟨rfl, rfl⟩) | (go_at_call 17; with_reducible refine (awake_any _ HL2.out).mono ?_; rintro e w5 ⟨rfl, hb5⟩))
  go_ret
  exact ⟨rfl, bCall HB2.out hb5⟩

set_option maxRecDepth 100000 in
set_option maxHeartbeats 4000000 in
theorem answers0tt (w : World) (hL : Laid w) : Calls Tryd.prog 6 #[.int .i64 0, .bool true, .bool true] w fun e w' => e = .returned (.bool true) ∧ Below w.heap.size w w' := by
  have HL := keepd hL
  have HC := keepd (fun w => check_in 0 w (by omega) (by omega))
  have HD := keepd (fun w => check_in 1 w (by omega) (by omega))
  clear hL
  go_enter Tryd.func6, Tryd.ntmps6
  go_wp2_with fail
  with_reducible refine (got_at 0 true true 1 1 0 rfl _ HL.out).mono ?_
  rintro e w1 ⟨rfl, hb1⟩
  have HL1 := keepd (HL.out.below hb1)
  have HB1 := keepd hb1
  clear hb1 HL
  go_wp2_with (go_at_call 13; with_reducible refine (HC.out _).mono ?_; rintro e w5 ⟨rfl, rfl⟩)
  with_reducible refine (got_at 1 true true 1 0 0 rfl _ HL1.out).mono ?_
  rintro e w2 ⟨rfl, hb2⟩
  have HL2 := keepd (HL1.out.below hb2)
  have HB2 := keepd (bCall HB1.out hb2)
  clear hb2 HL1 HB1
  go_wp2_with (first | (go_at_call 13; with_reducible refine (HD.out _).mono ?_; rintro e w5 ⟨rfl, rfl⟩) | (go_at_call 17; with_reducible refine (awake_any _ HL2.out).mono ?_; rintro e w5 ⟨rfl, hb5⟩))
  go_ret
  exact ⟨rfl, bCall HB2.out hb5⟩

set_option maxRecDepth 100000 in
set_option maxHeartbeats 4000000 in
theorem answers1ff (w : World) (hL : Laid w) : Calls Tryd.prog 6 #[.int .i64 1, .bool false, .bool false] w fun e w' => e = .returned (.bool true) ∧ Below w.heap.size w w' := by
  have HL := keepd hL
  have HC := keepd (fun w => check_in 1 w (by omega) (by omega))
  have HD := keepd (fun w => check_in 0 w (by omega) (by omega))
  clear hL
  go_enter Tryd.func6, Tryd.ntmps6
  go_wp2_with fail
  with_reducible refine (got_at 1 false false 0 2 0 rfl _ HL.out).mono ?_
  rintro e w1 ⟨rfl, hb1⟩
  have HL1 := keepd (HL.out.below hb1)
  have HB1 := keepd hb1
  clear hb1 HL
  go_wp2_with (go_at_call 13; with_reducible refine (HC.out _).mono ?_; rintro e w5 ⟨rfl, rfl⟩)
  with_reducible refine (got_at 0 false false 0 0 0 rfl _ HL1.out).mono ?_
  rintro e w2 ⟨rfl, hb2⟩
  have HL2 := keepd (HL1.out.below hb2)
  have HB2 := keepd (bCall HB1.out hb2)
  clear hb2 HL1 HB1
  go_wp2_with (first | (go_at_call 13; with_reducible refine (HD.out _).mono ?_; rintro e w5 ⟨rfl, rfl⟩) | (go_at_call 17; with_reducible refine (awake_any _ HL2.out).mono ?_; rintro e w5 ⟨rfl, hb5⟩))
  go_ret
  exact ⟨rfl, bCall HB2.out hb5⟩

set_option maxRecDepth 100000 in
set_option maxHeartbeats 4000000 in
theorem answers1ft (w : World) (hL : Laid w) : Calls Tryd.prog 6 #[.int .i64 1, .bool false, .bool true] w fun e w' => e = .returned (.bool true) ∧ Below w.heap.size w w' := by
  have HL := keepd hL
  have HC := keepd (fun w => check_in 1 w (by omega) (by omega))
  have HD := keepd (fun w => check_in 0 w (by omega) (by omega))
  clear hL
  go_enter Tryd.func6, Tryd.ntmps6
  go_wp2_with fail
  with_reducible refine (got_at 1 false true 0 2 0 rfl _ HL.out).mono ?_
  rintro e w1 ⟨rfl, hb1⟩
  have HL1 := keepd (HL.out.below hb1)
  have HB1 := keepd hb1
  clear hb1 HL
  go_wp2_with (go_at_call 13; with_reducible refine (HC.out _).mono ?_; rintro e w5 ⟨rfl, rfl⟩)
  with_reducible refine (got_at 0 false true 0 0 0 rfl _ HL1.out).mono ?_
  rintro e w2 ⟨rfl, hb2⟩
  have HL2 := keepd (HL1.out.below hb2)
  have HB2 := keepd (bCall HB1.out hb2)
  clear hb2 HL1 HB1
  go_wp2_with (first | (go_at_call 13; with_reducible refine (HD.out _).mono ?_; rintro e w5 ⟨rfl, rfl⟩) | (go_at_call 17; with_reducible refine (awake_any _ HL2.out).mono ?_; rintro e w5 ⟨rfl, hb5⟩))
  go_ret
  exact ⟨rfl, bCall HB2.out hb5⟩

set_option maxRecDepth 100000 in
set_option maxHeartbeats 4000000 in
theorem answers1tf (w : World) (hL : Laid w) : Calls Tryd.prog 6 #[.int .i64 1, .bool true, .bool false] w fun e w' => e = .returned (.bool true) ∧ Below w.heap.size w w' := by
  have HL := keepd hL
  have HC := keepd (fun w => check_in 1 w (by omega) (by omega))
  have HD := keepd (fun w => check_in 1 w (by omega) (by omega))
  clear hL
  go_enter Tryd.func6, Tryd.ntmps6
  go_wp2_with fail
  with_reducible refine (got_at 1 true false 1 0 0 rfl _ HL.out).mono ?_
  rintro e w1 ⟨rfl, hb1⟩
  have HL1 := keepd (HL.out.below hb1)
  have HB1 := keepd hb1
  clear hb1 HL
  go_wp2_with (go_at_call 13; with_reducible refine (HC.out _).mono ?_; rintro e w5 ⟨rfl, rfl⟩)
  with_reducible refine (got_at 1 true false 1 0 0 rfl _ HL1.out).mono ?_
  rintro e w2 ⟨rfl, hb2⟩
  have HL2 := keepd (HL1.out.below hb2)
  have HB2 := keepd (bCall HB1.out hb2)
  clear hb2 HL1 HB1
  go_wp2_with (first | (go_at_call 13; with_reducible refine (HD.out _).mono ?_; rintro e w5 ⟨rfl, rfl⟩) | (go_at_call 17; with_reducible refine (awake_any _ HL2.out).mono ?_; rintro e w5 ⟨rfl, hb5⟩))
  go_ret
  exact ⟨rfl, bCall HB2.out hb5⟩

set_option maxRecDepth 100000 in
set_option maxHeartbeats 4000000 in
theorem answers1tt (w : World) (hL : Laid w) : Calls Tryd.prog 6 #[.int .i64 1, .bool true, .bool true] w fun e w' => e = .returned (.bool true) ∧ Below w.heap.size w w' := by
  have HL := keepd hL
  have HC := keepd (fun w => check_in 1 w (by omega) (by omega))
  have HD := keepd (fun w => check_in 1 w (by omega) (by omega))
  clear hL
  go_enter Tryd.func6, Tryd.ntmps6
  go_wp2_with fail
  with_reducible refine (got_at 1 true true 1 0 0 rfl _ HL.out).mono ?_
  rintro e w1 ⟨rfl, hb1⟩
  have HL1 := keepd (HL.out.below hb1)
  have HB1 := keepd hb1
  clear hb1 HL
  go_wp2_with (go_at_call 13; with_reducible refine (HC.out _).mono ?_; rintro e w5 ⟨rfl, rfl⟩)
  with_reducible refine (got_at 1 true true 1 0 0 rfl _ HL1.out).mono ?_
  rintro e w2 ⟨rfl, hb2⟩
  have HL2 := keepd (HL1.out.below hb2)
  have HB2 := keepd (bCall HB1.out hb2)
  clear hb2 HL1 HB1
  go_wp2_with (first | (go_at_call 13; with_reducible refine (HD.out _).mono ?_; rintro e w5 ⟨rfl, rfl⟩) | (go_at_call 17; with_reducible refine (awake_any _ HL2.out).mono ?_; rintro e w5 ⟨rfl, hb5⟩))
  go_ret
  exact ⟨rfl, bCall HB2.out hb5⟩

set_option maxRecDepth 100000 in
set_option maxHeartbeats 4000000 in
theorem answers2ff (w : World) (hL : Laid w) : Calls Tryd.prog 6 #[.int .i64 2, .bool false, .bool false] w fun e w' => e = .returned (.bool true) ∧ Below w.heap.size w w' := by
  have HL := keepd hL
  have HC := keepd (fun w => check_in 2 w (by omega) (by omega))
  have HD := keepd (fun w => check_in 0 w (by omega) (by omega))
  clear hL
  go_enter Tryd.func6, Tryd.ntmps6
  go_wp2_with fail
  with_reducible refine (got_at 2 false false 0 0 0 rfl _ HL.out).mono ?_
  rintro e w1 ⟨rfl, hb1⟩
  have HL1 := keepd (HL.out.below hb1)
  have HB1 := keepd hb1
  clear hb1 HL
  go_wp2_with (go_at_call 13; with_reducible refine (HC.out _).mono ?_; rintro e w5 ⟨rfl, rfl⟩)
  with_reducible refine (got_at 0 false false 0 0 0 rfl _ HL1.out).mono ?_
  rintro e w2 ⟨rfl, hb2⟩
  have HL2 := keepd (HL1.out.below hb2)
  have HB2 := keepd (bCall HB1.out hb2)
  clear hb2 HL1 HB1
  go_wp2_with (first | (go_at_call 13; with_reducible refine (HD.out _).mono ?_; rintro e w5 ⟨rfl, rfl⟩) | (go_at_call 17; with_reducible refine (awake_any _ HL2.out).mono ?_; rintro e w5 ⟨rfl, hb5⟩))
  go_ret
  exact ⟨rfl, bCall HB2.out hb5⟩

set_option maxRecDepth 100000 in
set_option maxHeartbeats 4000000 in
theorem answers2ft (w : World) (hL : Laid w) : Calls Tryd.prog 6 #[.int .i64 2, .bool false, .bool true] w fun e w' => e = .returned (.bool true) ∧ Below w.heap.size w w' := by
  have HL := keepd hL
  have HC := keepd (fun w => check_in 2 w (by omega) (by omega))
  have HD := keepd (fun w => check_in 0 w (by omega) (by omega))
  clear hL
  go_enter Tryd.func6, Tryd.ntmps6
  go_wp2_with fail
  with_reducible refine (got_at 2 false true 0 0 0 rfl _ HL.out).mono ?_
  rintro e w1 ⟨rfl, hb1⟩
  have HL1 := keepd (HL.out.below hb1)
  have HB1 := keepd hb1
  clear hb1 HL
  go_wp2_with (go_at_call 13; with_reducible refine (HC.out _).mono ?_; rintro e w5 ⟨rfl, rfl⟩)
  with_reducible refine (got_at 0 false true 0 0 0 rfl _ HL1.out).mono ?_
  rintro e w2 ⟨rfl, hb2⟩
  have HL2 := keepd (HL1.out.below hb2)
  have HB2 := keepd (bCall HB1.out hb2)
  clear hb2 HL1 HB1
  go_wp2_with (first | (go_at_call 13; with_reducible refine (HD.out _).mono ?_; rintro e w5 ⟨rfl, rfl⟩) | (go_at_call 17; with_reducible refine (awake_any _ HL2.out).mono ?_; rintro e w5 ⟨rfl, hb5⟩))
  go_ret
  exact ⟨rfl, bCall HB2.out hb5⟩

set_option maxRecDepth 100000 in
set_option maxHeartbeats 4000000 in
theorem answers2tf (w : World) (hL : Laid w) : Calls Tryd.prog 6 #[.int .i64 2, .bool true, .bool false] w fun e w' => e = .returned (.bool true) ∧ Below w.heap.size w w' := by
  have HL := keepd hL
  have HC := keepd (fun w => check_in 2 w (by omega) (by omega))
  have HD := keepd (fun w => check_in 0 w (by omega) (by omega))
  clear hL
  go_enter Tryd.func6, Tryd.ntmps6
  go_wp2_with fail
  with_reducible refine (got_at 2 true false 0 0 5 rfl _ HL.out).mono ?_
  rintro e w1 ⟨rfl, hb1⟩
  have HL1 := keepd (HL.out.below hb1)
  have HB1 := keepd hb1
  clear hb1 HL
  go_wp2_with (go_at_call 13; with_reducible refine (HC.out _).mono ?_; rintro e w5 ⟨rfl, rfl⟩)
  with_reducible refine (got_at 0 true false 0 2 0 rfl _ HL1.out).mono ?_
  rintro e w2 ⟨rfl, hb2⟩
  have HL2 := keepd (HL1.out.below hb2)
  have HB2 := keepd (bCall HB1.out hb2)
  clear hb2 HL1 HB1
  go_wp2_with (first | (go_at_call 13; with_reducible refine (HD.out _).mono ?_; rintro e w5 ⟨rfl, rfl⟩) | (go_at_call 17; with_reducible refine (awake_any _ HL2.out).mono ?_; rintro e w5 ⟨rfl, hb5⟩))
  go_ret
  exact ⟨rfl, bCall HB2.out hb5⟩

set_option maxRecDepth 100000 in
set_option maxHeartbeats 4000000 in
theorem answers2tt (w : World) (hL : Laid w) : Calls Tryd.prog 6 #[.int .i64 2, .bool true, .bool true] w fun e w' => e = .returned (.bool true) ∧ Below w.heap.size w w' := by
  have HL := keepd hL
  have HC := keepd (fun w => check_in 2 w (by omega) (by omega))
  have HD := keepd (fun w => check_in 0 w (by omega) (by omega))
  clear hL
  go_enter Tryd.func6, Tryd.ntmps6
  go_wp2_with fail
  with_reducible refine (got_at 2 true true 0 0 5 rfl _ HL.out).mono ?_
  rintro e w1 ⟨rfl, hb1⟩
  have HL1 := keepd (HL.out.below hb1)
  have HB1 := keepd hb1
  clear hb1 HL
  go_wp2_with (go_at_call 13; with_reducible refine (HC.out _).mono ?_; rintro e w5 ⟨rfl, rfl⟩)
  with_reducible refine (got_at 0 true true 1 1 0 rfl _ HL1.out).mono ?_
  rintro e w2 ⟨rfl, hb2⟩
  have HL2 := keepd (HL1.out.below hb2)
  have HB2 := keepd (bCall HB1.out hb2)
  clear hb2 HL1 HB1
  go_wp2_with (first | (go_at_call 13; with_reducible refine (HD.out _).mono ?_; rintro e w5 ⟨rfl, rfl⟩) | (go_at_call 17; with_reducible refine (awake_any _ HL2.out).mono ?_; rintro e w5 ⟨rfl, hb5⟩))
  go_ret
  exact ⟨rfl, bCall HB2.out hb5⟩

set_option maxRecDepth 100000 in
set_option maxHeartbeats 4000000 in
theorem answers3ff (w : World) (hL : Laid w) : Calls Tryd.prog 6 #[.int .i64 3, .bool false, .bool false] w fun e w' => e = .returned (.bool true) ∧ Below w.heap.size w w' := by
  have HL := keepd hL
  have HC := keepd (fun w => check_in 3 w (by omega) (by omega))
  have HD := keepd (fun w => check_in 4 w (by omega) (by omega))
  clear hL
  go_enter Tryd.func6, Tryd.ntmps6
  go_wp2_with fail
  with_reducible refine (got_at 3 false false 4 1 0 rfl _ HL.out).mono ?_
  rintro e w1 ⟨rfl, hb1⟩
  have HL1 := keepd (HL.out.below hb1)
  have HB1 := keepd hb1
  clear hb1 HL
  go_wp2_with (go_at_call 13; with_reducible refine (HC.out _).mono ?_; rintro e w5 ⟨rfl, rfl⟩)
  with_reducible refine (got_at 4 false false 0 0 0 rfl _ HL1.out).mono ?_
  rintro e w2 ⟨rfl, hb2⟩
  have HL2 := keepd (HL1.out.below hb2)
  have HB2 := keepd (bCall HB1.out hb2)
  clear hb2 HL1 HB1
  go_wp2_with (first | (go_at_call 13; with_reducible refine (HD.out _).mono ?_; rintro e w5 ⟨rfl, rfl⟩) | (go_at_call 17; with_reducible refine (awake_any _ HL2.out).mono ?_; rintro e w5 ⟨rfl, hb5⟩))
  go_ret
  exact ⟨rfl, bCall HB2.out hb5⟩

set_option maxRecDepth 100000 in
set_option maxHeartbeats 4000000 in
theorem answers3ft (w : World) (hL : Laid w) : Calls Tryd.prog 6 #[.int .i64 3, .bool false, .bool true] w fun e w' => e = .returned (.bool true) ∧ Below w.heap.size w w' := by
  have HL := keepd hL
  have HC := keepd (fun w => check_in 3 w (by omega) (by omega))
  have HD := keepd (fun w => check_in 4 w (by omega) (by omega))
  clear hL
  go_enter Tryd.func6, Tryd.ntmps6
  go_wp2_with fail
  with_reducible refine (got_at 3 false true 4 1 0 rfl _ HL.out).mono ?_
  rintro e w1 ⟨rfl, hb1⟩
  have HL1 := keepd (HL.out.below hb1)
  have HB1 := keepd hb1
  clear hb1 HL
  go_wp2_with (go_at_call 13; with_reducible refine (HC.out _).mono ?_; rintro e w5 ⟨rfl, rfl⟩)
  with_reducible refine (got_at 4 false true 0 0 0 rfl _ HL1.out).mono ?_
  rintro e w2 ⟨rfl, hb2⟩
  have HL2 := keepd (HL1.out.below hb2)
  have HB2 := keepd (bCall HB1.out hb2)
  clear hb2 HL1 HB1
  go_wp2_with (first | (go_at_call 13; with_reducible refine (HD.out _).mono ?_; rintro e w5 ⟨rfl, rfl⟩) | (go_at_call 17; with_reducible refine (awake_any _ HL2.out).mono ?_; rintro e w5 ⟨rfl, hb5⟩))
  go_ret
  exact ⟨rfl, bCall HB2.out hb5⟩

set_option maxRecDepth 100000 in
set_option maxHeartbeats 4000000 in
theorem answers3tf (w : World) (hL : Laid w) : Calls Tryd.prog 6 #[.int .i64 3, .bool true, .bool false] w fun e w' => e = .returned (.bool true) ∧ Below w.heap.size w w' := by
  have HL := keepd hL
  have HC := keepd (fun w => check_in 3 w (by omega) (by omega))
  have HD := keepd (fun w => check_in 1 w (by omega) (by omega))
  clear hL
  go_enter Tryd.func6, Tryd.ntmps6
  go_wp2_with fail
  with_reducible refine (got_at 3 true false 1 0 5 rfl _ HL.out).mono ?_
  rintro e w1 ⟨rfl, hb1⟩
  have HL1 := keepd (HL.out.below hb1)
  have HB1 := keepd hb1
  clear hb1 HL
  go_wp2_with (go_at_call 13; with_reducible refine (HC.out _).mono ?_; rintro e w5 ⟨rfl, rfl⟩)
  with_reducible refine (got_at 1 true false 1 0 0 rfl _ HL1.out).mono ?_
  rintro e w2 ⟨rfl, hb2⟩
  have HL2 := keepd (HL1.out.below hb2)
  have HB2 := keepd (bCall HB1.out hb2)
  clear hb2 HL1 HB1
  go_wp2_with (first | (go_at_call 13; with_reducible refine (HD.out _).mono ?_; rintro e w5 ⟨rfl, rfl⟩) | (go_at_call 17; with_reducible refine (awake_any _ HL2.out).mono ?_; rintro e w5 ⟨rfl, hb5⟩))
  go_ret
  exact ⟨rfl, bCall HB2.out hb5⟩

set_option maxRecDepth 100000 in
set_option maxHeartbeats 4000000 in
theorem answers3tt (w : World) (hL : Laid w) : Calls Tryd.prog 6 #[.int .i64 3, .bool true, .bool true] w fun e w' => e = .returned (.bool true) ∧ Below w.heap.size w w' := by
  have HL := keepd hL
  have HC := keepd (fun w => check_in 3 w (by omega) (by omega))
  have HD := keepd (fun w => check_in 1 w (by omega) (by omega))
  clear hL
  go_enter Tryd.func6, Tryd.ntmps6
  go_wp2_with fail
  with_reducible refine (got_at 3 true true 1 0 5 rfl _ HL.out).mono ?_
  rintro e w1 ⟨rfl, hb1⟩
  have HL1 := keepd (HL.out.below hb1)
  have HB1 := keepd hb1
  clear hb1 HL
  go_wp2_with (go_at_call 13; with_reducible refine (HC.out _).mono ?_; rintro e w5 ⟨rfl, rfl⟩)
  with_reducible refine (got_at 1 true true 1 0 0 rfl _ HL1.out).mono ?_
  rintro e w2 ⟨rfl, hb2⟩
  have HL2 := keepd (HL1.out.below hb2)
  have HB2 := keepd (bCall HB1.out hb2)
  clear hb2 HL1 HB1
  go_wp2_with (first | (go_at_call 13; with_reducible refine (HD.out _).mono ?_; rintro e w5 ⟨rfl, rfl⟩) | (go_at_call 17; with_reducible refine (awake_any _ HL2.out).mono ?_; rintro e w5 ⟨rfl, hb5⟩))
  go_ret
  exact ⟨rfl, bCall HB2.out hb5⟩

set_option maxRecDepth 100000 in
set_option maxHeartbeats 4000000 in
theorem answers4ff (w : World) (hL : Laid w) : Calls Tryd.prog 6 #[.int .i64 4, .bool false, .bool false] w fun e w' => e = .returned (.bool true) ∧ Below w.heap.size w w' := by
  have HL := keepd hL
  have HC := keepd (fun w => check_in 4 w (by omega) (by omega))
  have HD := keepd (fun w => check_in 0 w (by omega) (by omega))
  clear hL
  go_enter Tryd.func6, Tryd.ntmps6
  go_wp2_with fail
  with_reducible refine (got_at 4 false false 0 0 0 rfl _ HL.out).mono ?_
  rintro e w1 ⟨rfl, hb1⟩
  have HL1 := keepd (HL.out.below hb1)
  have HB1 := keepd hb1
  clear hb1 HL
  go_wp2_with (go_at_call 13; with_reducible refine (HC.out _).mono ?_; rintro e w5 ⟨rfl, rfl⟩)
  with_reducible refine (got_at 0 false false 0 0 0 rfl _ HL1.out).mono ?_
  rintro e w2 ⟨rfl, hb2⟩
  have HL2 := keepd (HL1.out.below hb2)
  have HB2 := keepd (bCall HB1.out hb2)
  clear hb2 HL1 HB1
  go_wp2_with (first | (go_at_call 13; with_reducible refine (HD.out _).mono ?_; rintro e w5 ⟨rfl, rfl⟩) | (go_at_call 17; with_reducible refine (awake_any _ HL2.out).mono ?_; rintro e w5 ⟨rfl, hb5⟩))
  go_ret
  exact ⟨rfl, bCall HB2.out hb5⟩

set_option maxRecDepth 100000 in
set_option maxHeartbeats 4000000 in
theorem answers4ft (w : World) (hL : Laid w) : Calls Tryd.prog 6 #[.int .i64 4, .bool false, .bool true] w fun e w' => e = .returned (.bool true) ∧ Below w.heap.size w w' := by
  have HL := keepd hL
  have HC := keepd (fun w => check_in 4 w (by omega) (by omega))
  have HD := keepd (fun w => check_in 0 w (by omega) (by omega))
  clear hL
  go_enter Tryd.func6, Tryd.ntmps6
  go_wp2_with fail
  with_reducible refine (got_at 4 false true 0 0 0 rfl _ HL.out).mono ?_
  rintro e w1 ⟨rfl, hb1⟩
  have HL1 := keepd (HL.out.below hb1)
  have HB1 := keepd hb1
  clear hb1 HL
  go_wp2_with (go_at_call 13; with_reducible refine (HC.out _).mono ?_; rintro e w5 ⟨rfl, rfl⟩)
  with_reducible refine (got_at 0 false true 0 0 0 rfl _ HL1.out).mono ?_
  rintro e w2 ⟨rfl, hb2⟩
  have HL2 := keepd (HL1.out.below hb2)
  have HB2 := keepd (bCall HB1.out hb2)
  clear hb2 HL1 HB1
  go_wp2_with (first | (go_at_call 13; with_reducible refine (HD.out _).mono ?_; rintro e w5 ⟨rfl, rfl⟩) | (go_at_call 17; with_reducible refine (awake_any _ HL2.out).mono ?_; rintro e w5 ⟨rfl, hb5⟩))
  go_ret
  exact ⟨rfl, bCall HB2.out hb5⟩

set_option maxRecDepth 100000 in
set_option maxHeartbeats 4000000 in
theorem answers4tf (w : World) (hL : Laid w) : Calls Tryd.prog 6 #[.int .i64 4, .bool true, .bool false] w fun e w' => e = .returned (.bool true) ∧ Below w.heap.size w w' := by
  have HL := keepd hL
  have HC := keepd (fun w => check_in 4 w (by omega) (by omega))
  have HD := keepd (fun w => check_in 1 w (by omega) (by omega))
  clear hL
  go_enter Tryd.func6, Tryd.ntmps6
  go_wp2_with fail
  with_reducible refine (got_at 4 true false 1 0 0 rfl _ HL.out).mono ?_
  rintro e w1 ⟨rfl, hb1⟩
  have HL1 := keepd (HL.out.below hb1)
  have HB1 := keepd hb1
  clear hb1 HL
  go_wp2_with (go_at_call 13; with_reducible refine (HC.out _).mono ?_; rintro e w5 ⟨rfl, rfl⟩)
  with_reducible refine (got_at 1 true false 1 0 0 rfl _ HL1.out).mono ?_
  rintro e w2 ⟨rfl, hb2⟩
  have HL2 := keepd (HL1.out.below hb2)
  have HB2 := keepd (bCall HB1.out hb2)
  clear hb2 HL1 HB1
  go_wp2_with (first | (go_at_call 13; with_reducible refine (HD.out _).mono ?_; rintro e w5 ⟨rfl, rfl⟩) | (go_at_call 17; with_reducible refine (awake_any _ HL2.out).mono ?_; rintro e w5 ⟨rfl, hb5⟩))
  go_ret
  exact ⟨rfl, bCall HB2.out hb5⟩

set_option maxRecDepth 100000 in
set_option maxHeartbeats 4000000 in
theorem answers4tt (w : World) (hL : Laid w) : Calls Tryd.prog 6 #[.int .i64 4, .bool true, .bool true] w fun e w' => e = .returned (.bool true) ∧ Below w.heap.size w w' := by
  have HL := keepd hL
  have HC := keepd (fun w => check_in 4 w (by omega) (by omega))
  have HD := keepd (fun w => check_in 1 w (by omega) (by omega))
  clear hL
  go_enter Tryd.func6, Tryd.ntmps6
  go_wp2_with fail
  with_reducible refine (got_at 4 true true 1 0 0 rfl _ HL.out).mono ?_
  rintro e w1 ⟨rfl, hb1⟩
  have HL1 := keepd (HL.out.below hb1)
  have HB1 := keepd hb1
  clear hb1 HL
  go_wp2_with (go_at_call 13; with_reducible refine (HC.out _).mono ?_; rintro e w5 ⟨rfl, rfl⟩)
  with_reducible refine (got_at 1 true true 1 0 0 rfl _ HL1.out).mono ?_
  rintro e w2 ⟨rfl, hb2⟩
  have HL2 := keepd (HL1.out.below hb2)
  have HB2 := keepd (bCall HB1.out hb2)
  clear hb2 HL1 HB1
  go_wp2_with (first | (go_at_call 13; with_reducible refine (HD.out _).mono ?_; rintro e w5 ⟨rfl, rfl⟩) | (go_at_call 17; with_reducible refine (awake_any _ HL2.out).mono ?_; rintro e w5 ⟨rfl, hb5⟩))
  go_ret
  exact ⟨rfl, bCall HB2.out hb5⟩

set_option maxRecDepth 100000 in
set_option maxHeartbeats 4000000 in
theorem answers5ff (w : World) (hL : Laid w) : Calls Tryd.prog 6 #[.int .i64 5, .bool false, .bool false] w fun e w' => e = .returned (.bool true) ∧ Below w.heap.size w w' := by
  have HL := keepd hL
  have HC := keepd (fun w => check_in 5 w (by omega) (by omega))
  have HD := keepd (fun w => check_in 0 w (by omega) (by omega))
  clear hL
  go_enter Tryd.func6, Tryd.ntmps6
  go_wp2_with fail
  with_reducible refine (got_at 5 false false 0 0 0 rfl _ HL.out).mono ?_
  rintro e w1 ⟨rfl, hb1⟩
  have HL1 := keepd (HL.out.below hb1)
  have HB1 := keepd hb1
  clear hb1 HL
  go_wp2_with (go_at_call 13; with_reducible refine (HC.out _).mono ?_; rintro e w5 ⟨rfl, rfl⟩)
  with_reducible refine (got_at 0 false false 0 0 0 rfl _ HL1.out).mono ?_
  rintro e w2 ⟨rfl, hb2⟩
  have HL2 := keepd (HL1.out.below hb2)
  have HB2 := keepd (bCall HB1.out hb2)
  clear hb2 HL1 HB1
  go_wp2_with (first | (go_at_call 13; with_reducible refine (HD.out _).mono ?_; rintro e w5 ⟨rfl, rfl⟩) | (go_at_call 17; with_reducible refine (awake_any _ HL2.out).mono ?_; rintro e w5 ⟨rfl, hb5⟩))
  go_ret
  exact ⟨rfl, bCall HB2.out hb5⟩

set_option maxRecDepth 100000 in
set_option maxHeartbeats 4000000 in
theorem answers5ft (w : World) (hL : Laid w) : Calls Tryd.prog 6 #[.int .i64 5, .bool false, .bool true] w fun e w' => e = .returned (.bool true) ∧ Below w.heap.size w w' := by
  have HL := keepd hL
  have HC := keepd (fun w => check_in 5 w (by omega) (by omega))
  have HD := keepd (fun w => check_in 0 w (by omega) (by omega))
  clear hL
  go_enter Tryd.func6, Tryd.ntmps6
  go_wp2_with fail
  with_reducible refine (got_at 5 false true 0 0 0 rfl _ HL.out).mono ?_
  rintro e w1 ⟨rfl, hb1⟩
  have HL1 := keepd (HL.out.below hb1)
  have HB1 := keepd hb1
  clear hb1 HL
  go_wp2_with (go_at_call 13; with_reducible refine (HC.out _).mono ?_; rintro e w5 ⟨rfl, rfl⟩)
  with_reducible refine (got_at 0 false true 0 0 0 rfl _ HL1.out).mono ?_
  rintro e w2 ⟨rfl, hb2⟩
  have HL2 := keepd (HL1.out.below hb2)
  have HB2 := keepd (bCall HB1.out hb2)
  clear hb2 HL1 HB1
  go_wp2_with (first | (go_at_call 13; with_reducible refine (HD.out _).mono ?_; rintro e w5 ⟨rfl, rfl⟩) | (go_at_call 17; with_reducible refine (awake_any _ HL2.out).mono ?_; rintro e w5 ⟨rfl, hb5⟩))
  go_ret
  exact ⟨rfl, bCall HB2.out hb5⟩

set_option maxRecDepth 100000 in
set_option maxHeartbeats 4000000 in
theorem answers5tf (w : World) (hL : Laid w) : Calls Tryd.prog 6 #[.int .i64 5, .bool true, .bool false] w fun e w' => e = .returned (.bool true) ∧ Below w.heap.size w w' := by
  have HL := keepd hL
  have HC := keepd (fun w => check_in 5 w (by omega) (by omega))
  have HD := keepd (fun w => check_in 2 w (by omega) (by omega))
  clear hL
  go_enter Tryd.func6, Tryd.ntmps6
  go_wp2_with fail
  with_reducible refine (got_at 5 true false 2 2 0 rfl _ HL.out).mono ?_
  rintro e w1 ⟨rfl, hb1⟩
  have HL1 := keepd (HL.out.below hb1)
  have HB1 := keepd hb1
  clear hb1 HL
  go_wp2_with (go_at_call 13; with_reducible refine (HC.out _).mono ?_; rintro e w5 ⟨rfl, rfl⟩)
  with_reducible refine (got_at 2 true false 0 0 5 rfl _ HL1.out).mono ?_
  rintro e w2 ⟨rfl, hb2⟩
  have HL2 := keepd (HL1.out.below hb2)
  have HB2 := keepd (bCall HB1.out hb2)
  clear hb2 HL1 HB1
  go_wp2_with (first | (go_at_call 13; with_reducible refine (HD.out _).mono ?_; rintro e w5 ⟨rfl, rfl⟩) | (go_at_call 17; with_reducible refine (awake_any _ HL2.out).mono ?_; rintro e w5 ⟨rfl, hb5⟩))
  go_ret
  exact ⟨rfl, bCall HB2.out hb5⟩

set_option maxRecDepth 100000 in
set_option maxHeartbeats 4000000 in
theorem answers5tt (w : World) (hL : Laid w) : Calls Tryd.prog 6 #[.int .i64 5, .bool true, .bool true] w fun e w' => e = .returned (.bool true) ∧ Below w.heap.size w w' := by
  have HL := keepd hL
  have HC := keepd (fun w => check_in 5 w (by omega) (by omega))
  have HD := keepd (fun w => check_in 2 w (by omega) (by omega))
  clear hL
  go_enter Tryd.func6, Tryd.ntmps6
  go_wp2_with fail
  with_reducible refine (got_at 5 true true 2 2 0 rfl _ HL.out).mono ?_
  rintro e w1 ⟨rfl, hb1⟩
  have HL1 := keepd (HL.out.below hb1)
  have HB1 := keepd hb1
  clear hb1 HL
  go_wp2_with (go_at_call 13; with_reducible refine (HC.out _).mono ?_; rintro e w5 ⟨rfl, rfl⟩)
  with_reducible refine (got_at 2 true true 0 0 5 rfl _ HL1.out).mono ?_
  rintro e w2 ⟨rfl, hb2⟩
  have HL2 := keepd (HL1.out.below hb2)
  have HB2 := keepd (bCall HB1.out hb2)
  clear hb2 HL1 HB1
  go_wp2_with (first | (go_at_call 13; with_reducible refine (HD.out _).mono ?_; rintro e w5 ⟨rfl, rfl⟩) | (go_at_call 17; with_reducible refine (awake_any _ HL2.out).mono ?_; rintro e w5 ⟨rfl, hb5⟩))
  go_ret
  exact ⟨rfl, bCall HB2.out hb5⟩

theorem answers_law (q : Int) (y m : Bool) (w : World) (hL : Laid w) : Calls Tryd.prog 6 #[.int .i64 q, .bool y, .bool m] w fun e w' => e = .returned (.bool true) ∧ Below w.heap.size w w' := by
  by_cases h : 0 ≤ q ∧ q ≤ 5
  · rcases six h.1 h.2 with rfl | rfl | rfl | rfl | rfl | rfl
    · cases y
      · cases m
        · exact answers0ff w hL
        · exact answers0ft w hL
      · cases m
        · exact answers0tf w hL
        · exact answers0tt w hL
    · cases y
      · cases m
        · exact answers1ff w hL
        · exact answers1ft w hL
      · cases m
        · exact answers1tf w hL
        · exact answers1tt w hL
    · cases y
      · cases m
        · exact answers2ff w hL
        · exact answers2ft w hL
      · cases m
        · exact answers2tf w hL
        · exact answers2tt w hL
    · cases y
      · cases m
        · exact answers3ff w hL
        · exact answers3ft w hL
      · cases m
        · exact answers3tf w hL
        · exact answers3tt w hL
    · cases y
      · cases m
        · exact answers4ff w hL
        · exact answers4ft w hL
      · cases m
        · exact answers4tf w hL
        · exact answers4tt w hL
    · cases y
      · cases m
        · exact answers5ff w hL
        · exact answers5ft w hL
      · cases m
        · exact answers5tf w hL
        · exact answers5tt w hL
  · exact answers_out q y m w hL (by omega)

end Go.Proofs.YtiohcdedndbbgaaDoor
