/-
  The law QbitAsks, walked: it returns true, whatever the number and the bool.
-/
import Derived.Test.YtiohcdedndbbgaaDoorT5
namespace Go.Proofs.YtiohcdedndbbgaaDoor
open Go.RowKit

set_option maxRecDepth 100000 in
set_option maxHeartbeats 4000000 in
theorem asks_out (q : Int) (y : Bool) (w : World) (hL : Laid w) (h : q < 0 ∨ 5 < q) : Calls Tryd.prog 4 #[.int .i64 q, .bool y] w fun e w' => e = .returned (.bool true) ∧ Below w.heap.size w w' := by
  have HL := keepd hL
  have HA := keepd (fun w => ask_out q y w h)
  have HC := keepd (fun w => check_out q w h)
  clear hL h
  go_enter Tryd.func4, Tryd.ntmps4
  go_wp2_with fail
  with_reducible refine (HA.out _).mono ?_
  rintro e w1 ⟨rfl, hb1⟩
  dsimp only [tup]
  have HL1 := keepd (HL.out.below hb1)
  have HB1 := keepd hb1
  clear hb1 HL
  go_wp2_with (first | (go_at_call 13; with_reducible refine (HC.out _).mono ?_; rintro e w5 ⟨rfl, rfl⟩) | (go_at_call 17; with_reducible refine (awake_any _ HL1.out).mono ?_; rintro e w5 ⟨rfl, hb5⟩))
  go_ret
  exact ⟨rfl, bCall HB1.out hb5⟩

set_option maxRecDepth 100000 in
set_option maxHeartbeats 4000000 in
theorem asks0f (w : World) (hL : Laid w) : Calls Tryd.prog 4 #[.int .i64 0, .bool false] w fun e w' => e = .returned (.bool true) ∧ Below w.heap.size w w' := by
  have HL := keepd hL
  have HC := keepd (fun w => check_in 0 w (by omega) (by omega))
  have HD := keepd (fun w => check_in 0 w (by omega) (by omega))
  clear hL
  go_enter Tryd.func4, Tryd.ntmps4
  go_wp2_with fail
  with_reducible refine (ask_at 0 false 0 0 5 rfl _ HL.out).mono ?_
  rintro e w1 ⟨rfl, hb1⟩
  have HL1 := keepd (HL.out.below hb1)
  have HB1 := keepd hb1
  clear hb1 HL
  go_wp2_with (go_at_call 13; with_reducible refine (HC.out _).mono ?_; rintro e w5 ⟨rfl, rfl⟩)
  with_reducible refine (ask_at 0 false 0 0 5 rfl _ HL1.out).mono ?_
  rintro e w2 ⟨rfl, hb2⟩
  have HL2 := keepd (HL1.out.below hb2)
  have HB2 := keepd (bCall HB1.out hb2)
  clear hb2 HL1 HB1
  go_wp2_with (first | (go_at_call 13; with_reducible refine (HD.out _).mono ?_; rintro e w5 ⟨rfl, rfl⟩) | (go_at_call 15; with_reducible refine (wanted0 _ HL2.out).mono ?_; rintro e w5 ⟨rfl, rfl⟩) | (go_at_call 15; with_reducible refine (wanted0 _ HL2.out).mono ?_; rintro e w5 ⟨rfl, rfl⟩))
  with_reducible refine (ask_at 0 true 4 1 0 rfl _ HL2.out).mono ?_
  rintro e w3 ⟨rfl, hb3⟩
  have HL3 := keepd (HL2.out.below hb3)
  have HB3 := keepd (bCall HB2.out hb3)
  clear hb3 HL2 HB2
  go_wp2_with (go_at_call 17; with_reducible refine (awake_any _ HL3.out).mono ?_; rintro e w5 ⟨rfl, hb5⟩)
  go_ret
  exact ⟨rfl, bCall HB3.out hb5⟩

set_option maxRecDepth 100000 in
set_option maxHeartbeats 4000000 in
theorem asks0t (w : World) (hL : Laid w) : Calls Tryd.prog 4 #[.int .i64 0, .bool true] w fun e w' => e = .returned (.bool true) ∧ Below w.heap.size w w' := by
  have HL := keepd hL
  have HC := keepd (fun w => check_in 0 w (by omega) (by omega))
  have HD := keepd (fun w => check_in 4 w (by omega) (by omega))
  clear hL
  go_enter Tryd.func4, Tryd.ntmps4
  go_wp2_with fail
  with_reducible refine (ask_at 0 true 4 1 0 rfl _ HL.out).mono ?_
  rintro e w1 ⟨rfl, hb1⟩
  have HL1 := keepd (HL.out.below hb1)
  have HB1 := keepd hb1
  clear hb1 HL
  go_wp2_with (go_at_call 13; with_reducible refine (HC.out _).mono ?_; rintro e w5 ⟨rfl, rfl⟩)
  with_reducible refine (ask_at 4 true 4 0 5 rfl _ HL1.out).mono ?_
  rintro e w2 ⟨rfl, hb2⟩
  have HL2 := keepd (HL1.out.below hb2)
  have HB2 := keepd (bCall HB1.out hb2)
  clear hb2 HL1 HB1
  go_wp2_with (first | (go_at_call 13; with_reducible refine (HD.out _).mono ?_; rintro e w5 ⟨rfl, rfl⟩) | (go_at_call 15; with_reducible refine (wanted4 _ HL2.out).mono ?_; rintro e w5 ⟨rfl, rfl⟩) | (go_at_call 15; with_reducible refine (wanted0 _ HL2.out).mono ?_; rintro e w5 ⟨rfl, rfl⟩))
  with_reducible refine (ask_at 4 false 5 0 0 rfl _ HL2.out).mono ?_
  rintro e w3 ⟨rfl, hb3⟩
  have HL3 := keepd (HL2.out.below hb3)
  have HB3 := keepd (bCall HB2.out hb3)
  clear hb3 HL2 HB2
  go_wp2_with (go_at_call 17; with_reducible refine (awake_any _ HL3.out).mono ?_; rintro e w5 ⟨rfl, hb5⟩)
  go_ret
  exact ⟨rfl, bCall HB3.out hb5⟩

set_option maxRecDepth 100000 in
set_option maxHeartbeats 4000000 in
theorem asks1f (w : World) (hL : Laid w) : Calls Tryd.prog 4 #[.int .i64 1, .bool false] w fun e w' => e = .returned (.bool true) ∧ Below w.heap.size w w' := by
  have HL := keepd hL
  have HC := keepd (fun w => check_in 1 w (by omega) (by omega))
  have HD := keepd (fun w => check_in 2 w (by omega) (by omega))
  clear hL
  go_enter Tryd.func4, Tryd.ntmps4
  go_wp2_with fail
  with_reducible refine (ask_at 1 false 2 2 0 rfl _ HL.out).mono ?_
  rintro e w1 ⟨rfl, hb1⟩
  have HL1 := keepd (HL.out.below hb1)
  have HB1 := keepd hb1
  clear hb1 HL
  go_wp2_with (go_at_call 13; with_reducible refine (HC.out _).mono ?_; rintro e w5 ⟨rfl, rfl⟩)
  with_reducible refine (ask_at 2 false 2 0 5 rfl _ HL1.out).mono ?_
  rintro e w2 ⟨rfl, hb2⟩
  have HL2 := keepd (HL1.out.below hb2)
  have HB2 := keepd (bCall HB1.out hb2)
  clear hb2 HL1 HB1
  go_wp2_with (first | (go_at_call 13; with_reducible refine (HD.out _).mono ?_; rintro e w5 ⟨rfl, rfl⟩) | (go_at_call 15; with_reducible refine (wanted2 _ HL2.out).mono ?_; rintro e w5 ⟨rfl, rfl⟩) | (go_at_call 15; with_reducible refine (wanted1 _ HL2.out).mono ?_; rintro e w5 ⟨rfl, rfl⟩))
  with_reducible refine (ask_at 2 true 3 0 0 rfl _ HL2.out).mono ?_
  rintro e w3 ⟨rfl, hb3⟩
  have HL3 := keepd (HL2.out.below hb3)
  have HB3 := keepd (bCall HB2.out hb3)
  clear hb3 HL2 HB2
  go_wp2_with (go_at_call 17; with_reducible refine (awake_any _ HL3.out).mono ?_; rintro e w5 ⟨rfl, hb5⟩)
  go_ret
  exact ⟨rfl, bCall HB3.out hb5⟩

set_option maxRecDepth 100000 in
set_option maxHeartbeats 4000000 in
theorem asks1t (w : World) (hL : Laid w) : Calls Tryd.prog 4 #[.int .i64 1, .bool true] w fun e w' => e = .returned (.bool true) ∧ Below w.heap.size w w' := by
  have HL := keepd hL
  have HC := keepd (fun w => check_in 1 w (by omega) (by omega))
  have HD := keepd (fun w => check_in 1 w (by omega) (by omega))
  clear hL
  go_enter Tryd.func4, Tryd.ntmps4
  go_wp2_with fail
  with_reducible refine (ask_at 1 true 1 0 5 rfl _ HL.out).mono ?_
  rintro e w1 ⟨rfl, hb1⟩
  have HL1 := keepd (HL.out.below hb1)
  have HB1 := keepd hb1
  clear hb1 HL
  go_wp2_with (go_at_call 13; with_reducible refine (HC.out _).mono ?_; rintro e w5 ⟨rfl, rfl⟩)
  with_reducible refine (ask_at 1 true 1 0 5 rfl _ HL1.out).mono ?_
  rintro e w2 ⟨rfl, hb2⟩
  have HL2 := keepd (HL1.out.below hb2)
  have HB2 := keepd (bCall HB1.out hb2)
  clear hb2 HL1 HB1
  go_wp2_with (first | (go_at_call 13; with_reducible refine (HD.out _).mono ?_; rintro e w5 ⟨rfl, rfl⟩) | (go_at_call 15; with_reducible refine (wanted1 _ HL2.out).mono ?_; rintro e w5 ⟨rfl, rfl⟩) | (go_at_call 15; with_reducible refine (wanted1 _ HL2.out).mono ?_; rintro e w5 ⟨rfl, rfl⟩))
  with_reducible refine (ask_at 1 false 2 2 0 rfl _ HL2.out).mono ?_
  rintro e w3 ⟨rfl, hb3⟩
  have HL3 := keepd (HL2.out.below hb3)
  have HB3 := keepd (bCall HB2.out hb3)
  clear hb3 HL2 HB2
  go_wp2_with (go_at_call 17; with_reducible refine (awake_any _ HL3.out).mono ?_; rintro e w5 ⟨rfl, hb5⟩)
  go_ret
  exact ⟨rfl, bCall HB3.out hb5⟩

set_option maxRecDepth 100000 in
set_option maxHeartbeats 4000000 in
theorem asks2f (w : World) (hL : Laid w) : Calls Tryd.prog 4 #[.int .i64 2, .bool false] w fun e w' => e = .returned (.bool true) ∧ Below w.heap.size w w' := by
  have HL := keepd hL
  have HC := keepd (fun w => check_in 2 w (by omega) (by omega))
  have HD := keepd (fun w => check_in 2 w (by omega) (by omega))
  clear hL
  go_enter Tryd.func4, Tryd.ntmps4
  go_wp2_with fail
  with_reducible refine (ask_at 2 false 2 0 5 rfl _ HL.out).mono ?_
  rintro e w1 ⟨rfl, hb1⟩
  have HL1 := keepd (HL.out.below hb1)
  have HB1 := keepd hb1
  clear hb1 HL
  go_wp2_with (go_at_call 13; with_reducible refine (HC.out _).mono ?_; rintro e w5 ⟨rfl, rfl⟩)
  with_reducible refine (ask_at 2 false 2 0 5 rfl _ HL1.out).mono ?_
  rintro e w2 ⟨rfl, hb2⟩
  have HL2 := keepd (HL1.out.below hb2)
  have HB2 := keepd (bCall HB1.out hb2)
  clear hb2 HL1 HB1
  go_wp2_with (first | (go_at_call 13; with_reducible refine (HD.out _).mono ?_; rintro e w5 ⟨rfl, rfl⟩) | (go_at_call 15; with_reducible refine (wanted2 _ HL2.out).mono ?_; rintro e w5 ⟨rfl, rfl⟩) | (go_at_call 15; with_reducible refine (wanted2 _ HL2.out).mono ?_; rintro e w5 ⟨rfl, rfl⟩))
  with_reducible refine (ask_at 2 true 3 0 0 rfl _ HL2.out).mono ?_
  rintro e w3 ⟨rfl, hb3⟩
  have HL3 := keepd (HL2.out.below hb3)
  have HB3 := keepd (bCall HB2.out hb3)
  clear hb3 HL2 HB2
  go_wp2_with (go_at_call 17; with_reducible refine (awake_any _ HL3.out).mono ?_; rintro e w5 ⟨rfl, hb5⟩)
  go_ret
  exact ⟨rfl, bCall HB3.out hb5⟩

set_option maxRecDepth 100000 in
set_option maxHeartbeats 4000000 in
theorem asks2t (w : World) (hL : Laid w) : Calls Tryd.prog 4 #[.int .i64 2, .bool true] w fun e w' => e = .returned (.bool true) ∧ Below w.heap.size w w' := by
  have HL := keepd hL
  have HC := keepd (fun w => check_in 2 w (by omega) (by omega))
  have HD := keepd (fun w => check_in 3 w (by omega) (by omega))
  clear hL
  go_enter Tryd.func4, Tryd.ntmps4
  go_wp2_with fail
  with_reducible refine (ask_at 2 true 3 0 0 rfl _ HL.out).mono ?_
  rintro e w1 ⟨rfl, hb1⟩
  have HL1 := keepd (HL.out.below hb1)
  have HB1 := keepd hb1
  clear hb1 HL
  go_wp2_with (go_at_call 13; with_reducible refine (HC.out _).mono ?_; rintro e w5 ⟨rfl, rfl⟩)
  with_reducible refine (ask_at 3 true 3 0 5 rfl _ HL1.out).mono ?_
  rintro e w2 ⟨rfl, hb2⟩
  have HL2 := keepd (HL1.out.below hb2)
  have HB2 := keepd (bCall HB1.out hb2)
  clear hb2 HL1 HB1
  go_wp2_with (first | (go_at_call 13; with_reducible refine (HD.out _).mono ?_; rintro e w5 ⟨rfl, rfl⟩) | (go_at_call 15; with_reducible refine (wanted3 _ HL2.out).mono ?_; rintro e w5 ⟨rfl, rfl⟩) | (go_at_call 15; with_reducible refine (wanted2 _ HL2.out).mono ?_; rintro e w5 ⟨rfl, rfl⟩))
  with_reducible refine (ask_at 3 false 2 0 0 rfl _ HL2.out).mono ?_
  rintro e w3 ⟨rfl, hb3⟩
  have HL3 := keepd (HL2.out.below hb3)
  have HB3 := keepd (bCall HB2.out hb3)
  clear hb3 HL2 HB2
  go_wp2_with (go_at_call 17; with_reducible refine (awake_any _ HL3.out).mono ?_; rintro e w5 ⟨rfl, hb5⟩)
  go_ret
  exact ⟨rfl, bCall HB3.out hb5⟩

set_option maxRecDepth 100000 in
set_option maxHeartbeats 4000000 in
theorem asks3f (w : World) (hL : Laid w) : Calls Tryd.prog 4 #[.int .i64 3, .bool false] w fun e w' => e = .returned (.bool true) ∧ Below w.heap.size w w' := by
  have HL := keepd hL
  have HC := keepd (fun w => check_in 3 w (by omega) (by omega))
  have HD := keepd (fun w => check_in 2 w (by omega) (by omega))
  clear hL
  go_enter Tryd.func4, Tryd.ntmps4
  go_wp2_with fail
  with_reducible refine (ask_at 3 false 2 0 0 rfl _ HL.out).mono ?_
  rintro e w1 ⟨rfl, hb1⟩
  have HL1 := keepd (HL.out.below hb1)
  have HB1 := keepd hb1
  clear hb1 HL
  go_wp2_with (go_at_call 13; with_reducible refine (HC.out _).mono ?_; rintro e w5 ⟨rfl, rfl⟩)
  with_reducible refine (ask_at 2 false 2 0 5 rfl _ HL1.out).mono ?_
  rintro e w2 ⟨rfl, hb2⟩
  have HL2 := keepd (HL1.out.below hb2)
  have HB2 := keepd (bCall HB1.out hb2)
  clear hb2 HL1 HB1
  go_wp2_with (first | (go_at_call 13; with_reducible refine (HD.out _).mono ?_; rintro e w5 ⟨rfl, rfl⟩) | (go_at_call 15; with_reducible refine (wanted2 _ HL2.out).mono ?_; rintro e w5 ⟨rfl, rfl⟩) | (go_at_call 15; with_reducible refine (wanted3 _ HL2.out).mono ?_; rintro e w5 ⟨rfl, rfl⟩))
  with_reducible refine (ask_at 2 true 3 0 0 rfl _ HL2.out).mono ?_
  rintro e w3 ⟨rfl, hb3⟩
  have HL3 := keepd (HL2.out.below hb3)
  have HB3 := keepd (bCall HB2.out hb3)
  clear hb3 HL2 HB2
  go_wp2_with (go_at_call 17; with_reducible refine (awake_any _ HL3.out).mono ?_; rintro e w5 ⟨rfl, hb5⟩)
  go_ret
  exact ⟨rfl, bCall HB3.out hb5⟩

set_option maxRecDepth 100000 in
set_option maxHeartbeats 4000000 in
theorem asks3t (w : World) (hL : Laid w) : Calls Tryd.prog 4 #[.int .i64 3, .bool true] w fun e w' => e = .returned (.bool true) ∧ Below w.heap.size w w' := by
  have HL := keepd hL
  have HC := keepd (fun w => check_in 3 w (by omega) (by omega))
  have HD := keepd (fun w => check_in 3 w (by omega) (by omega))
  clear hL
  go_enter Tryd.func4, Tryd.ntmps4
  go_wp2_with fail
  with_reducible refine (ask_at 3 true 3 0 5 rfl _ HL.out).mono ?_
  rintro e w1 ⟨rfl, hb1⟩
  have HL1 := keepd (HL.out.below hb1)
  have HB1 := keepd hb1
  clear hb1 HL
  go_wp2_with (go_at_call 13; with_reducible refine (HC.out _).mono ?_; rintro e w5 ⟨rfl, rfl⟩)
  with_reducible refine (ask_at 3 true 3 0 5 rfl _ HL1.out).mono ?_
  rintro e w2 ⟨rfl, hb2⟩
  have HL2 := keepd (HL1.out.below hb2)
  have HB2 := keepd (bCall HB1.out hb2)
  clear hb2 HL1 HB1
  go_wp2_with (first | (go_at_call 13; with_reducible refine (HD.out _).mono ?_; rintro e w5 ⟨rfl, rfl⟩) | (go_at_call 15; with_reducible refine (wanted3 _ HL2.out).mono ?_; rintro e w5 ⟨rfl, rfl⟩) | (go_at_call 15; with_reducible refine (wanted3 _ HL2.out).mono ?_; rintro e w5 ⟨rfl, rfl⟩))
  with_reducible refine (ask_at 3 false 2 0 0 rfl _ HL2.out).mono ?_
  rintro e w3 ⟨rfl, hb3⟩
  have HL3 := keepd (HL2.out.below hb3)
  have HB3 := keepd (bCall HB2.out hb3)
  clear hb3 HL2 HB2
  go_wp2_with (go_at_call 17; with_reducible refine (awake_any _ HL3.out).mono ?_; rintro e w5 ⟨rfl, hb5⟩)
  go_ret
  exact ⟨rfl, bCall HB3.out hb5⟩

set_option maxRecDepth 100000 in
set_option maxHeartbeats 4000000 in
theorem asks4f (w : World) (hL : Laid w) : Calls Tryd.prog 4 #[.int .i64 4, .bool false] w fun e w' => e = .returned (.bool true) ∧ Below w.heap.size w w' := by
  have HL := keepd hL
  have HC := keepd (fun w => check_in 4 w (by omega) (by omega))
  have HD := keepd (fun w => check_in 5 w (by omega) (by omega))
  clear hL
  go_enter Tryd.func4, Tryd.ntmps4
  go_wp2_with fail
  with_reducible refine (ask_at 4 false 5 0 0 rfl _ HL.out).mono ?_
  rintro e w1 ⟨rfl, hb1⟩
  have HL1 := keepd (HL.out.below hb1)
  have HB1 := keepd hb1
  clear hb1 HL
  go_wp2_with (go_at_call 13; with_reducible refine (HC.out _).mono ?_; rintro e w5 ⟨rfl, rfl⟩)
  with_reducible refine (ask_at 5 false 5 0 5 rfl _ HL1.out).mono ?_
  rintro e w2 ⟨rfl, hb2⟩
  have HL2 := keepd (HL1.out.below hb2)
  have HB2 := keepd (bCall HB1.out hb2)
  clear hb2 HL1 HB1
  go_wp2_with (first | (go_at_call 13; with_reducible refine (HD.out _).mono ?_; rintro e w5 ⟨rfl, rfl⟩) | (go_at_call 15; with_reducible refine (wanted5 _ HL2.out).mono ?_; rintro e w5 ⟨rfl, rfl⟩) | (go_at_call 15; with_reducible refine (wanted4 _ HL2.out).mono ?_; rintro e w5 ⟨rfl, rfl⟩))
  with_reducible refine (ask_at 5 true 4 0 0 rfl _ HL2.out).mono ?_
  rintro e w3 ⟨rfl, hb3⟩
  have HL3 := keepd (HL2.out.below hb3)
  have HB3 := keepd (bCall HB2.out hb3)
  clear hb3 HL2 HB2
  go_wp2_with (go_at_call 17; with_reducible refine (awake_any _ HL3.out).mono ?_; rintro e w5 ⟨rfl, hb5⟩)
  go_ret
  exact ⟨rfl, bCall HB3.out hb5⟩

set_option maxRecDepth 100000 in
set_option maxHeartbeats 4000000 in
theorem asks4t (w : World) (hL : Laid w) : Calls Tryd.prog 4 #[.int .i64 4, .bool true] w fun e w' => e = .returned (.bool true) ∧ Below w.heap.size w w' := by
  have HL := keepd hL
  have HC := keepd (fun w => check_in 4 w (by omega) (by omega))
  have HD := keepd (fun w => check_in 4 w (by omega) (by omega))
  clear hL
  go_enter Tryd.func4, Tryd.ntmps4
  go_wp2_with fail
  with_reducible refine (ask_at 4 true 4 0 5 rfl _ HL.out).mono ?_
  rintro e w1 ⟨rfl, hb1⟩
  have HL1 := keepd (HL.out.below hb1)
  have HB1 := keepd hb1
  clear hb1 HL
  go_wp2_with (go_at_call 13; with_reducible refine (HC.out _).mono ?_; rintro e w5 ⟨rfl, rfl⟩)
  with_reducible refine (ask_at 4 true 4 0 5 rfl _ HL1.out).mono ?_
  rintro e w2 ⟨rfl, hb2⟩
  have HL2 := keepd (HL1.out.below hb2)
  have HB2 := keepd (bCall HB1.out hb2)
  clear hb2 HL1 HB1
  go_wp2_with (first | (go_at_call 13; with_reducible refine (HD.out _).mono ?_; rintro e w5 ⟨rfl, rfl⟩) | (go_at_call 15; with_reducible refine (wanted4 _ HL2.out).mono ?_; rintro e w5 ⟨rfl, rfl⟩) | (go_at_call 15; with_reducible refine (wanted4 _ HL2.out).mono ?_; rintro e w5 ⟨rfl, rfl⟩))
  with_reducible refine (ask_at 4 false 5 0 0 rfl _ HL2.out).mono ?_
  rintro e w3 ⟨rfl, hb3⟩
  have HL3 := keepd (HL2.out.below hb3)
  have HB3 := keepd (bCall HB2.out hb3)
  clear hb3 HL2 HB2
  go_wp2_with (go_at_call 17; with_reducible refine (awake_any _ HL3.out).mono ?_; rintro e w5 ⟨rfl, hb5⟩)
  go_ret
  exact ⟨rfl, bCall HB3.out hb5⟩

set_option maxRecDepth 100000 in
set_option maxHeartbeats 4000000 in
theorem asks5f (w : World) (hL : Laid w) : Calls Tryd.prog 4 #[.int .i64 5, .bool false] w fun e w' => e = .returned (.bool true) ∧ Below w.heap.size w w' := by
  have HL := keepd hL
  have HC := keepd (fun w => check_in 5 w (by omega) (by omega))
  have HD := keepd (fun w => check_in 5 w (by omega) (by omega))
  clear hL
  go_enter Tryd.func4, Tryd.ntmps4
  go_wp2_with fail
  with_reducible refine (ask_at 5 false 5 0 5 rfl _ HL.out).mono ?_
  rintro e w1 ⟨rfl, hb1⟩
  have HL1 := keepd (HL.out.below hb1)
  have HB1 := keepd hb1
  clear hb1 HL
  go_wp2_with (go_at_call 13; with_reducible refine (HC.out _).mono ?_; rintro e w5 ⟨rfl, rfl⟩)
  with_reducible refine (ask_at 5 false 5 0 5 rfl _ HL1.out).mono ?_
  rintro e w2 ⟨rfl, hb2⟩
  have HL2 := keepd (HL1.out.below hb2)
  have HB2 := keepd (bCall HB1.out hb2)
  clear hb2 HL1 HB1
  go_wp2_with (first | (go_at_call 13; with_reducible refine (HD.out _).mono ?_; rintro e w5 ⟨rfl, rfl⟩) | (go_at_call 15; with_reducible refine (wanted5 _ HL2.out).mono ?_; rintro e w5 ⟨rfl, rfl⟩) | (go_at_call 15; with_reducible refine (wanted5 _ HL2.out).mono ?_; rintro e w5 ⟨rfl, rfl⟩))
  with_reducible refine (ask_at 5 true 4 0 0 rfl _ HL2.out).mono ?_
  rintro e w3 ⟨rfl, hb3⟩
  have HL3 := keepd (HL2.out.below hb3)
  have HB3 := keepd (bCall HB2.out hb3)
  clear hb3 HL2 HB2
  go_wp2_with (go_at_call 17; with_reducible refine (awake_any _ HL3.out).mono ?_; rintro e w5 ⟨rfl, hb5⟩)
  go_ret
  exact ⟨rfl, bCall HB3.out hb5⟩

set_option maxRecDepth 100000 in
set_option maxHeartbeats 4000000 in
theorem asks5t (w : World) (hL : Laid w) : Calls Tryd.prog 4 #[.int .i64 5, .bool true] w fun e w' => e = .returned (.bool true) ∧ Below w.heap.size w w' := by
  have HL := keepd hL
  have HC := keepd (fun w => check_in 5 w (by omega) (by omega))
  have HD := keepd (fun w => check_in 4 w (by omega) (by omega))
  clear hL
  go_enter Tryd.func4, Tryd.ntmps4
  go_wp2_with fail
  with_reducible refine (ask_at 5 true 4 0 0 rfl _ HL.out).mono ?_
  rintro e w1 ⟨rfl, hb1⟩
  have HL1 := keepd (HL.out.below hb1)
  have HB1 := keepd hb1
  clear hb1 HL
  go_wp2_with (go_at_call 13; with_reducible refine (HC.out _).mono ?_; rintro e w5 ⟨rfl, rfl⟩)
  with_reducible refine (ask_at 4 true 4 0 5 rfl _ HL1.out).mono ?_
  rintro e w2 ⟨rfl, hb2⟩
  have HL2 := keepd (HL1.out.below hb2)
  have HB2 := keepd (bCall HB1.out hb2)
  clear hb2 HL1 HB1
  go_wp2_with (first | (go_at_call 13; with_reducible refine (HD.out _).mono ?_; rintro e w5 ⟨rfl, rfl⟩) | (go_at_call 15; with_reducible refine (wanted4 _ HL2.out).mono ?_; rintro e w5 ⟨rfl, rfl⟩) | (go_at_call 15; with_reducible refine (wanted5 _ HL2.out).mono ?_; rintro e w5 ⟨rfl, rfl⟩))
  with_reducible refine (ask_at 4 false 5 0 0 rfl _ HL2.out).mono ?_
  rintro e w3 ⟨rfl, hb3⟩
  have HL3 := keepd (HL2.out.below hb3)
  have HB3 := keepd (bCall HB2.out hb3)
  clear hb3 HL2 HB2
  go_wp2_with (go_at_call 17; with_reducible refine (awake_any _ HL3.out).mono ?_; rintro e w5 ⟨rfl, hb5⟩)
  go_ret
  exact ⟨rfl, bCall HB3.out hb5⟩

theorem asks_law (q : Int) (y : Bool) (w : World) (hL : Laid w) : Calls Tryd.prog 4 #[.int .i64 q, .bool y] w fun e w' => e = .returned (.bool true) ∧ Below w.heap.size w w' := by
  by_cases h : 0 ≤ q ∧ q ≤ 5
  · rcases six h.1 h.2 with rfl | rfl | rfl | rfl | rfl | rfl
    · cases y
      · exact asks0f w hL
      · exact asks0t w hL
    · cases y
      · exact asks1f w hL
      · exact asks1t w hL
    · cases y
      · exact asks2f w hL
      · exact asks2t w hL
    · cases y
      · exact asks3f w hL
      · exact asks3t w hL
    · cases y
      · exact asks4f w hL
      · exact asks4t w hL
    · cases y
      · exact asks5f w hL
      · exact asks5t w hL
  · exact asks_out q y w hL (by omega)

end Go.Proofs.YtiohcdedndbbgaaDoor
