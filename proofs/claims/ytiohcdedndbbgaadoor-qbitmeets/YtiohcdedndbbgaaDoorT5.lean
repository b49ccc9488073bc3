/-
  Got and Ask with their answers named; the chapter's examples (awake).
-/
import Derived.Test.YtiohcdedndbbgaaDoorT4
namespace Go.Proofs.YtiohcdedndbbgaaDoor
open Go.RowKit

theorem got_at (q : Int) (y m : Bool) (a b c : Int) (h : gF q y m = (a, b, c)) (w : World) (hL : Laid w) :
    Calls Tryd.prog 9 #[.int .i64 q, .bool y, .bool m] w fun e w' => e = .returned (.tuple #[.int .i64 a, .int .i64 b, .int .i64 c]) ∧ Below w.heap.size w w' := by
  have := got_any q y m w hL
  rw [h] at this
  exact this

theorem ask_at (q : Int) (y : Bool) (a b c : Int) (h : aF q y = (a, b, c)) (w : World) (hL : Laid w) :
    Calls Tryd.prog 11 #[.int .i64 q, .bool y] w fun e w' => e = .returned (.tuple #[.int .i64 a, .int .i64 b, .int .i64 c]) ∧ Below w.heap.size w w' := by
  have := ask_any q y w hL
  rw [h] at this
  exact this

set_option maxRecDepth 100000 in
set_option maxHeartbeats 2000000 in
theorem awake_any (w : World) (hL : Laid w) : Calls Tryd.prog 17 #[] w fun e w' => e = .returned (.bool true) ∧ Below w.heap.size w w' := by
  have HL := keepd hL
  clear hL
  go_enter Tryd.func17, Tryd.ntmps17
  go_wp2_with fail
  with_reducible refine (ask_at 0 true 4 1 0 rfl _ HL.out).mono ?_
  rintro e w1 ⟨rfl, hb1⟩
  have HL1 := keepd (HL.out.below hb1)
  have HB1 := keepd hb1
  clear hb1
  go_wp2_with fail
  with_reducible refine (got_at 4 true true 1 0 0 rfl _ HL1.out).mono ?_
  rintro e w2 ⟨rfl, hb2⟩
  have HL2 := keepd (HL1.out.below hb2)
  have HB2 := keepd (bCall HB1.out hb2)
  clear hb2 HL1 HB1
  go_wp2_with fail
  with_reducible refine (got_at 0 true false 0 2 0 rfl _ HL2.out).mono ?_
  rintro e w3 ⟨rfl, hb3⟩
  have HB3 := keepd (bCall HB2.out hb3)
  clear hb3 HL2 HB2
  go_wp2
  go_ret
  exact ⟨rfl, HB3.out⟩

end Go.Proofs.YtiohcdedndbbgaaDoor
