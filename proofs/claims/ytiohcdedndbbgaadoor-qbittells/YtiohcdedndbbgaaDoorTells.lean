/-
  The law QbitTells, walked: it returns true, whatever the number and the two bools.
-/
import Derived.Test.YtiohcdedndbbgaaDoorT6
namespace Go.Proofs.YtiohcdedndbbgaaDoor
open Go.RowKit

set_option maxRecDepth 100000 in
set_option maxHeartbeats 4000000 in
theorem tells_in (q : Int) (y m : Bool) (w : World) (hL : Laid w) (h0 : 0 ≤ q) (h5 : q ≤ 5) : Calls Tryd.prog 3 #[.int .i64 q, .bool y, .bool m] w fun e w' => e = .returned (.bool true) ∧ Below w.heap.size w w' := by
  have HL := keepd hL
  obtain ⟨⟨a, s, e⟩, h1⟩ : ∃ z, gF q y m = z := ⟨_, rfl⟩
  obtain ⟨⟨c, u, g⟩, h2⟩ : ∃ z, aF q y = z := ⟨_, rfl⟩
  obtain ⟨v, h3⟩ : ∃ v, wF q = v := ⟨_, rfl⟩
  have HG := keepd (got_at q y m a s e h1)
  have HR := keepd (rgot_at q y m a s e h1)
  have HA := keepd (ask_at q y c u g h2)
  have HS := keepd (rask_at q y c u g h2)
  have HW := keepd (fun w hL => wanted_any q w hL)
  have HV := keepd (fun w => rwanted_any q w)
  have HC := keepd (fun w => check_in q w h0 h5)
  have HM := keepd (fun w => may_in q w h0 h5)
  rw [h3] at HW HV
  clear h1 h2 h3 hL h0 h5
  go_enter Tryd.func3, Tryd.ntmps3
  go_wp2_with fail
  with_reducible refine (HG.out _ HL.out).mono ?_
  rintro e w1 ⟨rfl, hb1⟩
  have HL1 := keepd (HL.out.below hb1)
  have HB1 := keepd hb1
  clear hb1
  go_wp2_with fail
  with_reducible refine (HR.out _).mono ?_
  rintro e w2 ⟨rfl, rfl⟩
  go_wp2_with fail
  with_reducible refine (HA.out _ HL1.out).mono ?_
  rintro e w3 ⟨rfl, hb3⟩
  have HL3 := keepd (HL1.out.below hb3)
  have HB3 := keepd (bCall HB1.out hb3)
  clear hb3 HL1 HB1
  go_wp2_with fail
  with_reducible refine (HS.out _).mono ?_
  rintro e w4 ⟨rfl, rfl⟩
  cases v
  all_goals
    go_wp2_with (first | (go_at_call 13; with_reducible refine (HC.out _).mono ?_; rintro e w5 ⟨rfl, rfl⟩) | (go_at_call 14; with_reducible refine (HM.out _).mono ?_; rintro e w5 ⟨rfl, rfl⟩) | (go_at_call 15; with_reducible refine (HW.out _ HL3.out).mono ?_; rintro e w5 ⟨rfl, rfl⟩) | (go_at_call 16; with_reducible refine (HV.out _).mono ?_; rintro e w5 ⟨rfl, rfl⟩) | (go_at_call 17; with_reducible refine (awake_any _ HL3.out).mono ?_; rintro e w5 ⟨rfl, hb5⟩))
    go_ret
    exact ⟨rfl, bCall HB3.out hb5⟩

set_option maxRecDepth 100000 in
set_option maxHeartbeats 4000000 in
theorem tells_out (q : Int) (y m : Bool) (w : World) (hL : Laid w) (h : q < 0 ∨ 5 < q) : Calls Tryd.prog 3 #[.int .i64 q, .bool y, .bool m] w fun e w' => e = .returned (.bool true) ∧ Below w.heap.size w w' := by
  have HL := keepd hL
  obtain ⟨⟨a, s, e⟩, h1⟩ : ∃ z, gF q y m = z := ⟨_, rfl⟩
  obtain ⟨⟨c, u, g⟩, h2⟩ : ∃ z, aF q y = z := ⟨_, rfl⟩
  obtain ⟨v, h3⟩ : ∃ v, wF q = v := ⟨_, rfl⟩
  have HG := keepd (got_at q y m a s e h1)
  have HR := keepd (rgot_at q y m a s e h1)
  have HA := keepd (ask_at q y c u g h2)
  have HS := keepd (rask_at q y c u g h2)
  have HW := keepd (fun w hL => wanted_any q w hL)
  have HV := keepd (fun w => rwanted_any q w)
  have HC := keepd (fun w => check_out q w h)
  have HM := keepd (fun w => may_out q w h)
  rw [h3] at HW HV
  clear h1 h2 h3 hL h
  go_enter Tryd.func3, Tryd.ntmps3
  go_wp2_with fail
  with_reducible refine (HG.out _ HL.out).mono ?_
  rintro e w1 ⟨rfl, hb1⟩
  have HL1 := keepd (HL.out.below hb1)
  have HB1 := keepd hb1
  clear hb1
  go_wp2_with fail
  with_reducible refine (HR.out _).mono ?_
  rintro e w2 ⟨rfl, rfl⟩
  go_wp2_with fail
  with_reducible refine (HA.out _ HL1.out).mono ?_
  rintro e w3 ⟨rfl, hb3⟩
  have HL3 := keepd (HL1.out.below hb3)
  have HB3 := keepd (bCall HB1.out hb3)
  clear hb3 HL1 HB1
  go_wp2_with fail
  with_reducible refine (HS.out _).mono ?_
  rintro e w4 ⟨rfl, rfl⟩
  cases v
  all_goals
    go_wp2_with (first | (go_at_call 13; with_reducible refine (HC.out _).mono ?_; rintro e w5 ⟨rfl, rfl⟩) | (go_at_call 14; with_reducible refine (HM.out _).mono ?_; rintro e w5 ⟨rfl, rfl⟩) | (go_at_call 15; with_reducible refine (HW.out _ HL3.out).mono ?_; rintro e w5 ⟨rfl, rfl⟩) | (go_at_call 16; with_reducible refine (HV.out _).mono ?_; rintro e w5 ⟨rfl, rfl⟩) | (go_at_call 17; with_reducible refine (awake_any _ HL3.out).mono ?_; rintro e w5 ⟨rfl, hb5⟩))
    go_ret
    exact ⟨rfl, bCall HB3.out hb5⟩

theorem tells_law (q : Int) (y m : Bool) (w : World) (hL : Laid w) : Calls Tryd.prog 3 #[.int .i64 q, .bool y, .bool m] w fun e w' => e = .returned (.bool true) ∧ Below w.heap.size w w' := by
  by_cases h : 0 ≤ q ∧ q ≤ 5
  · exact tells_in q y m w hL h.1 h.2
  · exact tells_out q y m w hL (by omega)

end Go.Proofs.YtiohcdedndbbgaaDoor
