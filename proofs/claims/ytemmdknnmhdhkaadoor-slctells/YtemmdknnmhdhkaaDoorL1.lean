/-
  The law SlcSignals. No conditions beyond those each theorem states.
-/
import Derived.Test.YtemmdknnmhdhkaaDoorT9
namespace Go.Proofs.YtemmdknnmhdhkaaDoor
open Go.RowKit
set_option maxRecDepth 100000

/-- What Command and Signal answer, of each other. -/
theorem cmd_ways (f : Int) : ∃ (c : Int) (v : Bool), cmdF f = c ∧ decide (c > 0) = v ∧ ((v = true ∧ decide (f ≥ 1) = true ∧ decide (f ≤ 9) = true ∧ sigF c = f ∧ 0 < f ∧ 236 ≤ c ∧ c ≤ 246 ∧ c ≠ 240) ∨ (v = false ∧ c = 0 ∧ (f < 1 ∨ 9 < f))) := by
  rcases nine_ways f with rfl | rfl | rfl | rfl | rfl | rfl | rfl | rfl | rfl | ⟨h, h0⟩ | ⟨h, h0⟩
  case inr.inr.inr.inr.inr.inr.inr.inr.inr.inl => exact ⟨0, false, h0, rfl, .inr ⟨rfl, rfl, .inl h⟩⟩
  case inr.inr.inr.inr.inr.inr.inr.inr.inr.inr => exact ⟨0, false, h0, rfl, .inr ⟨rfl, rfl, .inr h⟩⟩
  all_goals exact ⟨_, true, rfl, rfl, .inl ⟨rfl, rfl, rfl, rfl, by decide, by decide, by decide, by decide⟩⟩
theorem sig_ways (c : Int) : ∃ (f : Int) (v : Bool), sigF c = f ∧ decide (f > 0) = v ∧ ((v = true ∧ cmdF f = c ∧ 0 < c) ∨ (v = false ∧ f = 0)) := by
  rcases ten_ways c with rfl | rfl | rfl | rfl | rfl | rfl | rfl | rfl | rfl | ⟨_, _, _, _, _, _, _, _, _, h0⟩
  case inr.inr.inr.inr.inr.inr.inr.inr.inr => exact ⟨0, false, h0, rfl, .inr ⟨rfl, rfl⟩⟩
  all_goals exact ⟨_, true, rfl, rfl, .inl ⟨rfl, rfl, by decide⟩⟩

set_option maxHeartbeats 2000000 in
theorem signals_law (f c : Int) (w : World) (hL : Laid w) : Calls Tryd.prog 7 #[.int .i64 f, .int .i64 c] w fun e w' => e = .returned (.bool true) ∧ Below w.heap.size w w' := by
  have HL := keepd hL
  clear hL
  have HC := keepd (fun x => cmd_any x w HL.out)
  have HS := keepd (fun x => sig_any x w HL.out)
  have HA := keepd (awake_any w HL.out)
  obtain ⟨c1, v1, e1, d1, k1⟩ := cmd_ways f
  obtain ⟨f2, v2, e2, d2, k2⟩ := sig_ways c
  have HC1 := keepd (HC.out f)
  have HS2 := keepd (HS.out c)
  rw [e1, d1] at HC1
  rw [e2, d2] at HS2
  clear e1 e2 d2
  rcases k1 with ⟨rfl, g1, g2, g3, g4, g5, g6, g7⟩ | ⟨rfl, rfl, g1⟩
  · have HS1 := keepd (HS.out c1)
    rw [g3, show decide (f > 0) = true from decide_eq_true g4] at HS1
    have j1 : decide (c1 < 236) = false := decide_eq_false (by omega)
    have j2 : decide (246 < c1) = false := decide_eq_false (by omega)
    have j3 : (c1 == 240) = false := by simpa using g7
    have j4 : (f != f) = false := by simp
    rcases k2 with ⟨rfl, h1, h2⟩ | ⟨rfl, rfl⟩
    · have HC2 := keepd (HC.out f2)
      rw [h1, show decide (c > 0) = true from decide_eq_true h2] at HC2
      have j5 : (c != c) = false := by simp
      clear g3 g4 g5 g6 g7 h1 h2 HC HS d1
      go_enter Tryd.func7, Tryd.ntmps7
      go_wp2_with fail
      with_reducible refine HC1.out.mono ?_
      rintro e w1 ⟨rfl, rfl⟩
      go_wp2_with fail
      with_reducible refine HS2.out.mono ?_
      rintro e w1 ⟨rfl, rfl⟩
      go_wp2_with fail
      with_reducible refine HS1.out.mono ?_
      rintro e w1 ⟨rfl, rfl⟩
      go_wp2_with fail
      with_reducible refine HC2.out.mono ?_
      rintro e w1 ⟨rfl, rfl⟩
      go_wp2_with fail
      with_reducible refine HA.out.mono ?_
      rintro e w1 ⟨rfl, hb⟩
      go_wp2
      go_ret
      exact ⟨rfl, hb⟩
    · clear g3 g4 g5 g6 g7 HC HS d1
      go_enter Tryd.func7, Tryd.ntmps7
      go_wp2_with fail
      with_reducible refine HC1.out.mono ?_
      rintro e w1 ⟨rfl, rfl⟩
      go_wp2_with fail
      with_reducible refine HS2.out.mono ?_
      rintro e w1 ⟨rfl, rfl⟩
      go_wp2_with fail
      with_reducible refine HS1.out.mono ?_
      rintro e w1 ⟨rfl, rfl⟩
      go_wp2_with fail
      with_reducible refine HA.out.mono ?_
      rintro e w1 ⟨rfl, hb⟩
      go_wp2
      go_ret
      exact ⟨rfl, hb⟩
  · have hg : decide (f ≥ 1) = false ∨ (decide (f ≥ 1) = true ∧ decide (f ≤ 9) = false) := by
      rcases g1 with h | h
      · exact .inl (decide_eq_false (by omega))
      · exact .inr ⟨decide_eq_true (by omega), decide_eq_false (by omega)⟩
    rcases k2 with ⟨rfl, h1, h2⟩ | ⟨rfl, rfl⟩
    · have HC2 := keepd (HC.out f2)
      rw [h1, show decide (c > 0) = true from decide_eq_true h2] at HC2
      have j5 : (c != c) = false := by simp
      clear g1 h1 h2 HC HS d1
      rcases hg with q1 | ⟨q1, q2⟩
      all_goals
        go_enter Tryd.func7, Tryd.ntmps7
        go_wp2_with fail
        with_reducible refine HC1.out.mono ?_
        rintro e w1 ⟨rfl, rfl⟩
        go_wp2_with fail
        with_reducible refine HS2.out.mono ?_
        rintro e w1 ⟨rfl, rfl⟩
        go_wp2_with fail
        with_reducible refine HC2.out.mono ?_
        rintro e w1 ⟨rfl, rfl⟩
        go_wp2_with fail
        with_reducible refine HA.out.mono ?_
        rintro e w1 ⟨rfl, hb⟩
        go_wp2
        go_ret
        exact ⟨rfl, hb⟩
    · clear g1 HC HS d1
      rcases hg with q1 | ⟨q1, q2⟩
      all_goals
        go_enter Tryd.func7, Tryd.ntmps7
        go_wp2_with fail
        with_reducible refine HC1.out.mono ?_
        rintro e w1 ⟨rfl, rfl⟩
        go_wp2_with fail
        with_reducible refine HS2.out.mono ?_
        rintro e w1 ⟨rfl, rfl⟩
        go_wp2_with fail
        with_reducible refine HA.out.mono ?_
        rintro e w1 ⟨rfl, hb⟩
        go_wp2
        go_ret
        exact ⟨rfl, hb⟩

end Go.Proofs.YtemmdknnmhdhkaaDoor
