/-
  Contracts over layer 1: New, One, May.
-/
import Derived.Test.YtifimgachkecpaaT5
import Derived.Test.YtifimgachkecpaaT4
namespace Go.Proofs.Ytifimgachkecpaa
open Go.RowKit

/-- New has answered a queue without memory of its own, or the zero one, and an error. -/
def GotNew (w : World) (room err : Int) (e : Ending) (w' : World) : Prop :=
  e = .returned (.tuple #[.agg #[.int .i64 room, .slice none 0 0], .int .i64 err]) ∧ Below w.heap.size w w'

set_option maxHeartbeats 400000 in
theorem new_yes (room : Int) (w : World) (h1 : 1 ≤ room) (h2 : room ≤ 65536) :
    Calls Try.prog 11 #[.int .i64 room] w (GotNew w room 0) := by
  have HM : Hid (May room 0) := by show May room 0; unfold May; omega
  go_enter Try.func11, Try.ntmps11
  go_wp2_with fail
  with_reducible refine (check_yes room none 0 0 _ HM.out).mono ?_
  rintro e w1 ⟨rfl, hb⟩
  simp only [World.size_alloc] at hb
  obtain ⟨hc, hf⟩ := old hb
  have z : w.heap.size < w.heap.size + 1 + 1 := by omega
  go_wp2
  refine bodyPost_ret (v := .tuple #[.agg #[.int .i64 room, .slice none 0 0], .int .i64 0]) (by simp [results, Try.results11, go_sem, hc, z]) rfl ⟨rfl, ?_⟩
  exact (((((Below.refl _ _).alloc (Nat.le_refl _) _).alloc (by simp) _).trans (hb.mono (by omega))).setCell (by simp) _).setCell (by simp) _

set_option maxHeartbeats 400000 in
theorem new_no (room : Int) (w : World) (h : room < 1 ∨ 65536 < room) :
    Calls Try.prog 11 #[.int .i64 room] w (GotNew w 0 1) := by
  have HM : Hid (¬ May room 0) := by intro hh; unfold May at hh; omega
  clear h
  go_enter Try.func11, Try.ntmps11
  go_wp2_with fail
  with_reducible refine (check_no room none 0 0 _ HM.out).mono ?_
  rintro e w1 ⟨rfl, hb⟩
  simp only [World.size_alloc] at hb
  obtain ⟨hc, hf⟩ := old hb
  have z : w.heap.size < w.heap.size + 1 + 1 := by omega
  go_wp2
  refine bodyPost_ret (v := .tuple #[.agg #[.int .i64 0, .slice none 0 0], .int .i64 1]) (by simp [results, Try.results11, go_sem, hc, z]) rfl ⟨rfl, ?_⟩
  exact (((((Below.refl _ _).alloc (Nat.le_refl _) _).alloc (by simp) _).trans (hb.mono (by omega))).setCell (by simp) _).setCell (by simp) _

set_option maxHeartbeats 400000 in
theorem one_any (cap : Int) (A : Option Addr) (n c : Nat) (w : World) (hn : n ≤ c) (hc : c ≤ maxLen) :
    Calls Try.prog 9 #[.agg #[.int .i64 cap, .slice A n c]] w fun e w' => e = .returned (.agg #[.int .i64 cap, .slice A (min n 200) c]) ∧ Below w.heap.size w w' := by
  go_enter Try.func9, Try.ntmps9
  go_wp2_with fail
  go_region_with ((go_at_call 10; refine (few_any A n c _ hn hc).mono ?_; rintro e w' ⟨rfl, rfl⟩))
  all_goals go_wp2
  all_goals refine bodyPost_ret (v := .agg #[.int .i64 cap, .slice A (min n 200) c]) (by simp [results, Try.results9, go_sem]) rfl ⟨rfl, ?_⟩
  all_goals exact (((Below.refl _ _).alloc (Nat.le_refl _) _).alloc (by simp) _).drew

set_option maxHeartbeats 400000 in
theorem may_yes (cap : Int) (A : Option Addr) (n c : Nat) (w : World) (h : May cap n) :
    Calls Try.prog 13 #[.agg #[.int .i64 cap, .slice A n c]] w fun e w' => e = .returned (.bool true) ∧ Below w.heap.size w w' := by
  obtain ⟨h1, h2, h3⟩ := h
  have g1 : decide (1 ≤ cap) = true := by simp; omega
  have g2 : decide (cap ≤ 65536) = true := by simp; omega
  have g3 : decide ((n : Int) ≤ cap) = true := by simp; omega
  go_enter Try.func13, Try.ntmps13
  go_wp2
  go_ret
  exact ⟨rfl, (Below.refl _ _).alloc (Nat.le_refl _) _⟩

set_option maxHeartbeats 400000 in
theorem may_no (cap : Int) (A : Option Addr) (n c : Nat) (w : World) (h : ¬ May cap n) :
    Calls Try.prog 13 #[.agg #[.int .i64 cap, .slice A n c]] w fun e w' => e = .returned (.bool false) ∧ Below w.heap.size w w' := by
  by_cases h1 : 1 ≤ cap
  · have g1 : decide (1 ≤ cap) = true := by simp; omega
    by_cases h2 : cap ≤ 65536
    · have g2 : decide (cap ≤ 65536) = true := by simp; omega
      have h3 : ¬ (n : Int) ≤ cap := by unfold May at h; omega
      have g3 : decide ((n : Int) ≤ cap) = false := by simp; omega
      clear h
      go_enter Try.func13, Try.ntmps13
      go_wp2
      go_ret
      exact ⟨rfl, (Below.refl _ _).alloc (Nat.le_refl _) _⟩
    · have g2 : decide (cap ≤ 65536) = false := by simp; omega
      go_enter Try.func13, Try.ntmps13
      go_wp2
      go_ret
      exact ⟨rfl, (Below.refl _ _).alloc (Nat.le_refl _) _⟩
  · have g1 : decide (1 ≤ cap) = false := by simp; omega
    go_enter Try.func13, Try.ntmps13
    go_wp2
    go_ret
    exact ⟨rfl, (Below.refl _ _).alloc (Nat.le_refl _) _⟩
end Go.Proofs.Ytifimgachkecpaa
