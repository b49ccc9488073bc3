/-
  Items in memory, and contracts over layer 3: isOctet, isCommand, isVerb, mayBe, Check. No conditions beyond those each theorem states.
-/
import Derived.Test.YtmgkfibkeonpmaaT7
namespace Go.Proofs.Ytmgkfibkeonpmaa
open Go.RowKit

/-- An item: its kind, its numbers, and its octets with the slice that holds them. -/
structure Itm where
  k : Int
  a : Int
  b : Int
  A : Option Addr
  l : List UInt8
  c : Nat

/-- An item as a value. -/
def Itm.val (x : Itm) : Value := .agg #[.int .i64 x.k, .int .i64 x.a, .int .i64 x.b, .slice x.A x.l.length x.c]

def oct (n : Int) : Bool := decide (0 ≤ n ∧ n ≤ 255)
def cmdB (n : Int) : Bool := decide (236 ≤ n ∧ n ≤ 249 ∧ n ≠ 240)
def verbB (n : Int) : Bool := decide (251 ≤ n ∧ n ≤ 254)

/-- Which items may be. -/
def mayN (k a b : Int) (n : Nat) : Bool :=
  if k = 1 then oct a && (b == 0) && (n == 0)
  else if k = 2 then cmdB a && (b == 0) && (n == 0)
  else if k = 3 then verbB a && oct b && (n == 0)
  else if k = 4 then oct a && (b == 0) && decide (n ≤ 512)
  else false

theorem isOctet_any (n : Int) (v : Bool) (hv : oct n = v) (w : World) : Calls Try.prog 42 #[.int .i64 n] w fun e w' => e = .returned (.bool v) ∧ w = w' := by
  subst hv
  by_cases h1 : 0 ≤ n
  · have g1 : decide (n ≥ 0) = true := by simpa using h1
    by_cases h2 : n ≤ 255
    · have g2 : decide (n ≤ 255) = true := by simpa using h2
      rw [show oct n = true from decide_eq_true (by omega)]
      go_enter Try.func42, Try.ntmps42
      go_wp2
      go_ret
      exact ⟨rfl, rfl⟩
    · have g2 : decide (n ≤ 255) = false := by simpa using h2
      rw [show oct n = false from decide_eq_false (by omega)]
      go_enter Try.func42, Try.ntmps42
      go_wp2
      go_ret
      exact ⟨rfl, rfl⟩
  · have g1 : decide (n ≥ 0) = false := by simpa using h1
    rw [show oct n = false from decide_eq_false (by omega)]
    go_enter Try.func42, Try.ntmps42
    go_wp2
    go_ret
    exact ⟨rfl, rfl⟩

theorem isCommand_any (n : Int) (v : Bool) (hv : cmdB n = v) (w : World) : Calls Try.prog 43 #[.int .i64 n] w fun e w' => e = .returned (.bool v) ∧ w = w' := by
  subst hv
  by_cases h1 : 236 ≤ n
  · have g1 : decide (n ≥ 236) = true := by simpa using h1
    by_cases h2 : n ≤ 249
    · have g2 : decide (n ≤ 249) = true := by simpa using h2
      by_cases h3 : n = 240
      · have g3 : (n != 240) = false := by simpa using h3
        rw [show cmdB n = false from decide_eq_false (by omega)]
        clear h3
        go_enter Try.func43, Try.ntmps43
        go_wp2
        go_ret
        exact ⟨rfl, rfl⟩
      · have g3 : (n != 240) = true := by simpa using h3
        rw [show cmdB n = true from decide_eq_true (by omega)]
        clear h3
        go_enter Try.func43, Try.ntmps43
        go_wp2
        go_ret
        exact ⟨rfl, rfl⟩
    · have g2 : decide (n ≤ 249) = false := by simpa using h2
      rw [show cmdB n = false from decide_eq_false (by omega)]
      go_enter Try.func43, Try.ntmps43
      go_wp2
      go_ret
      exact ⟨rfl, rfl⟩
  · have g1 : decide (n ≥ 236) = false := by simpa using h1
    rw [show cmdB n = false from decide_eq_false (by omega)]
    go_enter Try.func43, Try.ntmps43
    go_wp2
    go_ret
    exact ⟨rfl, rfl⟩

theorem isVerb_any (n : Int) (v : Bool) (hv : verbB n = v) (w : World) : Calls Try.prog 44 #[.int .i64 n] w fun e w' => e = .returned (.bool v) ∧ w = w' := by
  subst hv
  by_cases h1 : 251 ≤ n
  · have g1 : decide (n ≥ 251) = true := by simpa using h1
    by_cases h2 : n ≤ 254
    · have g2 : decide (n ≤ 254) = true := by simpa using h2
      rw [show verbB n = true from decide_eq_true (by omega)]
      go_enter Try.func44, Try.ntmps44
      go_wp2
      go_ret
      exact ⟨rfl, rfl⟩
    · have g2 : decide (n ≤ 254) = false := by simpa using h2
      rw [show verbB n = false from decide_eq_false (by omega)]
      go_enter Try.func44, Try.ntmps44
      go_wp2
      go_ret
      exact ⟨rfl, rfl⟩
  · have g1 : decide (n ≥ 251) = false := by simpa using h1
    rw [show verbB n = false from decide_eq_false (by omega)]
    go_enter Try.func44, Try.ntmps44
    go_wp2
    go_ret
    exact ⟨rfl, rfl⟩

theorem nat_beq0 (n : Nat) : ((n : Int) == 0) = (n == 0) := by
  rw [Bool.eq_iff_iff]; simp

set_option maxHeartbeats 1000000 in
/-- mayBe, of a kind that is one of the four or none of them. -/
theorem mayBe_any (k a b : Int) (A : Option Addr) (n c : Nat) (w : World) :
    Calls Try.prog 24 #[.agg #[.int .i64 k, .int .i64 a, .int .i64 b, .slice A n c]] w fun e w' => e = .returned (.bool (mayN k a b n)) ∧ Below w.heap.size w w' := by
  obtain ⟨v1, hv1⟩ : ∃ v, oct a = v := ⟨_, rfl⟩
  obtain ⟨v2, hv2⟩ : ∃ v, oct b = v := ⟨_, rfl⟩
  obtain ⟨v3, hv3⟩ : ∃ v, cmdB a = v := ⟨_, rfl⟩
  obtain ⟨v4, hv4⟩ : ∃ v, verbB a = v := ⟨_, rfl⟩
  obtain ⟨v5, hv5⟩ : ∃ v, (b == 0) = v := ⟨_, rfl⟩
  obtain ⟨v6, hv6⟩ : ∃ v, ((n : Int) == 0) = v := ⟨_, rfl⟩
  obtain ⟨v7, hv7⟩ : ∃ v, decide ((n : Int) ≤ 512) = v := ⟨_, rfl⟩
  have hN : mayN k a b n = (if k = 1 then v1 && v5 && v6 else if k = 2 then v3 && v5 && v6 else if k = 3 then v4 && v2 && v6 else if k = 4 then v1 && v5 && v7 else false) := by
    unfold mayN
    rw [hv1, hv2, hv3, hv4, hv5, ← nat_beq0, hv6, ← hv7, show decide ((n : Int) ≤ 512) = decide (n ≤ 512) by rw [decide_eq_decide]; omega]
  rw [hN]
  have O1 := isOctet_any a v1 hv1
  have O2 := isOctet_any b v2 hv2
  have O3 := isCommand_any a v3 hv3
  have O4 := isVerb_any a v4 hv4
  clear hv1 hv2 hv3 hv4 hN
  have B0 : ∀ o, Below w.heap.size w (w.alloc o) := fun o => bAlloc (Below.refl _ _) o
  by_cases h1 : k = 1
  · subst h1
    rw [if_pos rfl]
    clear O2 O3 O4
    cases v1 <;> cases v5 <;> cases v6 <;>
    · go_enter Try.func24, Try.ntmps24
      go_wp2_with (go_at_call 42; with_reducible refine (O1 _).mono ?_; rintro e w1 ⟨rfl, rfl⟩)
      go_ret
      exact ⟨rfl, B0 _⟩
  rw [if_neg h1]
  by_cases h2 : k = 2
  · clear h1
    subst h2
    rw [if_pos rfl]
    clear O1 O2 O4
    cases v3 <;> cases v5 <;> cases v6 <;>
    · go_enter Try.func24, Try.ntmps24
      go_wp2_with (first | (go_at_call 43; with_reducible refine (O3 _).mono ?_; rintro e w1 ⟨rfl, rfl⟩))
      go_ret
      exact ⟨rfl, B0 _⟩
  rw [if_neg h2]
  by_cases h3 : k = 3
  · clear h1 h2
    subst h3
    rw [if_pos rfl]
    clear O1 O3
    cases v4 <;> cases v2 <;> cases v6 <;>
    · go_enter Try.func24, Try.ntmps24
      go_wp2_with (first | (go_at_call 44; with_reducible refine (O4 _).mono ?_; rintro e w1 ⟨rfl, rfl⟩) | (go_at_call 42; with_reducible refine (O2 _).mono ?_; rintro e w1 ⟨rfl, rfl⟩))
      go_ret
      exact ⟨rfl, B0 _⟩
  rw [if_neg h3]
  by_cases h4 : k = 4
  · clear h1 h2 h3
    subst h4
    rw [if_pos rfl]
    clear O2 O3 O4
    cases v1 <;> cases v5 <;> cases v7 <;>
    · go_enter Try.func24, Try.ntmps24
      go_wp2_with (first | (go_at_call 42; with_reducible refine (O1 _).mono ?_; rintro e w1 ⟨rfl, rfl⟩))
      go_ret
      exact ⟨rfl, B0 _⟩
  rw [if_neg h4]
  clear O1 O2 O3 O4 hv5 hv6 hv7
  go_enter Try.func24, Try.ntmps24
  go_wp2
  go_ret
  exact ⟨rfl, B0 _⟩

/-- Check. -/
theorem check_any (k a b : Int) (A : Option Addr) (n c : Nat) (v : Bool) (hv : mayN k a b n = v) (w : World) :
    Calls Try.prog 16 #[.agg #[.int .i64 k, .int .i64 a, .int .i64 b, .slice A n c]] w fun e w' => e = .returned (.int .i64 (if v then 0 else 1)) ∧ Below w.heap.size w w' := by
  have HM := fun w => mayBe_any k a b A n c w
  rw [hv] at HM
  clear hv
  go_enter Try.func16, Try.ntmps16
  cases v
  all_goals
    go_wp2_with (go_at_call 24; with_reducible refine (HM _).mono ?_; rintro e w1 ⟨rfl, hb⟩)
    go_ret
    exact ⟨rfl, upA hb⟩

end Go.Proofs.Ytmgkfibkeonpmaa
