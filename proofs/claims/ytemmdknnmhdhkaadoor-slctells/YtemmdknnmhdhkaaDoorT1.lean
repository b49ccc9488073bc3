/-
  The table of commands in memory; the contracts of few, Few, Octets, Check, May, Command, Signal, and of the document's own Command and Signal. No conditions beyond those each theorem states.
-/
import Derived.Test.YtemmdknnmhdhkaaDoorP1
import Derived.Handy
import Derived.Laws.BitsLemmas
namespace Go.Proofs.YtemmdknnmhdhkaaDoor
open Go.RowKit
set_option maxRecDepth 100000

/-- The commands, by their signal. -/
def cmdR : List Int := [0, 242, 243, 244, 245, 246, 239, 238, 236, 237]

/-- Block 0 holds the commands. -/
def Laid (w : World) : Prop := (∀ i x, cmdR[i]? = some x → w.cell? ⟨0, i, none⟩ = some (.int .i64 x)) ∧ 1 ≤ w.heap.size

theorem Laid.below {w w' : World} (h : Laid w) (hb : Below w.heap.size w w') : Laid w' :=
  ⟨fun i x hx => (hb.cell (p := ⟨0, i, none⟩) (Nat.lt_of_lt_of_le Nat.zero_lt_one h.2)).trans (h.1 i x hx), Nat.le_trans h.2 hb.size⟩
theorem Laid.alloc {w : World} (h : Laid w) (o : Obj) : Laid (w.alloc o) := h.below (bAlloc (Below.refl _ _) o)
theorem Laid.cells {w : World} (h : Laid w) : w.cell? ⟨0, 1, none⟩ = some (.int .i64 242) ∧ w.cell? ⟨0, 2, none⟩ = some (.int .i64 243) ∧ w.cell? ⟨0, 3, none⟩ = some (.int .i64 244) ∧ w.cell? ⟨0, 4, none⟩ = some (.int .i64 245) ∧
    w.cell? ⟨0, 5, none⟩ = some (.int .i64 246) ∧ w.cell? ⟨0, 6, none⟩ = some (.int .i64 239) ∧ w.cell? ⟨0, 7, none⟩ = some (.int .i64 238) ∧ w.cell? ⟨0, 8, none⟩ = some (.int .i64 236) ∧ w.cell? ⟨0, 9, none⟩ = some (.int .i64 237) :=
  ⟨h.1 1 _ rfl, h.1 2 _ rfl, h.1 3 _ rfl, h.1 4 _ rfl, h.1 5 _ rfl, h.1 6 _ rfl, h.1 7 _ rfl, h.1 8 _ rfl, h.1 9 _ rfl⟩

/-- A signal's command, or 0; a command's signal, or 0. -/
def cmdF (f : Int) : Int := if f = 1 then 242 else if f = 2 then 243 else if f = 3 then 244 else if f = 4 then 245 else if f = 5 then 246 else if f = 6 then 239 else if f = 7 then 238 else if f = 8 then 236 else if f = 9 then 237 else 0
def sigF (c : Int) : Int := if c = 242 then 1 else if c = 243 then 2 else if c = 244 then 3 else if c = 245 then 4 else if c = 246 then 5 else if c = 239 then 6 else if c = 238 then 7 else if c = 236 then 8 else if c = 237 then 9 else 0

theorem nine_ways (f : Int) : f = 1 ∨ f = 2 ∨ f = 3 ∨ f = 4 ∨ f = 5 ∨ f = 6 ∨ f = 7 ∨ f = 8 ∨ f = 9 ∨ (f < 1 ∧ cmdF f = 0) ∨ (9 < f ∧ cmdF f = 0) := by
  by_cases h : 1 ≤ f ∧ f ≤ 9
  · omega
  · have : cmdF f = 0 := by
      unfold cmdF
      rw [if_neg, if_neg, if_neg, if_neg, if_neg, if_neg, if_neg, if_neg, if_neg] <;> omega
    omega
theorem ten_ways (c : Int) : c = 242 ∨ c = 243 ∨ c = 244 ∨ c = 245 ∨ c = 246 ∨ c = 239 ∨ c = 238 ∨ c = 236 ∨ c = 237 ∨
    ((242 == c) = false ∧ (243 == c) = false ∧ (244 == c) = false ∧ (245 == c) = false ∧ (246 == c) = false ∧ (239 == c) = false ∧ (238 == c) = false ∧ (236 == c) = false ∧ (237 == c) = false ∧ sigF c = 0) := by
  have ne : ∀ k : Int, ¬ c = k → (k == c) = false := fun k h => by simp; omega
  by_cases h1 : c = 242; · exact .inl h1
  by_cases h2 : c = 243; · exact .inr (.inl h2)
  by_cases h3 : c = 244; · exact .inr (.inr (.inl h3))
  by_cases h4 : c = 245; · exact .inr (.inr (.inr (.inl h4)))
  by_cases h5 : c = 246; · exact .inr (.inr (.inr (.inr (.inl h5))))
  by_cases h6 : c = 239; · exact .inr (.inr (.inr (.inr (.inr (.inl h6)))))
  by_cases h7 : c = 238; · exact .inr (.inr (.inr (.inr (.inr (.inr (.inl h7))))))
  by_cases h8 : c = 236; · exact .inr (.inr (.inr (.inr (.inr (.inr (.inr (.inl h8)))))))
  by_cases h9 : c = 237; · exact .inr (.inr (.inr (.inr (.inr (.inr (.inr (.inr (.inl h9))))))))
  refine .inr (.inr (.inr (.inr (.inr (.inr (.inr (.inr (.inr ⟨ne _ h1, ne _ h2, ne _ h3, ne _ h4, ne _ h5, ne _ h6, ne _ h7, ne _ h8, ne _ h9, ?_⟩))))))))
  unfold sigF
  rw [if_neg h1, if_neg h2, if_neg h3, if_neg h4, if_neg h5, if_neg h6, if_neg h7, if_neg h8, if_neg h9]

theorem few_any (A : Option Addr) (n c : Nat) (w : World) (hn : n ≤ c) (hc : c ≤ maxLen) :
    Calls Tryd.prog 9 #[.slice A n c] w fun e w' => e = .returned (.slice A (min n 60) c) ∧ w = w' := by
  unfold maxLen at hc
  go_enter Tryd.func9, Tryd.ntmps9
  by_cases h : n ≤ 60
  · go_wp2
    go_ret
    exact ⟨ret_slice (by omega), rfl⟩
  · go_wp2
    go_ret
    exact ⟨ret_slice (by omega), rfl⟩

theorem fewB_any (A : Option Addr) (n c : Nat) (w : World) (hn : n ≤ c) (hc : c ≤ maxLen) :
    Calls Tryd.prog 10 #[.slice A n c] w fun e w' => e = .returned (.slice A (min n 200) c) ∧ w = w' := by
  unfold maxLen at hc
  go_enter Tryd.func10, Tryd.ntmps10
  by_cases h : n ≤ 200
  · go_wp2
    go_ret
    exact ⟨ret_slice (by omega), rfl⟩
  · go_wp2
    go_ret
    exact ⟨ret_slice (by omega), rfl⟩

theorem octets_any (A A' : Option Addr) (l l' : List UInt8) (n n' c c' B : Nat) (w : World) (hn : n = l.length) (hn' : n' = l'.length) (h : Rd w B A l c) (h' : Rd w B A' l' c') :
    Calls Tryd.prog 21 #[.slice A n c, .slice A' n' c'] w fun e w' => e = .returned (.bool (l == l')) ∧ w = w' := by
  subst hn hn'
  have k1 := conv_str h
  have k2 := conv_str h'
  clear h h'
  go_enter Tryd.func21, Tryd.ntmps21
  go_wp2
  go_ret
  exact ⟨rfl, rfl⟩

theorem check_any (f lv : Int) (a i o : Bool) (v : Int) (m : Bool) (hm : mayT f lv = m) (w : World) :
    Calls Tryd.prog 11 #[.agg #[.int .i64 f, .int .i64 lv, .bool a, .bool i, .bool o, .int .u8 v]] w fun e w' => e = .returned (.int .i64 (if m then 0 else 1)) ∧ Below w.heap.size w w' := by
  have B0 : ∀ o, Below w.heap.size w (w.alloc o) := fun o => bAlloc (Below.refl _ _) o
  cases m
  · have h := mayT_no.1 hm
    clear hm
    by_cases h1 : f < 0
    · have g1 : decide (f < 0) = true := decide_eq_true h1
      go_enter Tryd.func11, Tryd.ntmps11
      go_wp2
      go_ret
      exact ⟨rfl, B0 _⟩
    have g1 : decide (f < 0) = false := decide_eq_false h1
    by_cases h2 : 255 < f
    · have g2 : decide (255 < f) = true := decide_eq_true h2
      go_enter Tryd.func11, Tryd.ntmps11
      go_wp2
      go_ret
      exact ⟨rfl, B0 _⟩
    have g2 : decide (255 < f) = false := decide_eq_false h2
    by_cases h3 : lv < 0
    · have g3 : decide (lv < 0) = true := decide_eq_true h3
      go_enter Tryd.func11, Tryd.ntmps11
      go_wp2
      go_ret
      exact ⟨rfl, B0 _⟩
    have g3 : decide (lv < 0) = false := decide_eq_false h3
    have g4 : decide (3 < lv) = true := decide_eq_true (by omega)
    go_enter Tryd.func11, Tryd.ntmps11
    go_wp2
    go_ret
    exact ⟨rfl, B0 _⟩
  · have h := mayT_iff.1 hm
    clear hm
    have g1 : decide (f < 0) = false := decide_eq_false (by omega)
    have g2 : decide (255 < f) = false := decide_eq_false (by omega)
    have g3 : decide (lv < 0) = false := decide_eq_false (by omega)
    have g4 : decide (3 < lv) = false := decide_eq_false (by omega)
    go_enter Tryd.func11, Tryd.ntmps11
    go_wp2
    go_ret
    exact ⟨rfl, B0 _⟩

theorem may_any (f lv : Int) (a i o : Bool) (v : Int) (m : Bool) (hm : mayT f lv = m) (w : World) :
    Calls Tryd.prog 12 #[.agg #[.int .i64 f, .int .i64 lv, .bool a, .bool i, .bool o, .int .u8 v]] w fun e w' => e = .returned (.bool m) ∧ Below w.heap.size w w' := by
  have B0 : ∀ o, Below w.heap.size w (w.alloc o) := fun o => bAlloc (Below.refl _ _) o
  cases m
  · have h := mayT_no.1 hm
    clear hm
    by_cases h1 : f < 0
    · have g1 : decide (f ≥ 0) = false := decide_eq_false (by omega)
      go_enter Tryd.func12, Tryd.ntmps12
      go_wp2
      go_ret
      exact ⟨rfl, B0 _⟩
    have g1 : decide (f ≥ 0) = true := decide_eq_true (by omega)
    by_cases h2 : 255 < f
    · have g2 : decide (f ≤ 255) = false := decide_eq_false (by omega)
      go_enter Tryd.func12, Tryd.ntmps12
      go_wp2
      go_ret
      exact ⟨rfl, B0 _⟩
    have g2 : decide (f ≤ 255) = true := decide_eq_true (by omega)
    by_cases h3 : lv < 0
    · have g3 : decide (lv ≥ 0) = false := decide_eq_false (by omega)
      go_enter Tryd.func12, Tryd.ntmps12
      go_wp2
      go_ret
      exact ⟨rfl, B0 _⟩
    have g3 : decide (lv ≥ 0) = true := decide_eq_true (by omega)
    have g4 : decide (lv ≤ 3) = false := decide_eq_false (by omega)
    go_enter Tryd.func12, Tryd.ntmps12
    go_wp2
    go_ret
    exact ⟨rfl, B0 _⟩
  · have h := mayT_iff.1 hm
    clear hm
    have g1 : decide (f ≥ 0) = true := decide_eq_true (by omega)
    have g2 : decide (f ≤ 255) = true := decide_eq_true (by omega)
    have g3 : decide (lv ≥ 0) = true := decide_eq_true (by omega)
    have g4 : decide (lv ≤ 3) = true := decide_eq_true (by omega)
    go_enter Tryd.func12, Tryd.ntmps12
    go_wp2
    go_ret
    exact ⟨rfl, B0 _⟩

theorem cmd_any (f : Int) (w : World) (hL : Laid w) : Calls Tryd.prog 13 #[.int .i64 f] w fun e w' => e = .returned (.tuple #[.int .i64 (cmdF f), .bool (decide (cmdF f > 0))]) ∧ w' = w := by
  obtain ⟨c1, c2, c3, c4, c5, c6, c7, c8, c9⟩ := hL.cells
  clear hL
  rcases nine_ways f with rfl | rfl | rfl | rfl | rfl | rfl | rfl | rfl | rfl | ⟨h, h0⟩ | ⟨h, h0⟩
  case inr.inr.inr.inr.inr.inr.inr.inr.inr.inl =>
    rw [h0]
    have g1 : decide (f < 1) = true := decide_eq_true h
    go_enter Tryd.func13, Tryd.ntmps13
    go_wp2
    go_returns
    exact ⟨rfl, rfl⟩
  case inr.inr.inr.inr.inr.inr.inr.inr.inr.inr =>
    rw [h0]
    have g1 : decide (f < 1) = false := decide_eq_false (by omega)
    have g2 : decide (9 < f) = true := decide_eq_true h
    go_enter Tryd.func13, Tryd.ntmps13
    go_wp2
    go_returns
    exact ⟨rfl, rfl⟩
  all_goals
    go_enter Tryd.func13, Tryd.ntmps13
    go_wp2
    go_returns
    exact ⟨rfl, rfl⟩

theorem sig_any (c : Int) (w : World) (hL : Laid w) : Calls Tryd.prog 14 #[.int .i64 c] w fun e w' => e = .returned (.tuple #[.int .i64 (sigF c), .bool (decide (sigF c > 0))]) ∧ w' = w := by
  obtain ⟨c1, c2, c3, c4, c5, c6, c7, c8, c9⟩ := hL.cells
  clear hL
  rcases ten_ways c with rfl | rfl | rfl | rfl | rfl | rfl | rfl | rfl | rfl | ⟨g1, g2, g3, g4, g5, g6, g7, g8, g9, h0⟩
  case inr.inr.inr.inr.inr.inr.inr.inr.inr => 
    rw [h0]
    go_enter Tryd.func14, Tryd.ntmps14
    go_wp2_with fail
    go_rounds 10
    all_goals
      go_wp2
      go_returns
      exact ⟨rfl, rfl⟩
  all_goals
    go_enter Tryd.func14, Tryd.ntmps14
    go_wp2_with fail
    go_rounds 10
    all_goals
      go_wp2
      go_returns
      exact ⟨rfl, rfl⟩

end Go.Proofs.YtemmdknnmhdhkaaDoor
