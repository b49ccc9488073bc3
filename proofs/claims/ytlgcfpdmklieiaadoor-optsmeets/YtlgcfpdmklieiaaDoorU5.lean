/-
  The contracts of saying, Check of an item, notKept, where, allowed, says.
-/
import Derived.Test.YtlgcfpdmklieiaaDoorU4
namespace Go.Proofs.YtlgcfpdmklieiaaDoor
open Go.RowKit
set_option maxRecDepth 100000

attribute [local go_sem ↓] ex_ld25 ex_ld67 ex_ld73 ex_st25 ex_st67 ex_st73 ex_eq25 ex_ne25 ex_ix22
attribute [local go_sem] ptrB_at okPtr_at aggC_at agg16 agg11 agg12 isO_at toO_at idx0 idx1 idx2 idx3 okIdx_at

/-- An item of a verb and a code. -/
abbrev it (v c : Int) : Value := .agg #[.int .i64 3, .int .i64 v, .int .i64 c, .slice none 0 0]
abbrev itC (v c : Int) : List Value := [.int .i64 3, .int .i64 v, .int .i64 c, .slice none 0 0]

theorem saying_any (v c : Int) (w : World) : Calls Tryd.prog 27 #[.int .i64 v, .int .i64 c] w fun e w' => e = .returned (it v c) ∧ Below w.heap.size w w' := by
  have B0 : ∀ o, Below w.heap.size w (w.alloc o) := fun o => bAlloc (Below.refl _ _) o
  go_enter Tryd.func27, Tryd.ntmps27
  go_wp2
  go_returns
  exact ⟨rfl, B0 _⟩

/-- May a verb and a code be? -/
def vOk (v : Int) : Bool := decide (251 ≤ v ∧ v ≤ 254)
def cOk (c : Int) : Bool := decide (0 ≤ c ∧ c ≤ 255)

theorem isVerb_any (v : Int) (w : World) : Calls Tryd.prog 50 #[.int .i64 v] w fun e w' => e = .returned (.bool (vOk v)) ∧ w' = w := by
  unfold vOk
  by_cases h : 251 ≤ v
  · by_cases h' : v ≤ 254
    · have g1 : decide (251 ≤ v) = true := by simp [h]
      have g2 : decide (v ≤ 254) = true := by simp [h']
      have g3 : decide (251 ≤ v ∧ v ≤ 254) = true := by simp [h, h']
      rw [g3]
      clear h h' g3
      go_enter Tryd.func50, Tryd.ntmps50
      go_wp2
      go_ret
      exact ⟨rfl, rfl⟩
    · have g1 : decide (251 ≤ v) = true := by simp [h]
      have g2 : decide (v ≤ 254) = false := by simp; omega
      have g3 : decide (251 ≤ v ∧ v ≤ 254) = false := by simp; omega
      rw [g3]
      clear h h' g3
      go_enter Tryd.func50, Tryd.ntmps50
      go_wp2
      go_ret
      exact ⟨rfl, rfl⟩
  · have g1 : decide (251 ≤ v) = false := by simp; omega
    have g3 : decide (251 ≤ v ∧ v ≤ 254) = false := by simp; omega
    rw [g3]
    clear h g3
    go_enter Tryd.func50, Tryd.ntmps50
    go_wp2
    go_ret
    exact ⟨rfl, rfl⟩

theorem isOctet_any (v : Int) (w : World) : Calls Tryd.prog 48 #[.int .i64 v] w fun e w' => e = .returned (.bool (cOk v)) ∧ w' = w := by
  unfold cOk
  by_cases h : 0 ≤ v
  · by_cases h' : v ≤ 255
    · have g1 : decide (0 ≤ v) = true := by simp [h]
      have g2 : decide (v ≤ 255) = true := by simp [h']
      have g3 : decide (0 ≤ v ∧ v ≤ 255) = true := by simp [h, h']
      rw [g3]
      clear h h' g3
      go_enter Tryd.func48, Tryd.ntmps48
      go_wp2
      go_ret
      exact ⟨rfl, rfl⟩
    · have g1 : decide (0 ≤ v) = true := by simp [h]
      have g2 : decide (v ≤ 255) = false := by simp; omega
      have g3 : decide (0 ≤ v ∧ v ≤ 255) = false := by simp; omega
      rw [g3]
      clear h h' g3
      go_enter Tryd.func48, Tryd.ntmps48
      go_wp2
      go_ret
      exact ⟨rfl, rfl⟩
  · have g1 : decide (0 ≤ v) = false := by simp; omega
    have g3 : decide (0 ≤ v ∧ v ≤ 255) = false := by simp; omega
    rw [g3]
    clear h g3
    go_enter Tryd.func48, Tryd.ntmps48
    go_wp2
    go_ret
    exact ⟨rfl, rfl⟩

theorem mayBeI_any (v c : Int) (w : World) : Calls Tryd.prog 43 #[it v c] w fun e w' => e = .returned (.bool (vOk v && cOk c)) ∧ Below w.heap.size w w' := by
  have C0 := keepd (isVerb_any v)
  have C1 := keepd (isOctet_any c)
  have B0 : ∀ o, Below w.heap.size w (w.alloc o) := fun o => bAlloc (Below.refl _ _) o
  generalize vOk v = a at *
  generalize cOk c = b at *
  cases a <;> cases b
  all_goals
    go_enter Tryd.func43, Tryd.ntmps43
    go_wp2_with (first | (go_at_call 50; with_reducible refine (C0.out _).mono ?_; rintro e w1 ⟨rfl, rfl⟩) | (go_at_call 48; with_reducible refine (C1.out _).mono ?_; rintro e w1 ⟨rfl, rfl⟩))
    go_ret
    exact ⟨rfl, B0 _⟩

theorem checkI_any (v c : Int) (w : World) : Calls Tryd.prog 20 #[it v c] w fun e w' => e = .returned (.int .i64 (if vOk v && cOk c then 0 else 1)) ∧ Below w.heap.size w w' := by
  have C0 := keepd (mayBeI_any v c)
  generalize (vOk v && cOk c) = a at *
  cases a
  all_goals
    go_enter Tryd.func20, Tryd.ntmps20
    go_wp2_with fail
    with_reducible refine (C0.out _).mono ?_
    rintro e w1 ⟨rfl, hb⟩
    have HB := keepd (upA hb)
    clear hb
    go_wp2_with fail
    go_ret
    exact ⟨by simp, HB.out⟩

/-- A row of one item at most, in memory from base on. -/
def One (w : World) (base : Nat) (sl : Value) (L : List (Int × Int)) : Prop :=
  (sl = .slice none 0 0 ∧ L = []) ∨ ∃ b v c, sl = .slice (some ⟨b, 0, none⟩) 1 1 ∧ L = [(v, c)] ∧ base ≤ b ∧ SR 51 w b (itC v c)

theorem One.below {w w' : World} {base : Nat} {sl : Value} {L : List (Int × Int)} (h : One w base sl L) (hb : Below w.heap.size w w') : One w' base sl L := by
  rcases h with h | ⟨b, v, c, h1, h2, h3, h4⟩
  · exact .inl h
  · exact .inr ⟨b, v, c, h1, h2, h3, h4.call hb h4.lt⟩
theorem One.base {w : World} {base base' : Nat} {sl : Value} {L : List (Int × Int)} (h : One w base sl L) (hb : base' ≤ base) : One w base' sl L := by
  rcases h with h | ⟨b, v, c, h1, h2, h3, h4⟩
  · exact .inl h
  · exact .inr ⟨b, v, c, h1, h2, Nat.le_trans hb h3, h4⟩

/-- Behind a call: a row of one item at most. -/
def GotL (w : World) (L : List (Int × Int)) (e : Ending) (w' : World) : Prop := ∃ sl, e = .returned sl ∧ One w' w.heap.size sl L ∧ Below w.heap.size w w'

/-- The answer to a verb of a code that is not kept. -/
def nkF (v c : Int) : List (Int × Int) := if c = 6 then (if v = 253 then [(251, c)] else []) else if v = 251 then [(254, c)] else if v = 253 then [(252, c)] else []

theorem One.new {w w1 : World} (hb : Below w.heap.size w w1) (v c : Int) : One (w1.alloc (.cells (itC v c).toArray 51)) w.heap.size (.slice (some ⟨w1.heap.size, 0, none⟩) 1 1) [(v, c)] :=
  .inr ⟨w1.heap.size, v, c, rfl, rfl, hb.size, heap_alloc_new w1 _⟩

theorem notKept_any (v c : Int) (w : World) : Calls Tryd.prog 28 #[.int .i64 v, .int .i64 c] w (GotL w (nkF v c)) := by
  have C := keepd saying_any
  unfold nkF
  by_cases h6 : c = 6
  · subst h6
    by_cases h3 : v = 253
    · subst h3
      go_enter Tryd.func28, Tryd.ntmps28
      go_wp2_with fail
      with_reducible refine (C.out _ _ _).mono ?_
      rintro e w1 ⟨rfl, hb⟩
      have HB := keepd hb
      clear hb
      go_wp2_with fail
      go_ret
      exact ⟨_, rfl, One.new HB.out _ _, bAlloc HB.out _⟩
    · have g1 : (v == 253) = false := by simp [h3]
      rw [if_pos rfl, if_neg h3]
      clear h3 C
      go_enter Tryd.func28, Tryd.ntmps28
      go_wp2_with fail
      go_ret
      exact ⟨_, rfl, .inl ⟨rfl, rfl⟩, Below.refl _ _⟩
  · have g1 : (c == 6) = false := by simp [h6]
    rw [if_neg h6]
    clear h6
    by_cases h1 : v = 251
    · subst h1
      go_enter Tryd.func28, Tryd.ntmps28
      go_wp2_with fail
      with_reducible refine (C.out _ _ _).mono ?_
      rintro e w1 ⟨rfl, hb⟩
      have HB := keepd hb
      clear hb
      go_wp2_with fail
      go_ret
      exact ⟨_, rfl, One.new HB.out _ _, bAlloc HB.out _⟩
    · have g2 : (v == 251) = false := by simp [h1]
      rw [if_neg h1]
      clear h1
      by_cases h3 : v = 253
      · subst h3
        go_enter Tryd.func28, Tryd.ntmps28
        go_wp2_with fail
        with_reducible refine (C.out _ _ _).mono ?_
        rintro e w1 ⟨rfl, hb⟩
        have HB := keepd hb
        clear hb
        go_wp2_with fail
        go_ret
        exact ⟨_, rfl, One.new HB.out _ _, bAlloc HB.out _⟩
      · have g3 : (v == 253) = false := by simp [h3]
        rw [if_neg h3]
        clear h3 C
        go_enter Tryd.func28, Tryd.ntmps28
        go_wp2_with fail
        go_ret
        exact ⟨_, rfl, .inl ⟨rfl, rfl⟩, Below.refl _ _⟩

/-- A part by its place; its code. -/
def Four.at {α : Type} (x : Four α) (p : Int) : α := if p = 0 then x.a else if p = 1 then x.b else if p = 2 then x.c else x.d
def Four.set {α : Type} (x : Four α) (p : Int) (z : α) : Four α := if p = 0 then { x with a := z } else if p = 1 then { x with b := z } else if p = 2 then { x with c := z } else { x with d := z }
def codeI (p : Int) : Int := if p = 0 then 0 else if p = 1 then 1 else if p = 2 then 3 else 34
/-- Is it a place? -/
def P4 (p : Int) : Prop := p = 0 ∨ p = 1 ∨ p = 2 ∨ p = 3

theorem where_any (S : Sd) (p : Int) (hp : P4 p) (w : World) : Calls Tryd.prog 31 #[S.x p] w fun e w' => e = .returned (.int .i64 (S.at_.at p)) ∧ Below w.heap.size w w' := by
  have B0 : ∀ o, Below w.heap.size w (w.alloc o) := fun o => bAlloc (Below.refl _ _) o
  rcases hp with rfl | rfl | rfl | rfl
  all_goals
    go_enter Tryd.func31, Tryd.ntmps31
    go_wp2
    go_ret
    exact ⟨rfl, B0 _⟩

theorem allowed_any (S : Sd) (p : Int) (hp : P4 p) (w : World) : Calls Tryd.prog 33 #[S.x p] w fun e w' => e = .returned (.bool (S.may.at p)) ∧ Below w.heap.size w w' := by
  have B0 : ∀ o, Below w.heap.size w (w.alloc o) := fun o => bAlloc (Below.refl _ _) o
  rcases hp with rfl | rfl | rfl | rfl
  all_goals
    go_enter Tryd.func33, Tryd.ntmps33
    go_wp2
    go_ret
    exact ⟨rfl, B0 _⟩

/-- What is said, as items. -/
def sayL (y n c s : Int) : List (Int × Int) := if s = 1 then [(y, c)] else if s = 2 then [(n, c)] else []

theorem says_any (S : Sd) (p : Int) (hp : P4 p) (s : Int) (w : World) (hL : Laid w) : Calls Tryd.prog 35 #[S.x p, .int .i64 s] w (GotL w (sayL S.yes S.no (codeI p) s)) := by
  have C := keepd saying_any
  obtain ⟨x, hx⟩ : ∃ x, codeI p = x := ⟨_, rfl⟩
  rw [hx]
  have hsz := hL.2.2
  obtain ⟨d0, d1, d2, d3⟩ := hL.2.1
  have c0 := fun o => ((Below.refl w.heap.size w).alloc (Nat.le_refl _) o).cell (p := ⟨0, 0, none⟩) (Nat.lt_of_lt_of_le (by decide) hsz)
  have c1 := fun o => ((Below.refl w.heap.size w).alloc (Nat.le_refl _) o).cell (p := ⟨0, 1, none⟩) (Nat.lt_of_lt_of_le (by decide) hsz)
  have c2 := fun o => ((Below.refl w.heap.size w).alloc (Nat.le_refl _) o).cell (p := ⟨0, 2, none⟩) (Nat.lt_of_lt_of_le (by decide) hsz)
  have c3 := fun o => ((Below.refl w.heap.size w).alloc (Nat.le_refl _) o).cell (p := ⟨0, 3, none⟩) (Nat.lt_of_lt_of_le (by decide) hsz)
  simp only [d0, d1, d2, d3] at c0 c1 c2 c3
  clear d0 d1 d2 d3 hL hsz
  unfold sayL
  by_cases h1 : s = 1
  · subst h1
    rcases hp with rfl | rfl | rfl | rfl
    all_goals
      have e0 : _ = x := hx
      simp only [codeI] at e0
      subst e0
      go_enter Tryd.func35, Tryd.ntmps35
      go_wp2_with fail
      with_reducible refine (C.out _ _ _).mono ?_
      rintro e w1 ⟨rfl, hb⟩
      have HB := keepd (upA hb)
      clear hb c0 c1 c2 c3
      go_wp2_with fail
      go_ret
      exact ⟨_, rfl, One.new HB.out _ _, bAlloc HB.out _⟩
  · have g1 : (s == 1) = false := by simp [h1]
    rw [if_neg h1]
    by_cases h2 : s = 2
    · subst h2
      rcases hp with rfl | rfl | rfl | rfl
      all_goals
        have e0 : _ = x := hx
        simp only [codeI] at e0
        subst e0
        go_enter Tryd.func35, Tryd.ntmps35
        go_wp2_with fail
        with_reducible refine (C.out _ _ _).mono ?_
        rintro e w1 ⟨rfl, hb⟩
        have HB := keepd (upA hb)
        clear hb c0 c1 c2 c3
        go_wp2_with fail
        go_ret
        exact ⟨_, rfl, One.new HB.out _ _, bAlloc HB.out _⟩
    · have g2 : (s == 2) = false := by simp [h2]
      rw [if_neg h2]
      clear h1 h2
      have B0 : ∀ o, Below w.heap.size w (w.alloc o) := fun o => bAlloc (Below.refl _ _) o
      rcases hp with rfl | rfl | rfl | rfl
      all_goals
        clear hx
        go_enter Tryd.func35, Tryd.ntmps35
        go_wp2_with fail
        go_ret
        exact ⟨_, rfl, .inl ⟨rfl, rfl⟩, B0 _⟩

end Go.Proofs.YtlgcfpdmklieiaaDoor
