/-
  Triples, and what is settled, on plain values. No walks here.
-/
import Derived.Test.YtjchkpnfdamgnaaP1
namespace Go.Proofs.Ytjchkpnfdamgnaa
open Go.RowKit

/-- A triple. -/
structure Tr where
  f : Int
  lv : Int
  a : Bool
  i : Bool
  o : Bool
  v : Int
  deriving DecidableEq

def Tr.cells (x : Tr) : List Value := [.int .i64 x.f, .int .i64 x.lv, .bool x.a, .bool x.i, .bool x.o, .int .u8 x.v]
abbrev vt (x : Tr) : Value := .agg #[.int .i64 x.f, .int .i64 x.lv, .bool x.a, .bool x.i, .bool x.o, .int .u8 x.v]
def zTr : Tr := ⟨0, 0, false, false, false, 0⟩

/-- Which triples may be. -/
def mayTr (f lv : Int) : Bool := decide (0 ≤ f ∧ f ≤ 255 ∧ 0 ≤ lv ∧ lv ≤ 3)
theorem mayTr_iff {f lv : Int} : mayTr f lv = true ↔ (0 ≤ f ∧ f ≤ 255 ∧ 0 ≤ lv ∧ lv ≤ 3) := by unfold mayTr; simp
theorem mayTr_no {f lv : Int} : mayTr f lv = false ↔ ¬ (0 ≤ f ∧ f ≤ 255 ∧ 0 ≤ lv ∧ lv ≤ 3) := by unfold mayTr; simp

/-- What is settled of a proposed cell, by an own one. -/
def setF (q p : Cl) : Cl :=
  if p.lv = 1 then (if q.lv = 1 ∧ p ≠ q then ⟨0, 0⟩ else if q.lv = 2 then p else q)
  else if p.lv = 2 then (if q.lv = 2 then p else q)
  else if p.lv = 3 then q else ⟨0, 0⟩

/-- What is settled of a triple by prefs, and the error. -/
def settleF (X : Tb) (t : Tr) : Cl × Int :=
  if mayT X = true then
    if mayTr t.f t.lv = true then (if 0 < t.f ∧ t.f < 31 then (setF (X t.f.toNat) ⟨t.lv, t.v⟩, 0) else (⟨0, 0⟩, 0))
    else (⟨0, 0⟩, 1)
  else (⟨0, 0⟩, 1)
/-- What is answered. -/
def answerF (X : Tb) (t : Tr) : Tr × Int :=
  if (settleF X t).2 = 0 then (⟨t.f, (settleF X t).1.lv, true, t.i, t.o, (settleF X t).1.v⟩, 0) else (zTr, 1)

theorem settle_err (X : Tb) (t : Tr) : (settleF X t).2 = 0 ∨ ((settleF X t).2 = 1 ∧ (settleF X t).1 = ⟨0, 0⟩) := by
  unfold settleF
  split
  · split
    · split <;> exact .inl rfl
    · exact .inr ⟨rfl, rfl⟩
  · exact .inr ⟨rfl, rfl⟩

/-- What there is where no error comes. -/
theorem settle_ok {X : Tb} {t : Tr} {c : Cl} (h : settleF X t = (c, 0)) : mayT X = true ∧ mayTr t.f t.lv = true ∧ ((0 < t.f ∧ t.f < 31 ∧ c = setF (X t.f.toNat) ⟨t.lv, t.v⟩) ∨ (¬ (0 < t.f ∧ t.f < 31) ∧ c = ⟨0, 0⟩)) := by
  unfold settleF at h
  split at h
  · rename_i h1
    split at h
    · rename_i h2
      split at h
      · rename_i h3
        simp only [Prod.mk.injEq, and_true] at h
        exact ⟨h1, h2, .inl ⟨h3.1, h3.2, h.symm⟩⟩
      · rename_i h3
        simp only [Prod.mk.injEq, and_true] at h
        exact ⟨h1, h2, .inr ⟨h3, h.symm⟩⟩
    · simp at h
  · simp at h

/-- A pref that may be. -/
theorem mayC_iff {c : Cl} : mayC c = true ↔ (c.lv = 0 ∧ c.v = 0) ∨ c.lv = 1 ∨ c.lv = 2 := by
  obtain ⟨a, b⟩ := c
  simp [mayC]

/-- What is settled may be, is no higher than the own one, nor than what was proposed. -/
theorem set_facts {q p : Cl} (hq : mayC q = true) (hp : 0 ≤ p.lv ∧ p.lv ≤ 3) :
    mayC (setF q p) = true ∧ (setF q p).lv ≤ p.lv ∧ (setF q p).lv ≤ q.lv ∧ 0 ≤ (setF q p).lv ∧ (setF q p).lv ≤ 2 ∧ ((setF q p).lv = 0 → (setF q p).v = 0) := by
  obtain ⟨a, b⟩ := q
  obtain ⟨d, e⟩ := p
  rw [mayC_iff] at hq ⊢
  have h3 : a = 0 ∧ b = 0 ∨ a = 1 ∨ a = 2 := hq
  have h4 : d = 0 ∨ d = 1 ∨ d = 2 ∨ d = 3 := by simp only [] at hp; omega
  rcases h3 with ⟨rfl, hb⟩ | rfl | rfl <;> rcases h4 with rfl | rfl | rfl | rfl <;> by_cases hbe : e = b <;> simp_all [setF]
/-- Proposed again it is settled as it is. -/
theorem set_again {q p : Cl} (hq : mayC q = true) (hp : 0 ≤ p.lv ∧ p.lv ≤ 3) : setF q (setF q p) = setF q p := by
  obtain ⟨a, b⟩ := q
  obtain ⟨d, e⟩ := p
  rw [mayC_iff] at hq
  have h3 : a = 0 ∧ b = 0 ∨ a = 1 ∨ a = 2 := hq
  have h4 : d = 0 ∨ d = 1 ∨ d = 2 ∨ d = 3 := by simp only [] at hp; omega
  rcases h3 with ⟨rfl, hb⟩ | rfl | rfl <;> rcases h4 with rfl | rfl | rfl | rfl <;> by_cases hbe : e = b <;> simp_all [setF]
/-- What one settles, and the other one of that, both settle as it is. -/
theorem set_both {q r p : Cl} (hq : mayC q = true) (hr : mayC r = true) (hp : 0 ≤ p.lv ∧ p.lv ≤ 3) : setF q (setF r (setF q p)) = setF r (setF q p) := by
  obtain ⟨a, b⟩ := q
  obtain ⟨a', b'⟩ := r
  obtain ⟨d, e⟩ := p
  rw [mayC_iff] at hq hr
  have h3 : a = 0 ∧ b = 0 ∨ a = 1 ∨ a = 2 := hq
  have h5 : a' = 0 ∧ b' = 0 ∨ a' = 1 ∨ a' = 2 := hr
  have h4 : d = 0 ∨ d = 1 ∨ d = 2 ∨ d = 3 := by simp only [] at hp; omega
  rcases h3 with ⟨rfl, hb⟩ | rfl | rfl <;> rcases h5 with ⟨rfl, hb'⟩ | rfl | rfl <;> rcases h4 with rfl | rfl | rfl | rfl <;> by_cases h1 : e = b <;> by_cases h2 : e = b' <;> by_cases h6 : b = b' <;> simp_all [setF]

/-- A table whose cells below k are as X says. -/
def mix (X : Tb) (k : Nat) : Tb := fun i => if i < k then X i else ⟨0, 0⟩
theorem mix_zero (X : Tb) : mix X 0 = zT := by funext i; simp [mix, zT]
theorem mix_succ (X : Tb) (k : Nat) : tset (mix X k) k (X k) = mix X (k + 1) := by
  funext i
  unfold tset mix
  by_cases h : i = k
  · subst h; simp
  · by_cases h2 : i < k
    · rw [if_neg h, if_pos h2, if_pos (by omega)]
    · rw [if_neg h, if_neg h2, if_neg (by omega)]
theorem mix_all (X : Tb) : cs (mix X 31) = cs X := cs_congr fun i hi => by simp [mix, hi]

/-- A table as triples, from 1 on. -/
def tr1 (X : Tb) (k : Nat) : Tr := ⟨(k : Int), (X k).lv, false, false, false, (X k).v⟩
def wholeL (X : Tb) (k : Nat) : List Tr := (List.range k).map fun i => tr1 X (i + 1)
theorem wholeL_zero (X : Tb) : wholeL X 0 = [] := rfl
theorem wholeL_succ (X : Tb) (k : Nat) : wholeL X (k + 1) = wholeL X k ++ [tr1 X (k + 1)] := by simp [wholeL, List.range_succ]
theorem wholeL_len (X : Tb) (k : Nat) : (wholeL X k).length = k := by simp [wholeL]
theorem wholeL_at (X : Tb) (k i : Nat) (h : i < k) : (wholeL X k)[i]? = some (tr1 X (i + 1)) := by simp [wholeL, h]

end Go.Proofs.Ytjchkpnfdamgnaa
