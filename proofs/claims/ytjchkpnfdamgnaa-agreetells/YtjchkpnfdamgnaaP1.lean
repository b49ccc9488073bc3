/-
  Tables as functions: what a key means, which tables may be, a cell changed, the standard one. No walks here.
-/
import Derived.Test.YtjchkpnfdamgnaaWords
namespace Go.Proofs.Ytjchkpnfdamgnaa
open Go.RowKit

/-- A cell: its level, its key. -/
structure Cl where
  lv : Int
  v : Int
  deriving DecidableEq

/-- A table: each function's cell, by its number. -/
abbrev Tb := Nat → Cl

/-- Its cells, one behind the other. -/
def cs (X : Tb) : List Value := (List.range 31).flatMap fun i => [.int .i64 (X i).lv, .int .u8 (X i).v]
abbrev tv (X : Tb) : Value := .agg (cs X).toArray
abbrev cv (c : Cl) : Value := .agg #[.int .i64 c.lv, .int .u8 c.v]

theorem pair_at0 {α β : Type} (f g : α → β) : ∀ (l : List α) (i : Nat), (l.flatMap fun a => [f a, g a])[i * 2]? = l[i]?.map f := by
  intro l
  induction l with
  | nil => intro i; simp
  | cons a l ih =>
    intro i
    cases i with
    | zero => simp
    | succ i =>
      have := ih i
      rw [List.flatMap_cons, show (i + 1) * 2 = i * 2 + 1 + 1 by omega]
      simpa using this
theorem pair_at1 {α β : Type} (f g : α → β) : ∀ (l : List α) (i : Nat), (l.flatMap fun a => [f a, g a])[i * 2 + 1]? = l[i]?.map g := by
  intro l
  induction l with
  | nil => intro i; simp
  | cons a l ih =>
    intro i
    cases i with
    | zero => simp
    | succ i =>
      have := ih i
      rw [List.flatMap_cons, show (i + 1) * 2 + 1 = i * 2 + 1 + 1 + 1 by omega]
      simpa using this

theorem cs_len (X : Tb) : (cs X).length = 62 := by simp [cs]; rfl
theorem cs_at0 (X : Tb) (i : Nat) (h : i < 31) : (cs X)[i * 2]? = some (.int .i64 (X i).lv) := by
  unfold cs
  rw [pair_at0 (fun i => Value.int .i64 (X i).lv) (fun i => Value.int .u8 (X i).v), List.getElem?_range h]
  rfl
theorem cs_at1 (X : Tb) (i : Nat) (h : i < 31) : (cs X)[i * 2 + 1]? = some (.int .u8 (X i).v) := by
  unfold cs
  rw [pair_at1 (fun i => Value.int .i64 (X i).lv) (fun i => Value.int .u8 (X i).v), List.getElem?_range h]
  rfl

theorem list_ext62 {l : List Value} {X : Tb} (hl : l.length = 62) (h0 : ∀ i, i < 31 → l[i * 2]? = some (.int .i64 (X i).lv)) (h1 : ∀ i, i < 31 → l[i * 2 + 1]? = some (.int .u8 (X i).v)) : l = cs X := by
  apply List.ext_getElem?
  intro j
  by_cases hj : j < 62
  · have hq : j = j / 2 * 2 ∨ j = j / 2 * 2 + 1 := by omega
    generalize j / 2 = q at hq
    rcases hq with rfl | rfl
    · rw [h0 q (by omega), cs_at0 X q (by omega)]
    · rw [h1 q (by omega), cs_at1 X q (by omega)]
  · rw [List.getElem?_eq_none (by omega), List.getElem?_eq_none (by rw [cs_len]; omega)]

theorem cs_congr {X Y : Tb} (h : ∀ i, i < 31 → X i = Y i) : cs X = cs Y :=
  list_ext62 (cs_len X) (fun i hi => by rw [cs_at0 X i hi, h i hi]) (fun i hi => by rw [cs_at1 X i hi, h i hi])
theorem cs_inj {X Y : Tb} (h : cs X = cs Y) : ∀ i, i < 31 → X i = Y i := fun i hi => by
  have a0 := cs_at0 X i hi
  have a1 := cs_at1 X i hi
  rw [h, cs_at0 Y i hi] at a0
  rw [h, cs_at1 Y i hi] at a1
  injection a0 with a0
  injection a1 with a1
  injection a0 with _ a0
  injection a1 with _ a1
  generalize X i = c at *
  generalize Y i = d at *
  cases c; cases d; simp_all

/-- A cell changed. -/
def tset (X : Tb) (f : Nat) (c : Cl) : Tb := fun j => if j = f then c else X j
theorem tset_at (X : Tb) (f : Nat) (c : Cl) : tset X f c f = c := by simp [tset]
theorem tset_ne (X : Tb) {f j : Nat} (c : Cl) (h : j ≠ f) : tset X f c j = X j := by simp [tset, h]

theorem cs_tset (X : Tb) (f : Nat) (hf : f < 31) (c : Cl) : ((cs X).set (f * 2) (.int .i64 c.lv)).set (f * 2 + 1) (.int .u8 c.v) = cs (tset X f c) := by
  refine list_ext62 (by simp [cs_len]) (fun i hi => ?_) (fun i hi => ?_)
  · rw [List.getElem?_set_ne (by omega)]
    by_cases h : i = f
    · subst h
      rw [List.getElem?_set_self (by rw [cs_len]; omega), tset_at]
    · rw [List.getElem?_set_ne (by omega), cs_at0 X i hi, tset_ne X c h]
  · by_cases h : i = f
    · subst h
      rw [List.getElem?_set_self (by rw [List.length_set, cs_len]; omega), tset_at]
    · rw [List.getElem?_set_ne (by omega), List.getElem?_set_ne (by omega), cs_at1 X i hi, tset_ne X c h]

/-- Are two tables the same? -/
def sameT (X Y : Tb) : Bool := (List.range 31).all fun i => decide (X i = Y i)
theorem sameT_iff {X Y : Tb} : sameT X Y = true ↔ ∀ i, i < 31 → X i = Y i := by simp [sameT]
theorem sameT_cs {X Y : Tb} : sameT X Y = true ↔ cs X = cs Y := ⟨fun h => cs_congr (sameT_iff.1 h), fun h => sameT_iff.2 (cs_inj h)⟩
theorem sameT_self (X : Tb) : sameT X X = true := sameT_iff.2 fun _ _ => rfl

/-- May a cell be? May a table? -/
def mayC (c : Cl) : Bool := decide (c = ⟨0, 0⟩) || (c.lv == 1 || c.lv == 2)
def mayT (X : Tb) : Bool := decide (X 0 = ⟨0, 0⟩) && (List.range 31).all fun i => mayC (X i)
theorem mayT_iff {X : Tb} : mayT X = true ↔ X 0 = ⟨0, 0⟩ ∧ ∀ i, i < 31 → mayC (X i) = true := by simp [mayT]

def zT : Tb := fun _ => ⟨0, 0⟩

end Go.Proofs.Ytjchkpnfdamgnaa
