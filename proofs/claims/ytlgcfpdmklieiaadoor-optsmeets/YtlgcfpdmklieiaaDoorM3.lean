/-
  Two ends, on lists: each option of each side is two sides of layer 5, and what is under way of it is a part of what is under way.
-/
import Derived.Test.YtlgcfpdmklieiaaDoorM2
namespace Go.Proofs.YtlgcfpdmklieiaaDoor
open Go.RowKit

/-- What is under way of the option p, to the side h of an end. -/
def pj (h : Bool) (p : Int) : List (Int × Int) → List Bool
  | [] => []
  | x :: r => if ofHim x.1 = h ∧ x.2 = codeI p then isYes x.1 :: pj h p r else pj h p r

theorem pj_append (h : Bool) (p : Int) (l m : List (Int × Int)) : pj h p (l ++ m) = pj h p l ++ pj h p m := by
  induction l with
  | nil => rfl
  | cons x r ih =>
    simp only [List.cons_append, pj]
    split
    · rw [ih]; rfl
    · exact ih

/-- The eight: each option of each side of the first end. -/
def chs : List (Bool × Int) := [(false, 0), (false, 1), (false, 2), (false, 3), (true, 0), (true, 1), (true, 2), (true, 3)]

theorem mem_chs (h : Bool) {p : Int} (hp : P4 p) : (h, p) ∈ chs := by
  rcases hp with rfl | rfl | rfl | rfl <;> cases h <;> decide

/-- A sum over the eight. -/
def sum8 (f : Bool × Int → Nat) : Nat := (chs.map f).foldr (· + ·) 0

theorem sum8_upd (f : Bool × Int → Nat) (h : Bool) {p : Int} (hp : P4 p) (z : Nat) : sum8 (fun k => if k = (h, p) then z else f k) + f (h, p) = sum8 f + z := by
  unfold sum8 chs
  rcases hp with rfl | rfl | rfl | rfl <;> cases h <;> simp <;> omega

/-- One option of one side of the first end, and the same of the second one: they are there; by how much less than twice as much as was asked has been said. -/
def Ch (A B : O) (s t : List (Int × Int)) (h : Bool) (p : Int) (d : Nat) : Prop :=
  ∃ rk, findT ((sideF A h).may.at p, (sideF B (!h)).may.at p, (sideF A h).at_.at p, (sideF B (!h)).at_.at p, pj h p s, pj (!h) p t) = some (d, rk)

/-- What is under way is verbs of codes that are kept. -/
def Kept (l : List (Int × Int)) : Prop := ∀ x ∈ l, vOk x.1 = true ∧ plK x.2 = true

/-- Two ends, what is under way to each, how much was said and asked. -/
structure Meets (A B : O) (s t : List (Int × Int)) (said asked : Nat) : Prop where
  okA : okO A = true
  okB : okO B = true
  ks : Kept s
  kt : Kept t
  ch : ∃ d : Bool × Int → Nat, (∀ h p, P4 p → Ch A B s t h p (d (h, p))) ∧ said + sum8 d ≤ 2 * asked

/-- Seen from the other end it is the same. -/
theorem codeI_inj {p q : Int} (hp : P4 p) (hq : P4 q) (h : codeI p = codeI q) : p = q := by
  rcases hp with rfl | rfl | rfl | rfl <;> rcases hq with rfl | rfl | rfl | rfl <;> first | rfl | (exfalso; revert h; decide)

theorem side_setO (X : O) (b h : Bool) (p q i : Int) (hp : P4 p) (hi : P4 i) : (sideF (setO X b p q) h).at_.at i = if h = b ∧ i = p then q else (sideF X h).at_.at i := by
  cases b <;> cases h
  · show (X.us.set p q).at i = _
    rw [at_set _ _ _ _ hp hi]
    simp only [true_and]
    rfl
  · rw [if_neg (by simp)]; rfl
  · rw [if_neg (by simp)]; rfl
  · show (X.him.set p q).at i = _
    rw [at_set _ _ _ _ hp hi]
    simp only [true_and]
    rfl
theorem may_setO (X : O) (b h : Bool) (p q : Int) : (sideF (setO X b p q) h).may = (sideF X h).may := by
  cases b <;> cases h <;> rfl

/-- What is said of the side h is of the side that is not h, at the other end. -/
theorem pj_say (X : O) (b h : Bool) (p i s : Int) (hp : P4 p) (hi : P4 i) (hs : s = 0 ∨ s = 1 ∨ s = 2) : pj h i (sayL (sideF X b).yes (sideF X b).no (codeI p) s) = if h = !b ∧ i = p then sayB s else [] := by
  by_cases e : i = p
  · subst e
    rcases hs with rfl | rfl | rfl <;> cases b <;> cases h <;> simp [sayL, sayB, pj, sideF, ofHim, isYes]
  · have e' : ¬ codeI p = codeI i := fun h => e (codeI_inj hp hi h).symm
    rw [if_neg (by simp [e])]
    rcases hs with rfl | rfl | rfl <;> simp [sayL, pj, e']

theorem kept_say (X : O) (b : Bool) (p s : Int) (hp : P4 p) : Kept (sayL (sideF X b).yes (sideF X b).no (codeI p) s) := by
  intro x hx
  unfold sayL at hx
  split at hx
  · simp at hx; subst hx; exact ⟨(side_verbs X b).1, (pl_code hp).2⟩
  · split at hx
    · simp at hx; subst hx; exact ⟨(side_verbs X b).2, (pl_code hp).2⟩
    · simp at hx

theorem sayL_len (y n c s : Int) (hs : s = 0 ∨ s = 1 ∨ s = 2) : (sayL y n c s).length = sayN s := by
  rcases hs with rfl | rfl | rfl <;> rfl

theorem Kept.append {l m : List (Int × Int)} (h : Kept l) (h' : Kept m) : Kept (l ++ m) := by
  intro x hx
  rcases List.mem_append.1 hx with e | e
  · exact h x e
  · exact h' x e
theorem Kept.tail {x : Int × Int} {l : List (Int × Int)} (h : Kept (x :: l)) : Kept l := fun y hy => h y (List.mem_cons_of_mem _ hy)

end Go.Proofs.YtlgcfpdmklieiaaDoor
