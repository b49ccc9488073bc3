/-
  Data that is read, as a function on lists, and the contract of nvt.Read.
-/
import Derived.Test.YtmgkfibkeonpmaaT1
namespace Go.Proofs.Ytmgkfibkeonpmaa
open Go.RowKit

theorem wid_le (l : List UInt8) (h : l ≠ []) : wid l ≤ l.length := by
  have hp : 0 < l.length := List.length_pos_iff.2 h
  have two : ∀ u, l[1]? = some u → 2 ≤ l.length := fun u hu => by have := (List.getElem?_eq_some_iff.1 hu).1; omega
  unfold wid
  split
  · split
    · rename_i hh; exact two _ hh
    · omega
  · split
    · rename_i hh
      rcases hh.2 with e | e
      · exact two _ e
      · exact two _ e
    · omega

/-- The data with which l begins, and how many octets that takes. -/
def readD (l : List UInt8) : List UInt8 × Nat :=
  if _h : l = [] ∨ wid l = 0 then ([], 0) else (l.headD 0 :: (readD (l.drop (wid l))).1, wid l + (readD (l.drop (wid l))).2)
termination_by l.length
decreasing_by
  all_goals
    have h1 : l ≠ [] := fun e => _h (.inl e)
    have h2 : wid l ≠ 0 := fun e => _h (.inr e)
    have := List.length_pos_iff.2 h1
    simp only [List.length_drop]
    omega

theorem readD_stop {l : List UInt8} (h : l = [] ∨ wid l = 0) : readD l = ([], 0) := by
  rw [readD, dif_pos h]

theorem readD_go {l : List UInt8} (hl : 0 < l.length) (h : wid l ≠ 0) : readD l = (l[0] :: (readD (l.drop (wid l))).1, wid l + (readD (l.drop (wid l))).2) := by
  have h0 : ¬ (l = [] ∨ wid l = 0) := by
    rintro (e | e)
    · subst e; simp at hl
    · exact h e
  rw [readD, dif_neg h0]
  cases l with
  | nil => simp at hl
  | cons a r => rfl

theorem readD_le (l : List UInt8) : (readD l).2 ≤ l.length ∧ (readD l).1.length ≤ (readD l).2 := by
  induction hn : l.length using Nat.strongRecOn generalizing l with
  | _ n ih =>
    by_cases h : l = [] ∨ wid l = 0
    · rw [readD_stop h]; simp
    · have h1 : l ≠ [] := fun e => h (.inl e)
      have h2 : wid l ≠ 0 := fun e => h (.inr e)
      have hp : 0 < l.length := List.length_pos_iff.2 h1
      have hw := wid_le l h1
      rw [readD_go hp h2]
      have := ih (l.drop (wid l)).length (by rw [List.length_drop]; omega) (l.drop (wid l)) rfl
      rw [List.length_drop] at this
      simp only [List.length_cons]
      omega

/-- Behind k octets d is read. -/
def RI (l : List UInt8) (k : Nat) (d : List UInt8) : Prop :=
  k ≤ l.length ∧ d.length ≤ k ∧ readD l = (d ++ (readD (l.drop k)).1, k + (readD (l.drop k)).2)

theorem RI.start (l : List UInt8) : RI l 0 [] := ⟨Nat.zero_le _, Nat.le_refl _, by simp⟩

theorem RI.step {l : List UInt8} {k : Nat} {d : List UInt8} (h : RI l k d) (hk : k < l.length) (hw : wid (l.drop k) ≠ 0) : RI l (k + wid (l.drop k)) (d ++ [l[k]]) := by
  obtain ⟨_, h2, h3⟩ := h
  have hne : l.drop k ≠ [] := fun e => by have := congrArg List.length e; simp at this; omega
  have hp : 0 < (l.drop k).length := List.length_pos_iff.2 hne
  have hle := wid_le _ hne
  rw [List.length_drop] at hle
  refine ⟨by omega, by simp; omega, ?_⟩
  rw [h3, readD_go hp hw, List.drop_drop]
  simp [Nat.add_assoc]

theorem RI.fin {l : List UInt8} {k : Nat} {d : List UInt8} (h : RI l k d) (hs : k = l.length ∨ wid (l.drop k) = 0) : readD l = (d, k) := by
  have : readD (l.drop k) = ([], 0) := readD_stop (by
    rcases hs with e | e
    · left; rw [e]; simp
    · exact .inr e)
  rw [h.2.2, this]
  simp

/-- Octets in new memory, and a number. -/
def GotR (w : World) (l : List UInt8) (n : Nat) (e : Ending) (w' : World) : Prop :=
  ∃ A c, e = .returned (.tuple #[.slice A l.length c, .int .i64 (n : Int)]) ∧ Rd w' w'.heap.size A l c ∧ Below w.heap.size w w'

end Go.Proofs.Ytmgkfibkeonpmaa
