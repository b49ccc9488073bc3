/-
  What a key comes to, in short, on lists. No walks.
-/
import Derived.Test.YtjhocmeenejjpaaDoorD2
namespace Go.Proofs.YtjhocmeenejjpaaDoor
open Go.RowKit
set_option maxRecDepth 100000

/-- No longer, but by one that there is room for. -/
def LenOK (s r : Ed) (room : Int) : Prop := r.l.length ≤ s.l.length ∨ (r.l.length = s.l.length + 1 ∧ (r.l.length : Int) ≤ room)
/-- What a key comes to, in short. -/
def OneOK (s : Ed) (room : Int) (r : Res) : Prop :=
  (r.n = 1 ∧ r.es = [] ∧ r.s = ⟨s.l, s.t, s.ov, false⟩) ∨ (r.n = 0 ∧ r.es = [] ∧ LenOK s r.s room) ∨ (r.n = 0 ∧ ∃ v, r.es = [v] ∧ LenOK s r.s room ∧ (v.k = 3 ∨ r.s = zE))
theorem typE_one {s : Ed} (h : s.ok) (room : Int) (u : UInt8) (hl : s.li = false) : OneOK s room (typE s room u) := by
  unfold typE tyR
  cases hq : tyL s.l s.t room s.ov u with
  | none =>
    refine .inl ⟨rfl, rfl, ?_⟩
    obtain ⟨l, t, ov, li⟩ := s
    simp only at hl
    subst hl
    rfl
  | some p =>
    obtain ⟨m, q⟩ := p
    obtain ⟨_, _, h3⟩ := ty_spec h.1 hq
    refine .inr (.inl ⟨rfl, rfl, ?_⟩)
    rcases h3 with h3 | ⟨h3, h4, _⟩
    · exact .inl (Nat.le_of_eq h3)
    · exact .inr ⟨h3, h4⟩
theorem len_z (s : Ed) (room : Int) : LenOK s zE room := .inl (by simp [zE])
theorem len_s (s : Ed) (room : Int) (t : Nat) (ov li : Bool) : LenOK s ⟨s.l, t, ov, li⟩ room := .inl (Nat.le_refl _)
theorem sigE_one (s : Ed) (room f : Int) : OneOK s room (sigE s f) := by
  refine .inr (.inr ⟨rfl, _, rfl, ?_, ?_⟩)
  · unfold sigE sigS
    simp only
    split
    · exact len_s ..
    · exact len_z ..
  · unfold sigE sigS sigV
    simp only
    split
    · rename_i h
      refine .inr ?_
      rw [if_neg (by rw [h.1]; decide)]
    · exact .inl rfl
theorem actE_one {s : Ed} (h : s.ok) (f room : Int) (u : UInt8) (hl : s.li = false) : OneOK s room (actE f room s u) := by
  unfold actE
  split
  · exact sigE_one s room f
  split
  · exact typE_one h room u hl
  split
  · exact .inr (.inr ⟨rfl, _, rfl, len_z .., .inr rfl⟩)
  split
  · exact .inr (.inl ⟨rfl, rfl, len_s ..⟩)
  split
  · exact .inr (.inl ⟨rfl, rfl, len_s ..⟩)
  split
  · exact .inr (.inl ⟨rfl, rfl, len_s ..⟩)
  split
  · exact .inr (.inl ⟨rfl, rfl, .inl (Nat.le_refl _)⟩)
  · refine .inr (.inl ⟨rfl, rfl, ?_⟩)
    unfold doR
    cases hq : doL s.l s.t f with
    | none => exact .inl (Nat.le_refl _)
    | some p =>
      obtain ⟨m, q⟩ := p
      exact .inl (do_spec h.1 hq).2
theorem keyE_one {s : Ed} (h : s.ok) (X : Tb) (room : Int) (u : UInt8) : OneOK s room (keyE X room s u) := by
  unfold keyE
  cases hl : s.li
  · exact actE_one h _ room u hl
  · exact typE_one (s := ⟨s.l, s.t, s.ov, false⟩) h room u rfl
theorem isSig_bounds {f : Int} (h : isSig f = true) : 1 ≤ f ∧ f ≤ 9 := by simpa [isSig] using h
/-- A key that means a signal does what the signal does. -/
theorem keyE_sig {X : Tb} {room f : Int} {l : List UInt8} {t : Nat} {ov : Bool} {u : UInt8} (hf : isSig f = true) (hk : (meanF X (u.toNat : Int) : Int) = f) : keyE X room ⟨l, t, ov, false⟩ u = sigE ⟨l, t, ov, false⟩ f := by
  unfold keyE
  simp only [Bool.false_eq_true, if_false, hk]
  unfold actE
  rw [hf]
  rfl

end Go.Proofs.YtjhocmeenejjpaaDoor
