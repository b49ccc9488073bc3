/-
  Talks of any state, as lists; what comes of a key. No walks.
-/
import Derived.Test.YtlfmbfecajhffaaDoorA3
import Derived.Test.YtlfmbfecajhffaaDoorE12
namespace Go.Proofs.YtlfmbfecajhffaaDoor
open Go.RowKit
set_option maxRecDepth 100000

/-- What a talk has passed on, whatever its state. -/
def passK (X : Tb) (l : List UInt8) (z : Int) (ov li h : Bool) : List UInt8 := if mayV l.length z && h then keysL X ⟨l, z.toNat, ov, li⟩ else []
def passH (n : Nat) (z : Int) (h : Bool) : Bool := if mayV n z then false else h
/-- What comes of a key, whatever the talk's state. -/
structure TyG where
  l : List UInt8
  z : Int
  ov : Bool
  li : Bool
  h : Bool
  ks : List UInt8
  sg : Int
  bell : Bool
def typeG (X : Tb) (room : Int) (l : List UInt8) (z : Int) (ov li h : Bool) (u : UInt8) (edit fwd : Bool) : TyG :=
  if mayV l.length z then
    ⟨(typeT X room ⟨⟨l, z.toNat, ov, li⟩, h⟩ u edit fwd).1.s.l, ((typeT X room ⟨⟨l, z.toNat, ov, li⟩, h⟩ u edit fwd).1.s.t : Int), (typeT X room ⟨⟨l, z.toNat, ov, li⟩, h⟩ u edit fwd).1.s.ov, (typeT X room ⟨⟨l, z.toNat, ov, li⟩, h⟩ u edit fwd).1.s.li, (typeT X room ⟨⟨l, z.toNat, ov, li⟩, h⟩ u edit fwd).1.held,
     (typeT X room ⟨⟨l, z.toNat, ov, li⟩, h⟩ u edit fwd).2.ks, ((typeT X room ⟨⟨l, z.toNat, ov, li⟩, h⟩ u edit fwd).2.sg : Int), decide (0 < (typeT X room ⟨⟨l, z.toNat, ov, li⟩, h⟩ u edit fwd).2.n)⟩
  else ⟨l, z, ov, li, h, [], 0, false⟩
theorem isZ_same (l : List UInt8) (t : Nat) (ov li : Bool) : isZ ⟨l, t, ov, li⟩ = sameS l (t : Int) ov li [] 0 false false := by
  cases h : sameS l (t : Int) ov li [] 0 false false
  · cases h2 : isZ ⟨l, t, ov, li⟩
    · rfl
    · have := isZ_iff.1 h2
      simp only [zE, Ed.mk.injEq] at this
      obtain ⟨rfl, rfl, rfl, rfl⟩ := this
      exact absurd h (by decide)
  · obtain ⟨rfl, e, rfl, rfl⟩ := sameS_iff.1 h
    obtain rfl : t = 0 := by omega
    rfl
/-- Is the key passed on by itself? -/
def byKey (h z edit : Bool) (m : Nat) : Bool := !edit || ((!h && !z) || decide (0 < m))
theorem typeT_by {X : Tb} {room : Int} {k : Tk} {u : UInt8} {edit fwd : Bool} (h : byKey k.held (isZ k.s) edit (keyE X room k.s u).es.length = true) :
    typeT X room k u edit fwd = (⟨(keyE X room k.s u).s, false⟩, ⟨(if k.held then keysL X k.s else []) ++ [u], sgT X k.s u, (keyE X room k.s u).n⟩) := by
  unfold typeT byKey at *
  simp only
  rw [if_neg]
  intro hc
  simp only [Bool.and_eq_true, Bool.or_eq_true, List.isEmpty_iff] at hc
  obtain ⟨h1, h2, h3⟩ := hc
  rw [h1, h3] at h
  rcases h2 with h2 | h2 <;> rw [h2] at h <;> simp at h
theorem typeT_not {X : Tb} {room : Int} {k : Tk} {u : UInt8} {edit fwd : Bool} (h : byKey k.held (isZ k.s) edit (keyE X room k.s u).es.length = false) :
    typeT X room k u edit fwd = if fwd && !isZ (keyE X room k.s u).s then (⟨(keyE X room k.s u).s, false⟩, ⟨keysL X (keyE X room k.s u).s, 0, (keyE X room k.s u).n⟩) else (⟨(keyE X room k.s u).s, true⟩, ⟨[], 0, (keyE X room k.s u).n⟩) := by
  unfold typeT byKey at *
  simp only
  rw [if_pos]
  simp only [Bool.or_eq_false_iff, Bool.not_eq_false', Bool.and_eq_false_iff, decide_eq_false_iff_not] at h
  obtain ⟨h1, h2, h3⟩ := h
  simp only [Bool.and_eq_true, Bool.or_eq_true, List.isEmpty_iff]
  exact ⟨h1, by rcases h2 with h2 | h2 <;> simp_all, List.eq_nil_of_length_eq_zero (by omega)⟩
theorem sgT_le (X : Tb) (s : Ed) (u : UInt8) : sgT X s u ≤ 9 := by
  unfold sgT
  split
  · omega
  · rename_i h
    simp only [Bool.or_eq_true, decide_eq_true_eq, not_or] at h
    omega
/-- How long what is passed on is. -/
theorem typeT_ks (X : Tb) (room : Int) (k : Tk) (u : UInt8) (edit fwd : Bool) : (typeT X room k u edit fwd).2.ks.length ≤ 3 * k.s.l.length + 3 ∨ (typeT X room k u edit fwd).2.ks.length ≤ 3 * (keyE X room k.s u).s.l.length + 2 := by
  cases h : byKey k.held (isZ k.s) edit (keyE X room k.s u).es.length
  · rw [typeT_not h]
    split
    · right; exact (keysL_len X _).1
    · left; simp
  · rw [typeT_by h]
    left
    have := (keysL_len X k.s).1
    simp only [List.length_append, List.length_cons, List.length_nil]
    split
    · omega
    · simp
theorem typeT_ks_le {X : Tb} {room : Int} {k : Tk} (hk : k.s.ok) (u : UInt8) (edit fwd : Bool) : (typeT X room k u edit fwd).2.ks.length ≤ 20000 := by
  have h1 := hk.2
  have h2 := (keyE_ok hk X room u).2
  rcases typeT_ks X room k u edit fwd with h | h <;> omega
theorem passT_ks_le {X : Tb} {k : Tk} (hk : k.s.ok) : (passT X k).2.length ≤ 20000 := by
  have h1 := hk.2
  unfold passT
  split
  · have := (keysL_len X k.s).1; simp only; omega
  · simp
/-- Edited here, and nothing forwards: how what is passed on goes. -/
theorem typeT_edit (X : Tb) (room : Int) (k : Tk) (u : UInt8) : ((typeT X room k u true false).2.ks = [] ∧ (typeT X room k u true false).1.held = true ∧ (keyE X room k.s u).es = []) ∨ (∃ ks, (typeT X room k u true false).2.ks = ks ++ [u] ∧ ks.length ≤ 3 * k.s.l.length + 2 ∧ (typeT X room k u true false).1.held = false) := by
  cases h : byKey k.held (isZ k.s) true (keyE X room k.s u).es.length
  · left
    rw [typeT_not h]
    refine ⟨rfl, rfl, List.eq_nil_of_length_eq_zero ?_⟩
    simp only [byKey, Bool.or_eq_false_iff, decide_eq_false_iff_not] at h
    omega
  · right
    rw [typeT_by h]
    refine ⟨_, rfl, ?_, rfl⟩
    have := (keysL_len X k.s).1
    split
    · exact this
    · simp
/-- Not edited here. -/
theorem typeT_raw (X : Tb) (room : Int) (s : Ed) (u : UInt8) (fwd : Bool) : (typeT X room ⟨s, false⟩ u false fwd).1 = ⟨(keyE X room s u).s, false⟩ ∧ (typeT X room ⟨s, false⟩ u false fwd).2.ks = [u] := by
  rw [typeT_by (by rfl)]
  exact ⟨rfl, rfl⟩
/-- A quiet talk stays so. -/
theorem typeT_quiet {X : Tb} {room : Int} {k : Tk} {u : UInt8} (h : k.held = true ∨ k.s = zE) (he : (keyE X room k.s u).es = []) : (typeT X room k u true false).1.held = true ∧ (typeT X room k u true false).2.ks = [] := by
  have hb : byKey k.held (isZ k.s) true (keyE X room k.s u).es.length = false := by
    unfold byKey
    rw [he]
    rcases h with h | h
    · rw [h]; rfl
    · rw [isZ_iff.2 h]; simp
  rw [typeT_not hb]
  exact ⟨rfl, rfl⟩
/-- Behind an event that is no signal the state is the zero one. -/
theorem keyE_zero {X : Tb} {room : Int} {s : Ed} {u : UInt8} {e : Ev} (he : (keyE X room s u).es = [e]) (hk : e.k ≠ 3) : (keyE X room s u).s = zE := by
  unfold keyE at he ⊢
  split at he
  · simp [typE] at he
  · rename_i hl
    rw [if_neg hl]
    unfold actE at he ⊢
    split at he
    · rename_i h
      rw [if_pos h]
      simp only [sigE, sigV, List.cons.injEq, and_true] at he
      unfold sigE sigS
      simp only
      split at he
      · rename_i h8
        rw [h8.1]
        rfl
      · subst he
        exact absurd rfl hk
    rename_i h1
    rw [if_neg h1]
    split at he
    · simp [typE] at he
    rename_i h2
    rw [if_neg h2]
    split at he
    · rename_i h3; rw [if_pos h3]
    rename_i h3
    rw [if_neg h3]
    split at he
    · cases he
    rename_i h4
    rw [if_neg h4]
    split at he
    · cases he
    split at he
    · cases he
    split at he <;> cases he

end Go.Proofs.YtlfmbfecajhffaaDoor
