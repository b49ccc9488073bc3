/-
  No item that may be lies as the beginning of another one: of lists alone.
-/
import Derived.Test.YtagfoidljficoaaDoorJ2
import Derived.Test.YtagfoidljficoaaDoorT8
namespace Go.Proofs.YtagfoidljficoaaDoor
open Go.RowKit

theorem dbl_cons (c : UInt8) (r : List UInt8) : dbl (c :: r) = d1 c ++ dbl r := by simp [dbl]
theorem d1_255 : d1 255 = [255, 255] := rfl
theorem d1_other {c : UInt8} (h : c ≠ 255) : d1 c = [c] := by unfold d1; rw [if_neg h]

theorem dbl_pre : ∀ (l l' : List UInt8), dbl l ++ [255, 240] <+: dbl l' ++ [255, 240] → l = l'
  | [], [], _ => rfl
  | [], c :: r, h => by
    rw [dbl_cons] at h
    by_cases hc : c = 255
    · subst hc
      rw [d1_255] at h
      have h2 : (255 : UInt8) :: 240 :: [] <+: 255 :: 255 :: (dbl r ++ [255, 240]) := h
      rw [List.cons_prefix_cons, List.cons_prefix_cons] at h2
      exact absurd h2.2.1 (by decide)
    · rw [d1_other hc] at h
      have h2 : (255 : UInt8) :: 240 :: [] <+: c :: (dbl r ++ [255, 240]) := h
      rw [List.cons_prefix_cons] at h2
      exact absurd h2.1.symm hc
  | c :: r, [], h => by
    rw [dbl_cons] at h
    by_cases hc : c = 255
    · subst hc
      rw [d1_255] at h
      have h2 : (255 : UInt8) :: 255 :: (dbl r ++ [255, 240]) <+: 255 :: 240 :: [] := h
      rw [List.cons_prefix_cons, List.cons_prefix_cons] at h2
      exact absurd h2.2.1 (by decide)
    · rw [d1_other hc] at h
      have h2 : c :: (dbl r ++ [255, 240]) <+: 255 :: 240 :: [] := h
      rw [List.cons_prefix_cons] at h2
      exact absurd h2.1 hc
  | c :: r, c' :: r', h => by
    rw [dbl_cons, dbl_cons] at h
    by_cases hc : c = 255
    · subst hc
      rw [d1_255] at h
      by_cases hc' : c' = 255
      · subst hc'
        rw [d1_255] at h
        have h2 : (255 : UInt8) :: 255 :: (dbl r ++ [255, 240]) <+: 255 :: 255 :: (dbl r' ++ [255, 240]) := h
        rw [List.cons_prefix_cons, List.cons_prefix_cons] at h2
        rw [dbl_pre r r' h2.2.2]
      · rw [d1_other hc'] at h
        have h2 : (255 : UInt8) :: 255 :: (dbl r ++ [255, 240]) <+: c' :: (dbl r' ++ [255, 240]) := h
        rw [List.cons_prefix_cons] at h2
        exact absurd h2.1.symm hc'
    · rw [d1_other hc] at h
      by_cases hc' : c' = 255
      · subst hc'
        rw [d1_255] at h
        have h2 : c :: (dbl r ++ [255, 240]) <+: 255 :: 255 :: (dbl r' ++ [255, 240]) := h
        rw [List.cons_prefix_cons] at h2
        exact absurd h2.1 hc
      · rw [d1_other hc'] at h
        have h2 : c :: (dbl r ++ [255, 240]) <+: c' :: (dbl r' ++ [255, 240]) := h
        rw [List.cons_prefix_cons] at h2
        rw [h2.1, dbl_pre r r' h2.2]

theorem u8_inj {a b : Int} (h : u8 a = u8 b) (a0 : 0 ≤ a) (a1 : a ≤ 255) (b0 : 0 ≤ b) (b1 : b ≤ 255) : a = b := by
  have x := u8_back a0 a1
  have y := u8_back b0 b1
  rw [h] at x
  omega

theorem layL_one (u : UInt8) : layL [u] = lay1 u := by simp [layL]

/-- One octet's laying is no other one's beginning. -/
theorem lay_pre {u v : UInt8} (h : lay1 u <+: lay1 v) : u = v := by
  by_cases hu : u = 255
  · subst hu
    rw [lay1_255] at h
    by_cases hv : v = 255
    · exact hv.symm
    · by_cases hv2 : v = 13
      · subst hv2
        rw [lay1_13, List.cons_prefix_cons] at h
        exact absurd h.1 (by decide)
      · rw [lay1_other hv hv2, List.cons_prefix_cons] at h
        exact absurd h.1.symm hv
  · by_cases hu2 : u = 13
    · subst hu2
      rw [lay1_13] at h
      by_cases hv : v = 255
      · subst hv
        rw [lay1_255, List.cons_prefix_cons] at h
        exact absurd h.1 (by decide)
      · by_cases hv2 : v = 13
        · exact hv2.symm
        · rw [lay1_other hv hv2, List.cons_prefix_cons] at h
          exact absurd h.1.symm hv2
    · rw [lay1_other hu hu2] at h
      by_cases hv : v = 255
      · subst hv
        rw [lay1_255, List.cons_prefix_cons] at h
        exact absurd h.1 hu
      · by_cases hv2 : v = 13
        · subst hv2
          rw [lay1_13, List.cons_prefix_cons] at h
          exact absurd h.1 hu2
        · rw [lay1_other hv hv2, List.cons_prefix_cons] at h
          exact h.1

/-- Data does not begin as anything else does. -/
theorem lay_no255 {u v : UInt8} {r : List UInt8} (hv : v ≠ 255) (h : lay1 u <+: 255 :: v :: r) : False := by
  by_cases hu : u = 255
  · subst hu
    rw [lay1_255, List.cons_prefix_cons, List.cons_prefix_cons] at h
    exact hv h.2.1.symm
  · by_cases hu2 : u = 13
    · subst hu2
      rw [lay1_13, List.cons_prefix_cons] at h
      exact absurd h.1 (by decide)
    · rw [lay1_other hu hu2, List.cons_prefix_cons] at h
      exact hu h.1

theorem no255_lay {u v : UInt8} {r : List UInt8} (hv : v ≠ 255) (h : 255 :: v :: r <+: lay1 u) : False := by
  by_cases hu : u = 255
  · subst hu
    rw [lay1_255, List.cons_prefix_cons, List.cons_prefix_cons] at h
    exact hv h.2.1
  · by_cases hu2 : u = 13
    · subst hu2
      rw [lay1_13, List.cons_prefix_cons] at h
      exact absurd h.1 (by decide)
    · rw [lay1_other hu hu2, List.cons_prefix_cons] at h
      exact hu h.1.symm

/-- What an item that may be is. -/
theorem may_cases (X : Itm) (h : X.may = true) :
    (X.k = 1 ∧ 0 ≤ X.a ∧ X.a ≤ 255 ∧ X.b = 0 ∧ X.l = [] ∧ X.lies = lay1 (u8 X.a)) ∨
    (X.k = 2 ∧ 236 ≤ X.a ∧ X.a ≤ 249 ∧ X.b = 0 ∧ X.l = [] ∧ X.lies = [255, u8 X.a]) ∨
    (X.k = 3 ∧ 251 ≤ X.a ∧ X.a ≤ 254 ∧ 0 ≤ X.b ∧ X.b ≤ 255 ∧ X.l = [] ∧ X.lies = [255, u8 X.a, u8 X.b]) ∨
    (X.k = 4 ∧ 0 ≤ X.a ∧ X.a ≤ 255 ∧ X.b = 0 ∧ X.lies = 255 :: 250 :: u8 X.a :: (dbl X.l ++ [255, 240])) := by
  unfold Itm.may mayN at h
  unfold Itm.lies liesN
  by_cases h1 : X.k = 1
  · rw [if_pos h1] at h ⊢
    simp only [Bool.and_eq_true, beq_iff_eq] at h
    obtain ⟨o1, o2⟩ := oct_iff h.1.1
    exact .inl ⟨h1, o1, o2, h.1.2, List.eq_nil_of_length_eq_zero h.2, layL_one _⟩
  rw [if_neg h1] at h ⊢
  by_cases h2 : X.k = 2
  · rw [if_pos h2] at h ⊢
    simp only [Bool.and_eq_true, beq_iff_eq] at h
    obtain ⟨o1, o2, _⟩ := of_decide_eq_true (show decide _ = true from h.1.1)
    exact .inr (.inl ⟨h2, o1, o2, h.1.2, List.eq_nil_of_length_eq_zero h.2, rfl⟩)
  rw [if_neg h2] at h ⊢
  by_cases h3 : X.k = 3
  · rw [if_pos h3] at h ⊢
    simp only [Bool.and_eq_true, beq_iff_eq] at h
    obtain ⟨o1, o2⟩ := of_decide_eq_true (show decide _ = true from h.1.1)
    obtain ⟨o3, o4⟩ := oct_iff h.1.2
    exact .inr (.inr (.inl ⟨h3, o1, o2, o3, o4, List.eq_nil_of_length_eq_zero h.2, rfl⟩))
  rw [if_neg h3] at h ⊢
  by_cases h4 : X.k = 4
  · rw [if_pos h4] at h
    simp only [Bool.and_eq_true, beq_iff_eq] at h
    obtain ⟨o1, o2⟩ := oct_iff h.1.1
    exact .inr (.inr (.inr ⟨h4, o1, o2, h.1.2, rfl⟩))
  · rw [if_neg h4] at h
    cases h

theorem u8_ne {z : Int} {v : UInt8} (h0 : 0 ≤ z) (h1 : z ≤ 255) (hz : z ≠ (v.toNat : Int)) : u8 z ≠ v := by
  intro e
  have := u8_back h0 h1
  rw [e] at this
  exact hz this.symm

theorem sameI_of {X Y : Itm} (h1 : X.k = Y.k) (h2 : X.a = Y.a) (h3 : X.b = Y.b) (h4 : X.l = Y.l) : sameI X Y = true := by
  unfold sameI
  rw [h1, h2, h3, h4]
  simp

theorem apart_pre (X Y : Itm) (hx : X.may = true) (hy : Y.may = true) (h : X.lies <+: Y.lies) : sameI X Y = true := by
  have e255 : ((255 : UInt8).toNat : Int) = 255 := rfl
  have e250 : ((250 : UInt8).toNat : Int) = 250 := rfl
  rcases may_cases X hx with ⟨k, a0, a1, b0, l0, e⟩ | ⟨k, a0, a1, b0, l0, e⟩ | ⟨k, a0, a1, b0, b1, l0, e⟩ | ⟨k, a0, a1, b0, e⟩
  · rcases may_cases Y hy with ⟨k', a0', a1', b0', l0', e'⟩ | ⟨k', a0', a1', b0', l0', e'⟩ | ⟨k', a0', a1', b0', b1', l0', e'⟩ | ⟨k', a0', a1', b0', e'⟩
    · rw [e, e'] at h
      exact sameI_of (by rw [k, k']) (u8_inj (lay_pre h) a0 a1 a0' a1') (by rw [b0, b0']) (by rw [l0, l0'])
    · rw [e, e'] at h
      exact (lay_no255 (u8_ne (by omega) (by omega) (by omega)) h).elim
    · rw [e, e'] at h
      exact (lay_no255 (u8_ne (by omega) (by omega) (by omega)) h).elim
    · rw [e, e'] at h
      exact (lay_no255 (by decide) h).elim
  · rcases may_cases Y hy with ⟨k', a0', a1', b0', l0', e'⟩ | ⟨k', a0', a1', b0', l0', e'⟩ | ⟨k', a0', a1', b0', b1', l0', e'⟩ | ⟨k', a0', a1', b0', e'⟩
    · rw [e, e'] at h
      exact (no255_lay (u8_ne (by omega) (by omega) (by omega)) h).elim
    · rw [e, e', List.cons_prefix_cons, List.cons_prefix_cons] at h
      exact sameI_of (by rw [k, k']) (u8_inj h.2.1 (by omega) (by omega) (by omega) (by omega)) (by rw [b0, b0']) (by rw [l0, l0'])
    · rw [e, e', List.cons_prefix_cons, List.cons_prefix_cons] at h
      have := u8_inj h.2.1 (by omega) (by omega) (by omega) (by omega)
      omega
    · rw [e, e', List.cons_prefix_cons, List.cons_prefix_cons] at h
      exact absurd h.2.1 (u8_ne (by omega) (by omega) (by omega))
  · rcases may_cases Y hy with ⟨k', a0', a1', b0', l0', e'⟩ | ⟨k', a0', a1', b0', l0', e'⟩ | ⟨k', a0', a1', b0', b1', l0', e'⟩ | ⟨k', a0', a1', b0', e'⟩
    · rw [e, e'] at h
      exact (no255_lay (u8_ne (by omega) (by omega) (by omega)) h).elim
    · rw [e, e', List.cons_prefix_cons, List.cons_prefix_cons] at h
      have := u8_inj h.2.1 (by omega) (by omega) (by omega) (by omega)
      omega
    · rw [e, e', List.cons_prefix_cons, List.cons_prefix_cons, List.cons_prefix_cons] at h
      exact sameI_of (by rw [k, k']) (u8_inj h.2.1 (by omega) (by omega) (by omega) (by omega)) (u8_inj h.2.2.1 b0 b1 b0' b1') (by rw [l0, l0'])
    · rw [e, e', List.cons_prefix_cons, List.cons_prefix_cons] at h
      exact absurd h.2.1 (u8_ne (by omega) (by omega) (by omega))
  · rcases may_cases Y hy with ⟨k', a0', a1', b0', l0', e'⟩ | ⟨k', a0', a1', b0', l0', e'⟩ | ⟨k', a0', a1', b0', b1', l0', e'⟩ | ⟨k', a0', a1', b0', e'⟩
    · rw [e, e'] at h
      exact (no255_lay (by decide) h).elim
    · rw [e, e', List.cons_prefix_cons, List.cons_prefix_cons] at h
      exact absurd h.2.1.symm (u8_ne (by omega) (by omega) (by omega))
    · rw [e, e', List.cons_prefix_cons, List.cons_prefix_cons] at h
      exact absurd h.2.1.symm (u8_ne (by omega) (by omega) (by omega))
    · rw [e, e', List.cons_prefix_cons, List.cons_prefix_cons, List.cons_prefix_cons] at h
      exact sameI_of (by rw [k, k']) (u8_inj h.2.2.1 a0 a1 a0' a1') (by rw [b0, b0']) (dbl_pre _ _ h.2.2.2)

theorem sameI_lies {X Y : Itm} (h : sameI X Y = true) : X.lies = Y.lies := by
  unfold sameI at h
  simp only [Bool.and_eq_true, beq_iff_eq] at h
  unfold Itm.lies
  rw [h.1.1.1, h.1.1.2, h.1.2, h.2]

theorem lies_pos (X : Itm) (h : X.may = true) : 0 < X.lies.length := by
  rcases may_cases X h with ⟨_, _, _, _, _, e⟩ | ⟨_, _, _, _, _, e⟩ | ⟨_, _, _, _, _, _, e⟩ | ⟨_, _, _, _, e⟩
  · rw [e]; have := (lay1_len (u8 X.a)).1; omega
  · rw [e]; simp
  · rw [e]; simp
  · rw [e]; simp

/-- The test of the law, where the one is no longer than the other. -/
theorem apart_le (X Y : Itm) (hx : X.may = true) (hy : Y.may = true) : (X.lies == Y.lies.take X.lies.length) = sameI X Y := by
  cases hs : sameI X Y
  · rw [beq_eq_false_iff_ne]
    intro e
    have := apart_pre X Y hx hy (List.prefix_iff_eq_take.2 e)
    rw [hs] at this
    cases this
  · rw [sameI_lies hs, List.take_length]
    simp

theorem apart_gt (X Y : Itm) (h : Y.lies.length < X.lies.length) : sameI X Y = false := by
  cases hs : sameI X Y
  · rfl
  · rw [sameI_lies hs] at h
    omega

end Go.Proofs.YtagfoidljficoaaDoor
