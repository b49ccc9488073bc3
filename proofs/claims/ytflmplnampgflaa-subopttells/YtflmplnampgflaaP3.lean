/-
  What was put is got; what is got may be, and how it lies. No walks here.
-/
import Derived.Test.YtflmplnampgflaaO15
namespace Go.Proofs.Ytflmplnampgflaa
open Go.RowKit
set_option maxRecDepth 100000

attribute [local go_sem ↓] ex_ld23 ex_st23 ex_al23 ex_bu23 ex_eq23 ex_ne23 ex_ld26 ex_st26 ex_al26 ex_ld23o ex_st23o ex_bu26 ex_bu26k ex_bu26m ex_bu26l ex_bu26v ex_bu26w ex_eq29 ex_ne29
attribute [local go_sem] ptrB_at okPtr_at aggC_at agg32 agg36 isM_at eqV_m isRow_new isRow_new26 World.setRow_alloc_new ptr3_at okPtr3_at cutM_at putM_at isI_at isL_at bK_at bKM_at bKL_at bKVM_at bKV_at isV_at toV_at

/-- How octets lie that tell a sub. -/
def Shape (b : List UInt8) (X : Sb) : Prop :=
  (∃ u : UInt8, b = [1, u] ∧ X = ⟨1, (u.toNat : Int), 0, zM, []⟩ ∧ u.toNat ≤ 31) ∨
  (∃ (f : UInt8) (t : List UInt8), b = f :: 2 :: t ∧ X = ⟨2, 0, (f.toNat : Int), padM t, []⟩ ∧ 251 ≤ f.toNat ∧ f.toNat ≤ 254 ∧ (f.toNat = 253 ∨ t = []) ∧ t.length ≤ 32) ∨
  (∃ (r : List UInt8) (L : List Tr), b = 3 :: r ∧ X = ⟨3, 0, 0, zM, L⟩ ∧ getL r = some L ∧ L.length ≤ 170)

theorem padM_nil : padM [] = zM := by decide +kernel
theorem trimM_zM : trimM zM = [] := by decide +kernel

theorem shape_may {b : List UInt8} {X : Sb} (h : Shape b X) : X.may = true := by
  rcases h with ⟨u, rfl, rfl, hu⟩ | ⟨f, t, rfl, rfl, h1, h2, h3, h4⟩ | ⟨r, L, rfl, rfl, h1, h2⟩
  · show mayS _ _ _ _ _ = true
    unfold mayS
    simp; omega
  · show mayS _ _ _ _ _ = true
    unfold mayS
    rcases h3 with h3 | rfl
    · simp; omega
    · simp [padM_nil]; omega
  · show mayS _ _ _ _ _ = true
    unfold mayS
    simp [h2, (lies_get r L h1).2]

theorem shape_get {b : List UInt8} {X : Sb} (h : Shape b X) : getS b = some X := by
  have hm := shape_may h
  have hf : ∀ o : Option Sb, o = some X → o.filter Sb.may = some X := fun o e => by subst e; exact if_pos hm
  rcases h with ⟨u, rfl, rfl, hu⟩ | ⟨f, t, rfl, rfl, h1, h2, h3, h4⟩ | ⟨r, L, rfl, rfl, h1, h2⟩
  · rw [getS_cons]
    exact hf _ rfl
  · rw [getS_cons]
    apply hf
    unfold kindR
    rw [if_neg (by omega), if_neg (by omega), forwR_cons, if_pos ⟨rfl, h3.imp (fun h => by omega) id, h4⟩]
  · rw [getS_cons]
    apply hf
    show tripR r = _
    unfold tripR
    rw [if_pos (by have := get_len h1; omega), h1]
    rfl

theorem get_shape {b : List UInt8} {X : Sb} (h : getS b = some X) : Shape b X := by
  cases b with
  | nil => cases h
  | cons f r =>
    rw [getS_cons] at h
    obtain ⟨hk, hm⟩ : kindR (f.toNat : Int) r = some X ∧ X.may = true := by
      cases ho : kindR (f.toNat : Int) r with
      | none => rw [ho] at h; cases h
      | some Y =>
        rw [ho] at h
        cases hy : Y.may with
        | false =>
          rw [show Option.filter Sb.may (some Y) = none from if_neg (by rw [hy]; decide)] at h
          cases h
        | true =>
          rw [show Option.filter Sb.may (some Y) = some Y from if_pos hy] at h
          injection h with h
          subst h
          exact ⟨rfl, hy⟩
    unfold kindR at hk
    split at hk
    · rename_i h1
      have hf : f = 1 := UInt8.toNat_inj.1 (by have : f.toNat = 1 := by omega
                                               rw [this]; rfl)
      subst hf
      match r, hk with
      | [u], hk =>
        injection hk with hk
        subst hk
        have := (may_k1 rfl hm).1
        exact .inl ⟨u, rfl, rfl, by simp only [] at this; omega⟩
      | [], hk => cases hk
      | _ :: _ :: _, hk => cases hk
    · split at hk
      · rename_i h3
        have hf : f = 3 := UInt8.toNat_inj.1 (by have : f.toNat = 3 := by omega
                                                 rw [this]; rfl)
        subst hf
        unfold tripR at hk
        split at hk
        · obtain ⟨L, hL, rfl⟩ := Option.map_eq_some_iff.1 hk
          exact .inr (.inr ⟨r, L, rfl, rfl, hL, (may_k3 rfl hm).2.2.2.1⟩)
        · cases hk
      · cases r with
        | nil => cases hk
        | cons c t =>
          rw [forwR_cons] at hk
          split at hk
          · rename_i hc
            injection hk with hk
            subst hk
            have := may_k2 rfl hm
            simp only [] at this
            obtain ⟨rfl, hc2, hc3⟩ := hc
            exact .inr (.inl ⟨f, t, rfl, rfl, by omega, by omega, hc2.imp (fun h => by omega) id, hc3⟩)
          · cases hk

theorem oct_shape {X : Sb} (h : X.may = true) : Shape X.oct X := by
  obtain ⟨k, m, v, M, L⟩ := X
  have hm : mayS k m v M L = true := h
  rcases may_k hm with rfl | rfl | rfl
  · obtain ⟨h1, rfl, rfl, rfl⟩ := may_k1 rfl hm
    have hu : ((u8 m).toNat : Int) = m := u8_back h1.1 (by omega)
    exact .inl ⟨u8 m, rfl, by rw [hu], by omega⟩
  · obtain ⟨rfl, h2, h3, rfl⟩ := may_k2 rfl hm
    have hu : ((u8 v).toNat : Int) = v := u8_back (by omega) (by omega)
    refine .inr (.inl ⟨u8 v, trimM M, rfl, by rw [hu, padM_trim], by omega, by omega, ?_, by rw [trimM_len]; exact trimN_le M⟩)
    rcases h3 with h3 | h3
    · left; omega
    · right; rw [h3, trimM_zM]
  · obtain ⟨rfl, rfl, rfl, h4, h5⟩ := may_k3 rfl hm
    exact .inr (.inr ⟨liesL L, L, rfl, rfl, get_lies L h5, h4⟩)

/-- What was put is got. -/
theorem get_oct {X : Sb} (h : X.may = true) : getS X.oct = some X := shape_get (oct_shape h)
theorem shape_len {b : List UInt8} {X : Sb} (h : Shape b X) : b.length ≤ 511 := by
  rcases h with ⟨u, rfl, rfl, hu⟩ | ⟨f, t, rfl, rfl, h1, h2, h3, h4⟩ | ⟨r, L, rfl, rfl, h1, h2⟩
  · simp
  · simp; omega
  · have := get_len h1
    simp; omega
theorem oct_len {X : Sb} (h : X.may = true) : X.oct.length ≤ 511 := shape_len (oct_shape h)

/-- What is got, put, is what it was got of, but for noughts at a mask's end. -/
theorem put_get {b : List UInt8} {X : Sb} (h : Shape b X) : X.oct.length ≤ b.length ∧ X.oct = b.take X.oct.length ∧ (X.oct.length < b.length → X.k = 2) ∧ ∀ j, X.oct.length ≤ j → j < b.length → b.getD j 0 = 0 := by
  rcases h with ⟨u, rfl, rfl, hu⟩ | ⟨f, t, rfl, rfl, h1, h2, h3, h4⟩ | ⟨r, L, rfl, rfl, h1, h2⟩
  · have e : (Sb.mk 1 (u.toNat : Int) 0 zM []).oct = [1, u] := by
      show [1, u8 (u.toNat : Int)] = _
      rw [u8_of]
    rw [e]
    exact ⟨Nat.le_refl _, rfl, fun h => absurd h (Nat.lt_irrefl _), fun j h1 h2 => absurd h2 (by omega)⟩
  · have e : (Sb.mk 2 0 (f.toNat : Int) (padM t) []).oct = f :: 2 :: t.take (trimN (padM t)) := by
      show u8 (f.toNat : Int) :: 2 :: trimM (padM t) = _
      rw [u8_of, trim_pad h4]
    have hl := trimN_pad h4
    have el : (f :: 2 :: t.take (trimN (padM t))).length = trimN (padM t) + 2 := by
      simp only [List.length_cons, List.length_take]
      omega
    rw [e, el]
    refine ⟨by simp only [List.length_cons]; omega, rfl, fun _ => rfl, fun j h1 h2 => ?_⟩
    obtain ⟨i, rfl⟩ : ∃ i, j = i + 2 := ⟨j - 2, by omega⟩
    exact pad_rest h4 (by omega) (by simp only [List.length_cons] at h2; omega)
  · have e : (Sb.mk 3 0 0 zM L).oct = 3 :: r := by
      show 3 :: liesL L = _
      rw [(lies_get r L h1).1]
    rw [e]
    refine ⟨Nat.le_refl _, by rw [List.take_of_length_le (Nat.le_refl _)], fun h => absurd h (Nat.lt_irrefl _), fun j h1 h2 => absurd h2 (by omega)⟩

end Go.Proofs.Ytflmplnampgflaa
