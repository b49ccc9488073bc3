/-
  Octets that are got, with one more, and with fewer. No walks here.
-/
import Derived.Test.YtflmplnampgflaaP3
namespace Go.Proofs.Ytflmplnampgflaa
open Go.RowKit
set_option maxRecDepth 100000

attribute [local go_sem ↓] ex_ld23 ex_st23 ex_al23 ex_bu23 ex_eq23 ex_ne23 ex_ld26 ex_st26 ex_al26 ex_ld23o ex_st23o ex_bu26 ex_bu26k ex_bu26m ex_bu26l ex_bu26v ex_bu26w ex_eq29 ex_ne29
attribute [local go_sem] ptrB_at okPtr_at aggC_at agg32 agg36 isM_at eqV_m isRow_new isRow_new26 World.setRow_alloc_new ptr3_at okPtr3_at cutM_at putM_at isI_at isL_at bK_at bKM_at bKL_at bKVM_at bKV_at isV_at toV_at

theorem getS_none {b : List UInt8} (h : ∀ X, ¬ Shape b X) : getS b = none := by
  cases ho : getS b with
  | none => rfl
  | some X => exact absurd (get_shape ho) (h X)

theorem more_1 (u x : UInt8) : getS ([1, u] ++ [x]) = none := getS_none fun X hs => by
  rcases hs with ⟨u2, e, _⟩ | ⟨f, t, e, _, h1, _⟩ | ⟨r, L, e, _⟩
  · have := congrArg List.length e
    simp at this
  · injection e with e _
    subst e
    exact absurd h1 (by decide)
  · injection e with e _
    exact absurd e (by decide)
theorem more_3 {r : List UInt8} {L : List Tr} (h : getL r = some L) (x : UInt8) : getS (3 :: r ++ [x]) = none := getS_none fun X hs => by
  rcases hs with ⟨u2, e, _⟩ | ⟨f, t, e, _, h1, _⟩ | ⟨r', L', e, _, h2, _⟩
  · injection e with e _
    exact absurd e (by decide)
  · injection e with e _
    subst e
    exact absurd h1 (by decide)
  · have e2 : r ++ [x] = r' := by
      injection e
    have h3 := get_len h
    have h4 := get_len h2
    rw [← e2, List.length_append] at h4
    simp at h4
    omega
theorem more_2y {f : UInt8} {t : List UInt8} (hf : f.toNat = 253) (ht : t.length < 32) (x : UInt8) : getS (f :: 2 :: t ++ [x]) = some ⟨2, 0, (f.toNat : Int), padM (t ++ [x]), []⟩ :=
  shape_get (.inr (.inl ⟨f, t ++ [x], rfl, rfl, by omega, by omega, .inl hf, by rw [List.length_append]; simp; omega⟩))
theorem more_2n {f : UInt8} {t : List UInt8} (h1 : 251 ≤ f.toNat) (h2 : f.toNat ≤ 254) (h : f.toNat = 253 → 32 ≤ t.length) (x : UInt8) : getS (f :: 2 :: t ++ [x]) = none := getS_none fun X hs => by
  rcases hs with ⟨u2, e, _⟩ | ⟨f', t', e, _, _, _, h3, h4⟩ | ⟨r', L', e, _⟩
  · injection e with e _
    subst e
    exact absurd h1 (by decide)
  · have e1 : f = f' := by injection e
    have e2 : t ++ [x] = t' := by
      injection e with _ e
      injection e
    subst e1 e2
    rcases h3 with h3 | h3
    · have := h h3
      rw [List.length_append] at h4
      simp at h4
      omega
    · simp at h3
  · injection e with e _
    subst e
    exact absurd h1 (by decide)
theorem less_3 {r : List UInt8} {L : List Tr} (h : getL r = some L) (hl : L.length ≤ 170) (h0 : 0 < L.length) : getS ((3 :: r).take (r.length + 1 - 3)) = some ⟨3, 0, 0, zM, L.take (L.length - 1)⟩ := by
  obtain ⟨e, ha⟩ := lies_get r L h
  have h3 := get_len h
  have e2 : (3 :: r).take (r.length + 1 - 3) = 3 :: liesL (L.take (L.length - 1)) := by
    rw [show r.length + 1 - 3 = (r.length - 3) + 1 by omega, List.take_succ_cons]
    congr 1
    have e3 : r = liesL (L.take (L.length - 1)) ++ liesL (L.drop (L.length - 1)) := by
      rw [← liesL_append, List.take_append_drop, e]
    have e4 : (liesL (L.take (L.length - 1))).length = r.length - 3 := by
      rw [liesL_len, List.length_take]
      omega
    rw [← e4]
    conv => lhs; rw [e3]
    rw [List.take_left]
  rw [e2]
  exact shape_get (.inr (.inr ⟨_, _, rfl, rfl, get_lies _ (allT_take ha _), by rw [List.length_take]; omega⟩))
theorem less_2 {f : UInt8} (h1 : 251 ≤ f.toNat) (h2 : f.toNat ≤ 254) : getS [f, 2] = some ⟨2, 0, (f.toNat : Int), zM, []⟩ := by
  have := shape_get (b := [f, 2]) (X := ⟨2, 0, (f.toNat : Int), padM [], []⟩) (.inr (.inl ⟨f, [], rfl, rfl, h1, h2, .inr rfl, by simp⟩))
  rwa [padM_nil] at this

end Go.Proofs.Ytflmplnampgflaa
