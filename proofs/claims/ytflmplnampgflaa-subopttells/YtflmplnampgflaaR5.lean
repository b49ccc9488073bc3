/-
  The contract of the document's own Get. No conditions beyond those each theorem states.
-/
import Derived.Test.YtflmplnampgflaaR4
import Derived.Test.YtflmplnampgflaaP3
namespace Go.Proofs.Ytflmplnampgflaa
open Go.RowKit
set_option maxRecDepth 100000

attribute [local go_sem ↓] ex_ld23 ex_st23 ex_al23 ex_bu23 ex_eq23 ex_ne23 ex_ld26 ex_st26 ex_al26 ex_ld23o ex_st23o ex_bu26 ex_bu26k ex_bu26m ex_bu26l ex_bu26v ex_bu26w ex_eq29 ex_ne29
attribute [local go_sem] ptrB_at okPtr_at aggC_at agg32 agg36 isM_at eqV_m isRow_new isRow_new26 World.setRow_alloc_new ptr3_at okPtr3_at cutM_at putM_at isI_at isL_at bK_at bKM_at bKL_at bKVM_at bKV_at isV_at toV_at

theorem one_cell {w : World} {A : Option Addr} {x : UInt8} {r : List UInt8} {c : Nat} (hr : Rd w w.heap.size A (x :: r) c) : ∃ g off, A = some ⟨g, off, none⟩ ∧ g < w.heap.size ∧ w.cell? ⟨g, off, none⟩ = some (.int .u8 (x.toNat : Int)) := by
  obtain ⟨g, off, e, hgl, hc⟩ := hr.form (k := 0) (by simp)
  exact ⟨g, off, e, hgl, hc⟩
theorem two_cells {w : World} {A : Option Addr} {x y : UInt8} {r : List UInt8} {c : Nat} (hr : Rd w w.heap.size A (x :: y :: r) c) :
    ∃ g off, A = some ⟨g, off, none⟩ ∧ g < w.heap.size ∧ w.cell? ⟨g, off, none⟩ = some (.int .u8 (x.toNat : Int)) ∧ w.cell? ⟨g, off + 1, none⟩ = some (.int .u8 (y.toNat : Int)) := by
  obtain ⟨g, off, e, hgl, hc⟩ := hr.form (k := 0) (by simp)
  obtain ⟨g', off', e', _, hc'⟩ := hr.form (k := 1) (by simp)
  rw [e] at e'
  injection e' with e'
  injection e' with e1 e2
  subst e1 e2
  exact ⟨g, off, e, hgl, hc, hc'⟩

theorem octI {x : UInt8} {k : Nat} (h : x.toNat = k) : (Value.int .u8 (x.toNat : Int)) = .int .u8 (k : Int) := by rw [h]

theorem rget_some (A : Option Addr) (b : List UInt8) (n c : Nat) (X : Sb) (w : World) (hn : n = b.length) (hr : Rd w w.heap.size A b c) (hs : Shape b X) : Calls Try.prog 13 #[.slice A n c] w (RGot w X.k X.m X.v X.M X.L true) := by
  rcases hs with ⟨u, rfl, rfl, hu⟩ | ⟨f, t, rfl, rfl, h1, h2, h3, h4⟩ | ⟨r, L, rfl, rfl, h1, h2⟩
  · obtain ⟨g, off, rfl, hgl, hc0, hc1⟩ := two_cells hr
    have hn2 : n = 2 := hn
    subst hn2
    exact rg_1y g off c w hgl (u.toNat : Int) hc0 hc1 (decide_eq_true (by omega)) (wrap64_u8 u)
  · obtain ⟨g, off, rfl, hgl, hc0, hc1⟩ := two_cells hr
    have hlen : n = t.length + 2 := by simpa using hn
    by_cases h253 : f.toNat = 253
    · have hd := hr.drop 2 (by simp)
      have hR : getR t = (padM t, true) := by
        unfold getR
        rw [if_pos h4]
      rw [octI h253] at hc0
      have e : ((f.toNat : Nat) : Int) = 253 := by omega
      show Calls Try.prog 13 _ w (RGot w 2 0 (f.toNat : Int) (padM t) [] true)
      rw [e]
      exact rg_253y g off n c w hgl _ _ _ t (padM t) (by omega) hc0 hc1 ⟨rfl, rfl, rfl⟩ (by omega) hd hR
    · have ht : t = [] := h3.resolve_left h253
      subst ht
      have hn2 : n = 2 := hlen
      subst hn2
      show Calls Try.prog 13 _ w (RGot w 2 0 (f.toNat : Int) (padM []) [] true)
      rw [padM_nil]
      have : f.toNat = 251 ∨ f.toNat = 252 ∨ f.toNat = 254 := by omega
      rcases this with e | e | e
      · rw [octI e] at hc0
        rw [e]
        exact rg_251y g off c w hgl hc0 hc1
      · rw [octI e] at hc0
        rw [e]
        exact rg_252y g off c w hgl hc0 hc1
      · rw [octI e] at hc0
        rw [e]
        exact rg_254y g off c w hgl hc0 hc1
  · obtain ⟨g, off, rfl, hgl, hc0⟩ := one_cell hr
    have hlen : n = r.length + 1 := by simpa using hn
    have hl := get_len h1
    have hd := hr.drop 1 (by simp)
    exact rg_3y g off n c w hgl _ _ _ r L (by omega) (by omega) hc0 ⟨rfl, rfl, rfl⟩ (by omega) hd h1

theorem neb {x k : Nat} (h : ¬ x = k) : (((x : Nat) : Int) == ((k : Nat) : Int)) = false := by simp; omega

set_option maxHeartbeats 1000000 in
theorem rget_none (A : Option Addr) (b : List UInt8) (n c : Nat) (w : World) (hn : n = b.length) (hr : Rd w w.heap.size A b c) (h : getS b = none) : Calls Try.prog 13 #[.slice A n c] w (RGot w 0 0 0 zM [] false) := by
  have no : ∀ X, ¬ Shape b X := fun X hs => by
    rw [shape_get hs] at h
    cases h
  cases b with
  | nil =>
    subst hn
    exact rg_0 A c w
  | cons x r =>
    have hlen : n = r.length + 1 := by simpa using hn
    by_cases h1 : x.toNat = 1
    · have hx : x = 1 := UInt8.toNat_inj.1 h1
      by_cases hr1 : r.length = 1
      · obtain ⟨u, rfl⟩ := one_of hr1
        obtain ⟨g, off, rfl, hgl, hc0, hc1⟩ := two_cells hr
        have hn2 : n = 2 := hn
        subst hn2
        rw [octI h1] at hc0
        by_cases hu : u.toNat ≤ 31
        · exact absurd (.inl ⟨u, by rw [hx], rfl, hu⟩) (no _)
        · exact rg_1b g off c w hgl _ hc0 hc1 (decide_eq_false (by omega))
      · obtain ⟨g, off, rfl, hgl, hc0⟩ := one_cell hr
        rw [octI h1] at hc0
        exact rg_1n g off n c w hgl (by omega) (by omega) hc0
    by_cases h3 : x.toNat = 3
    · have hx : x = 3 := UInt8.toNat_inj.1 h3
      obtain ⟨g, off, rfl, hgl, hc0⟩ := one_cell hr
      rw [octI h3] at hc0
      by_cases h5 : n ≤ 511
      · have hd := hr.drop 1 (by simp)
        cases hg : getL r with
        | none => exact rg_3e g off n c w hgl _ _ _ r (by omega) h5 hc0 ⟨rfl, rfl, rfl⟩ (by omega) hd hg
        | some L =>
          have := get_len hg
          exact absurd (.inr (.inr ⟨r, L, by rw [hx], rfl, hg, by omega⟩)) (no _)
      · exact rg_3n g off n c w hgl (by omega) hc0
    by_cases h253 : x.toNat = 253
    · cases r with
      | nil =>
        obtain ⟨g, off, rfl, hgl, hc0⟩ := one_cell hr
        rw [octI h253] at hc0
        have hn1 : n = 1 := hn
        subst hn1
        exact rg_253n g off c w hgl hc0
      | cons y t =>
        obtain ⟨g, off, rfl, hgl, hc0, hc1⟩ := two_cells hr
        rw [octI h253] at hc0
        have hlen2 : n = t.length + 2 := by simpa using hn
        by_cases hy : y.toNat = 2
        · have hy2 : y = 2 := UInt8.toNat_inj.1 hy
          rw [octI hy] at hc1
          by_cases h32 : t.length ≤ 32
          · exact absurd (.inr (.inl ⟨x, t, by rw [hy2], rfl, by omega, by omega, .inl h253, h32⟩)) (no _)
          · have hd := hr.drop 2 (by simp)
            have hR : getR t = (zM, false) := by
              unfold getR
              rw [if_neg h32]
            exact rg_253e g off n c w hgl _ _ _ t (by omega) hc0 hc1 ⟨rfl, rfl, rfl⟩ (by omega) hd hR
        · exact rg_253b g off n c w hgl _ (by omega) hc0 hc1 (neb hy)
    by_cases h251 : x.toNat = 251
    · by_cases hr1 : r.length = 1
      · obtain ⟨u, rfl⟩ := one_of hr1
        obtain ⟨g, off, rfl, hgl, hc0, hc1⟩ := two_cells hr
        have hn2 : n = 2 := hn
        subst hn2
        rw [octI h251] at hc0
        by_cases hu : u.toNat = 2
        · have hu2 : u = 2 := UInt8.toNat_inj.1 hu
          exact absurd (.inr (.inl ⟨x, [], by rw [hu2], rfl, by omega, by omega, .inr rfl, by simp⟩)) (no _)
        · exact rg_251b g off c w hgl _ hc0 hc1 (neb hu)
      · obtain ⟨g, off, rfl, hgl, hc0⟩ := one_cell hr
        rw [octI h251] at hc0
        exact rg_251n g off n c w hgl (by omega) (by omega) hc0
    by_cases h252 : x.toNat = 252
    · by_cases hr1 : r.length = 1
      · obtain ⟨u, rfl⟩ := one_of hr1
        obtain ⟨g, off, rfl, hgl, hc0, hc1⟩ := two_cells hr
        have hn2 : n = 2 := hn
        subst hn2
        rw [octI h252] at hc0
        by_cases hu : u.toNat = 2
        · have hu2 : u = 2 := UInt8.toNat_inj.1 hu
          exact absurd (.inr (.inl ⟨x, [], by rw [hu2], rfl, by omega, by omega, .inr rfl, by simp⟩)) (no _)
        · exact rg_252b g off c w hgl _ hc0 hc1 (neb hu)
      · obtain ⟨g, off, rfl, hgl, hc0⟩ := one_cell hr
        rw [octI h252] at hc0
        exact rg_252n g off n c w hgl (by omega) (by omega) hc0
    by_cases h254 : x.toNat = 254
    · by_cases hr1 : r.length = 1
      · obtain ⟨u, rfl⟩ := one_of hr1
        obtain ⟨g, off, rfl, hgl, hc0, hc1⟩ := two_cells hr
        have hn2 : n = 2 := hn
        subst hn2
        rw [octI h254] at hc0
        by_cases hu : u.toNat = 2
        · have hu2 : u = 2 := UInt8.toNat_inj.1 hu
          exact absurd (.inr (.inl ⟨x, [], by rw [hu2], rfl, by omega, by omega, .inr rfl, by simp⟩)) (no _)
        · exact rg_254b g off c w hgl _ hc0 hc1 (neb hu)
      · obtain ⟨g, off, rfl, hgl, hc0⟩ := one_cell hr
        rw [octI h254] at hc0
        exact rg_254n g off n c w hgl (by omega) (by omega) hc0
    obtain ⟨g, off, rfl, hgl, hc0⟩ := one_cell hr
    exact rg_other g off n c w hgl _ (by omega) hc0 (neb h1) (neb h251) (neb h252) (neb h254) (neb h253) (neb h3)

end Go.Proofs.Ytflmplnampgflaa
