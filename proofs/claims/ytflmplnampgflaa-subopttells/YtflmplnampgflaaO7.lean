/-
  The contract of partsMayBe. No conditions beyond those each theorem states.
-/
import Derived.Test.YtflmplnampgflaaO3
import Derived.Test.YtflmplnampgflaaO5
namespace Go.Proofs.Ytflmplnampgflaa
open Go.RowKit
set_option maxRecDepth 100000

attribute [local go_sem ↓] ex_ld23 ex_st23 ex_al23 ex_bu23 ex_eq23 ex_ne23 ex_ld26 ex_st26 ex_al26 ex_ld23o ex_st23o ex_bu26 ex_bu26k ex_bu26m ex_bu26l ex_bu26v ex_bu26w ex_eq29 ex_ne29
attribute [local go_sem] ptrB_at okPtr_at aggC_at agg32 agg36 isM_at eqV_m isRow_new isRow_new26 World.setRow_alloc_new ptr3_at okPtr3_at cutM_at putM_at isI_at isL_at bK_at bKM_at bKL_at bKVM_at bKV_at isV_at toV_at

/-- May the parts be that its kind names? -/
def partsS (k m v : Int) (L : List Tr) : Bool := if k = 1 then decide (0 ≤ m ∧ m ≤ 31) else if k = 2 then decide (251 ≤ v ∧ v ≤ 254) else if k = 3 then decide (L.length ≤ 170) && allT L else false

set_option maxHeartbeats 1000000 in
theorem parts_any (k m v : Int) (M : Mk) (A : Option Addr) (L : List Tr) (n c : Nat) (r : Bool) (w : World) (hn : n = L.length) (h : RdT w A L c) (hr : partsS k m v L = r) :
    Calls Try.prog 29 #[sv k m v M (.slice A n c)] w fun e w' => e = .returned (.bool r) ∧ Below w.heap.size w w' := by
  have HN := keepd hn
  have H := keepd h
  have HR := keepd hr
  clear hn h hr
  go_enter Try.func29, Try.ntmps29
  go_upto_region 1 with fail
  generalize hV : w.alloc (.cells (sc k m v M (.slice A n c)).toArray 26) = V
  obtain ⟨h1, h2, h3⟩ := one_new _ _ _ _ hV
  obtain ⟨g, hg⟩ : ∃ g, w.heap.size = g := ⟨_, rfl⟩
  rw [hg] at h1
  rw [hg]
  clear hV hg h3
  obtain ⟨a0, a1, a2, a3⟩ := SB.cells h1
  have HB := keepd h2
  clear h1 h2
  cases q1 : (k == 1)
  case true =>
    have e1 : k = 1 := by simpa using q1
    have E1 := keepd e1
    clear e1
    by_cases p1 : 0 ≤ m
    · by_cases p2 : m ≤ 31
      · have g1 : decide (m ≥ 0) = true := decide_eq_true (by omega)
        have g2 : decide (m ≤ 31) = true := decide_eq_true (by omega)
        go_wp2_with fail
        go_ret
        exact ⟨by rw [← HR.out]; simp [partsS, E1.out, p1, p2], HB.out⟩
      · have g1 : decide (m ≥ 0) = true := decide_eq_true (by omega)
        have g2 : decide (m ≤ 31) = false := decide_eq_false (by omega)
        go_wp2_with fail
        go_ret
        exact ⟨by rw [← HR.out]; simp [partsS, E1.out]; omega, HB.out⟩
    · have g1 : decide (m ≥ 0) = false := decide_eq_false (by omega)
      go_wp2_with fail
      go_ret
      exact ⟨by rw [← HR.out]; simp [partsS, E1.out]; omega, HB.out⟩
  case false =>
  have E1 : Hid (¬ k = 1) := by simpa [Hid] using q1
  cases q2 : (k == 2)
  case true =>
    have e1 : k = 2 := by simpa using q2
    have E2 := keepd e1
    clear e1
    by_cases p1 : 251 ≤ v
    · by_cases p2 : v ≤ 254
      · have g1 : decide (v ≥ 251) = true := decide_eq_true (by omega)
        have g2 : decide (v ≤ 254) = true := decide_eq_true (by omega)
        go_wp2_with fail
        go_ret
        exact ⟨by rw [← HR.out]; simp [partsS, E2.out, p1, p2], HB.out⟩
      · have g1 : decide (v ≥ 251) = true := decide_eq_true (by omega)
        have g2 : decide (v ≤ 254) = false := decide_eq_false (by omega)
        go_wp2_with fail
        go_ret
        exact ⟨by rw [← HR.out]; simp [partsS, E2.out]; omega, HB.out⟩
    · have g1 : decide (v ≥ 251) = false := decide_eq_false (by omega)
      go_wp2_with fail
      go_ret
      exact ⟨by rw [← HR.out]; simp [partsS, E2.out]; omega, HB.out⟩
  case false =>
  have E2 : Hid (¬ k = 2) := by simpa [Hid] using q2
  cases q3 : (k == 3)
  case true =>
    have e1 : k = 3 := by simpa using q3
    have E3 := keepd e1
    clear e1
    by_cases p1 : n ≤ 170
    · have g1 : decide ((n : Int) ≤ 170) = true := decide_eq_true (by omega)
      have g2 : decide (n ≤ 170) = true := decide_eq_true p1
      have C := keepd (contains_any A L n c (allT L) V HN.out (H.out.at_ HB.out) rfl)
      have P1 : Hid (L.length ≤ 170) := by show _ ≤ _; rw [← HN.out]; exact p1
      go_wp2_with fail
      with_reducible refine C.out.mono ?_
      rintro e w2 ⟨rfl, hb⟩
      have HB2 := keepd (bCall HB.out hb)
      clear hb C
      go_wp2_with fail
      go_ret
      exact ⟨by rw [← HR.out]; simp [partsS, E3.out, P1.out], HB2.out⟩
    · have g1 : decide ((n : Int) ≤ 170) = false := decide_eq_false (by omega)
      have g2 : decide (n ≤ 170) = false := decide_eq_false p1
      have P1 : Hid (¬ L.length ≤ 170) := by show ¬ _ ≤ _; rw [← HN.out]; exact p1
      go_wp2_with fail
      go_ret
      exact ⟨by rw [← HR.out]; simp [partsS, E3.out, P1.out], HB.out⟩
  case false =>
  have E3 : Hid (¬ k = 3) := by simpa [Hid] using q3
  go_wp2_with fail
  go_ret
  exact ⟨by rw [← HR.out]; simp [partsS, E1.out, E2.out, E3.out], HB.out⟩

end Go.Proofs.Ytflmplnampgflaa
