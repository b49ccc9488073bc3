/-
  The contract of the document's own May. No conditions beyond those each theorem states.
-/
import Derived.Test.YtflmplnampgflaaO8
import Derived.Test.YtflmplnampgflaaS7
namespace Go.Proofs.Ytflmplnampgflaa
open Go.RowKit
set_option maxRecDepth 100000

attribute [local go_sem ↓] ex_ld23 ex_st23 ex_al23 ex_bu23 ex_eq23 ex_ne23 ex_ld26 ex_st26 ex_al26 ex_ld23o ex_st23o ex_bu26 ex_bu26k ex_bu26m ex_bu26l ex_bu26v ex_bu26w ex_eq29 ex_ne29
attribute [local go_sem] ptrB_at okPtr_at aggC_at agg32 agg36 isM_at eqV_m isRow_new isRow_new26 World.setRow_alloc_new ptr3_at okPtr3_at cutM_at putM_at isI_at isL_at bK_at bKM_at bKL_at bKVM_at bKV_at isV_at toV_at

theorem m1 {m v : Int} {M : Mk} {L : List Tr} {b1 b2 b3 b4 : Bool} (h1 : decide (0 ≤ m ∧ m ≤ 31) = b1) (h2 : (v == 0) = b2) (h3 : decide (M = zM) = b3) (h4 : decide (L = []) = b4) : mayS 1 m v M L = (b1 && (b2 && (b3 && b4))) := by
  subst h1 h2 h3 h4; rfl
theorem m2 {m v : Int} {M : Mk} {L : List Tr} {b0 b1 b2 b3 b4 : Bool} (h0 : (m == 0) = b0) (h1 : decide (251 ≤ v ∧ v ≤ 254) = b1) (h2 : (v == 253) = b2) (h3 : decide (M = zM) = b3) (h4 : decide (L = []) = b4) : mayS 2 m v M L = (b0 && (b1 && ((b2 || b3) && b4))) := by
  subst h0 h1 h2 h3 h4; rfl
theorem m3 {m v : Int} {M : Mk} {L : List Tr} {b0 b1 b2 b3 b4 : Bool} (h0 : (m == 0) = b0) (h1 : (v == 0) = b1) (h2 : decide (M = zM) = b2) (h3 : decide (L.length ≤ 170) = b3) (h4 : allT L = b4) : mayS 3 m v M L = (b0 && (b1 && (b2 && (b3 && b4)))) := by
  subst h0 h1 h2 h3 h4; rfl
theorem m0 {k m v : Int} {M : Mk} {L : List Tr} (h1 : ¬ k = 1) (h2 : ¬ k = 2) (h3 : ¬ k = 3) : mayS k m v M L = false := by
  unfold mayS
  rw [if_neg h1, if_neg h2, if_neg h3]
theorem len0 {n : Nat} {L : List Tr} (h : n = L.length) : decide (L = []) = ((n : Int) == 0) := by
  subst h
  cases L <;> simp
  omega

set_option maxHeartbeats 4000000 in
theorem rmay_any (k m v : Int) (M : Mk) (A : Option Addr) (L : List Tr) (n c : Nat) (r : Bool) (w : World) (hn : n = L.length) (h : RdT w A L c) (hr : mayS k m v M L = r) :
    Calls Try.prog 15 #[sv k m v M (.slice A n c)] w fun e w' => e = .returned (.bool r) ∧ Below w.heap.size w w' := by
  have HN := keepd hn
  have H := keepd h
  have HR := keepd hr
  have HL0 := keepd (len0 hn)
  clear hn h hr
  go_enter Try.func15, Try.ntmps15
  go_upto_region 1 with fail
  generalize hV : w.alloc (.cells (sc k m v M (.slice A n c)).toArray 26) = V
  obtain ⟨h1, h2, h3⟩ := one_new _ _ _ _ hV
  obtain ⟨g, hg⟩ : ∃ g, w.heap.size = g := ⟨_, rfl⟩
  rw [hg] at h1
  rw [hg]
  have HG := keepd hg
  have H1 := keepd h1
  have HB0 := keepd h2
  clear hV hg h1 h2 h3
  go_upto_region 2 with fail
  generalize hV : V.alloc (.cells (ms zM).toArray 23) = V2
  obtain ⟨h1, h2, h3⟩ := one_new _ _ _ _ hV
  have h4 : SB V2 g k m v M (.slice A n c) := SR.call H1.out h2 H1.out.lt
  obtain ⟨g3, hg3⟩ : ∃ g, V.heap.size = g := ⟨_, rfl⟩
  rw [hg3] at h1 ⊢
  have HB := keepd (bCall HB0.out h2)
  clear hV hg3 h2 h3 HB0 H1
  obtain ⟨a0, a1, a2, a3⟩ := SB.cells h4
  obtain ⟨a4, a5⟩ := SB.facts h4
  obtain ⟨b4, b5⟩ := MB.facts h1
  clear h1 h4
  cases q1 : (k == 1)
  case true =>
    have e1 : k = 1 := by simpa using q1
    have HM : Hid (∀ {b1 b2 b3 b4 : Bool}, decide (0 ≤ m ∧ m ≤ 31) = b1 → (v == 0) = b2 → decide (M = zM) = b3 → ((n : Int) == 0) = b4 → r = (b1 && (b2 && (b3 && b4)))) := fun h1 h2 h3 h4 => by
      rw [← HR.out, e1]
      exact m1 h1 h2 h3 (HL0.out.trans h4)
    clear e1
    by_cases p1 : 0 ≤ m
    · have g1 : decide (m ≥ 0) = true := decide_eq_true p1
      by_cases p2 : m ≤ 31
      · have g2 : decide (m ≤ 31) = true := decide_eq_true p2
        have D1 := keepd (decide_eq_true (p := 0 ≤ m ∧ m ≤ 31) ⟨p1, p2⟩)
        cases q2 : (v == 0)
        · go_wp2_with fail
          go_ret
          exact ⟨by rw [HM.out D1.out q2 rfl rfl]; rfl, HB.out⟩
        · cases q3 : decide (M = zM)
          · go_wp2_with fail
            go_ret
            exact ⟨by rw [HM.out D1.out q2 q3 rfl]; rfl, HB.out⟩
          · cases q4 : ((n : Int) == 0)
            · go_wp2_with fail
              go_ret
              exact ⟨by rw [HM.out D1.out q2 q3 q4]; rfl, HB.out⟩
            · go_wp2_with fail
              go_ret
              exact ⟨by rw [HM.out D1.out q2 q3 q4]; rfl, HB.out⟩
      · have g2 : decide (m ≤ 31) = false := decide_eq_false p2
        have D1 := keepd (decide_eq_false (p := 0 ≤ m ∧ m ≤ 31) (fun h => p2 h.2))
        go_wp2_with fail
        go_ret
        exact ⟨by rw [HM.out D1.out rfl rfl rfl]; rfl, HB.out⟩
    · have g1 : decide (m ≥ 0) = false := decide_eq_false p1
      have D1 := keepd (decide_eq_false (p := 0 ≤ m ∧ m ≤ 31) (fun h => p1 h.1))
      go_wp2_with fail
      go_ret
      exact ⟨by rw [HM.out D1.out rfl rfl rfl]; rfl, HB.out⟩
  case false =>
  have HE1 : Hid (¬ k = 1) := by simpa [Hid] using q1
  cases q2 : (k == 2)
  case true =>
    have e1 : k = 2 := by simpa using q2
    have HM : Hid (∀ {b0 b1 b2 b3 b4 : Bool}, (m == 0) = b0 → decide (251 ≤ v ∧ v ≤ 254) = b1 → (v == 253) = b2 → decide (M = zM) = b3 → ((n : Int) == 0) = b4 → r = (b0 && (b1 && ((b2 || b3) && b4)))) := fun h0 h1 h2 h3 h4 => by
      rw [← HR.out, e1]
      exact m2 h0 h1 h2 h3 (HL0.out.trans h4)
    clear e1
    cases q0 : (m == 0)
    · go_wp2_with fail
      go_ret
      exact ⟨by rw [HM.out q0 rfl rfl rfl rfl]; rfl, HB.out⟩
    by_cases p1 : 251 ≤ v
    · have g1 : decide (v ≥ 251) = true := decide_eq_true p1
      by_cases p2 : v ≤ 254
      · have g2 : decide (v ≤ 254) = true := decide_eq_true p2
        have D1 := keepd (decide_eq_true (p := 251 ≤ v ∧ v ≤ 254) ⟨p1, p2⟩)
        cases q5 : (v == 253)
        · cases q3 : decide (M = zM)
          · go_wp2_with fail
            go_ret
            exact ⟨by rw [HM.out q0 D1.out q5 q3 rfl]; rfl, HB.out⟩
          · cases q4 : ((n : Int) == 0)
            · go_wp2_with fail
              go_ret
              exact ⟨by rw [HM.out q0 D1.out q5 q3 q4]; rfl, HB.out⟩
            · go_wp2_with fail
              go_ret
              exact ⟨by rw [HM.out q0 D1.out q5 q3 q4]; rfl, HB.out⟩
        · cases q4 : ((n : Int) == 0)
          · go_wp2_with fail
            go_ret
            exact ⟨by rw [HM.out q0 D1.out q5 rfl q4]; simp, HB.out⟩
          · go_wp2_with fail
            go_ret
            exact ⟨by rw [HM.out q0 D1.out q5 rfl q4]; simp, HB.out⟩
      · have g2 : decide (v ≤ 254) = false := decide_eq_false p2
        have D1 := keepd (decide_eq_false (p := 251 ≤ v ∧ v ≤ 254) (fun h => p2 h.2))
        go_wp2_with fail
        go_ret
        exact ⟨by rw [HM.out q0 D1.out rfl rfl rfl]; rfl, HB.out⟩
    · have g1 : decide (v ≥ 251) = false := decide_eq_false p1
      have D1 := keepd (decide_eq_false (p := 251 ≤ v ∧ v ≤ 254) (fun h => p1 h.1))
      go_wp2_with fail
      go_ret
      exact ⟨by rw [HM.out q0 D1.out rfl rfl rfl]; rfl, HB.out⟩
  case false =>
  have HE2 : Hid (¬ k = 2) := by simpa [Hid] using q2
  cases q3 : (k == 3)
  case false =>
    have e3 : ¬ k = 3 := by simpa using q3
    have n3 : (k != 3) = true := by simpa using e3
    have HM : Hid (r = false) := by
      show _ = _
      rw [← HR.out]
      exact m0 HE1.out HE2.out e3
    clear e3
    go_wp2_with fail
    go_ret
    exact ⟨by rw [HM.out]; rfl, HB.out⟩
  have n3 : (k != 3) = false := by simpa using q3
  have HM : Hid (∀ {b0 b1 b2 b3 b4 : Bool}, (m == 0) = b0 → (v == 0) = b1 → decide (M = zM) = b2 → decide (L.length ≤ 170) = b3 → allT L = b4 → r = (b0 && (b1 && (b2 && (b3 && b4))))) := fun h0 h1 h2 h3 h4 => by
    have e1 : k = 3 := by simpa using q3
    rw [← HR.out, e1]
    exact m3 h0 h1 h2 h3 h4
  cases q0 : (m == 0)
  · have n0 : (m != 0) = true := by simpa using q0
    go_wp2_with fail
    go_ret
    exact ⟨by rw [HM.out q0 rfl rfl rfl rfl]; rfl, HB.out⟩
  have n0 : (m != 0) = false := by simpa using q0
  cases q4 : (v == 0)
  · have n4 : (v != 0) = true := by simpa using q4
    go_wp2_with fail
    go_ret
    exact ⟨by rw [HM.out q0 q4 rfl rfl rfl]; rfl, HB.out⟩
  have n4 : (v != 0) = false := by simpa using q4
  cases q5 : decide (M = zM)
  · go_wp2_with fail
    go_ret
    exact ⟨by rw [HM.out q0 q4 q5 rfl rfl]; rfl, HB.out⟩
  by_cases p1 : n ≤ 170
  · have g1 : decide ((n : Int) > 170) = false := decide_eq_false (by omega)
    have D3 : Hid (decide (L.length ≤ 170) = true) := decide_eq_true (by rw [← HN.out]; exact p1)
    obtain ⟨al, hal⟩ : ∃ a, allT L = a := ⟨_, rfl⟩
    have C := keepd (rput_any A L n c (putL L) (putL L).length al V2 HN.out (by omega) (H.out.at_ HB.out) rfl rfl hal)
    have HAl := keepd hal
    clear hal
    go_wp2_with fail
    with_reducible refine C.out.mono ?_
    rintro e w2 ⟨A2, c2, rfl, _, hb⟩
    have HB2 := keepd (bCall HB.out hb)
    clear hb C
    go_wp2_with fail
    go_ret
    exact ⟨by rw [HM.out q0 q4 q5 D3.out HAl.out]; rfl, HB2.out⟩
  · have g1 : decide ((n : Int) > 170) = true := decide_eq_true (by omega)
    have D3 : Hid (decide (L.length ≤ 170) = false) := decide_eq_false (by rw [← HN.out]; exact p1)
    go_wp2_with fail
    go_ret
    exact ⟨by rw [HM.out q0 q4 q5 D3.out rfl]; rfl, HB.out⟩

end Go.Proofs.Ytflmplnampgflaa
