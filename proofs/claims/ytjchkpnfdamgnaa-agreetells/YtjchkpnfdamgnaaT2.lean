/-
  The contracts of table's isFunction, mayBe, Check, of slc's Check, and of the document's own May of triples. No conditions beyond those each theorem states.
-/
import Derived.Test.YtjchkpnfdamgnaaT1p
import Derived.Test.YtjchkpnfdamgnaaP2
namespace Go.Proofs.Ytjchkpnfdamgnaa
open Go.RowKit
set_option maxRecDepth 100000

attribute [local go_sem ↓] ex_ld31 ex_st31 ex_al31 ex_bu31 ex_ix31 ex_eq31 ex_ne31 ex_eq29 ex_ne29 ex_ld25 ex_st25 ex_al25 ex_bu25 ex_ix25
attribute [local go_sem] ptrB_at okPtr_at aggC_at agg62 isC_at isT_at eqV_t eqV_c

theorem isFunction_any (f : Int) (w : World) : Calls Try.prog 29 #[.int .i64 f] w fun e w' => e = .returned (.bool (decide (0 < f ∧ f < 31))) ∧ w' = w := by
  by_cases h : 0 < f
  · have g1 : decide (0 < f) = true := decide_eq_true h
    go_enter Try.func29, Try.ntmps29
    go_wp2
    go_ret
    simp [h]
  · have g1 : decide (0 < f) = false := decide_eq_false h
    go_enter Try.func29, Try.ntmps29
    go_wp2
    go_ret
    simp

theorem mayBe_any (c : Cl) (m : Bool) (hm : mayC c = m) (w : World) : Calls Try.prog 30 #[cv c] w fun e w' => e = .returned (.bool m) ∧ Below w.heap.size w w' := by
  have B0 : ∀ o, Below w.heap.size w (w.alloc o) := fun o => bAlloc (Below.refl _ _) o
  obtain ⟨a, b⟩ := c
  have e0 : mayC ⟨a, b⟩ = ((a == 0 && b == 0) || (a == 1 || a == 2)) := by
    unfold mayC
    congr 1
    rw [Bool.eq_iff_iff]
    simp
  rw [e0] at hm
  clear e0
  subst hm
  cases g1 : (a == 0 && b == 0)
  · cases g2 : a == 1
    · go_enter Try.func30, Try.ntmps30
      go_wp2
      go_ret
      exact ⟨by simp, B0 _⟩
    · go_enter Try.func30, Try.ntmps30
      go_wp2
      go_ret
      exact ⟨by simp, B0 _⟩
  · go_enter Try.func30, Try.ntmps30
    go_wp2
    go_ret
    exact ⟨by simp, B0 _⟩

theorem one_new (w : World) (t : TypeId) (a : List Value) (W : World) (h : w.alloc (.cells a.toArray t) = W) : SR t W w.heap.size a ∧ Below w.heap.size w W ∧ W.heap.size = w.heap.size + 1 := by
  subst h
  exact ⟨SR.new t w a, bAlloc (Below.refl _ _) _, by simp⟩

theorem mayT_no {X : Tb} {k : Nat} (hk : k < 31) (h : mayC (X k) = false) : mayT X = false := by
  cases hm : mayT X
  · rfl
  · rw [(mayT_iff.1 hm).2 k hk] at h
    cases h

theorem tcheck_any (X : Tb) (m : Bool) (hm : mayT X = m) (w : World) : Calls Try.prog 24 #[tv X] w fun e w' => e = .returned (.int .i64 (if m then 0 else 1)) ∧ Below w.heap.size w w' := by
  have HM := keepd hm
  clear hm
  go_enter Try.func24, Try.ntmps24
  go_upto_region 1 with fail
  generalize hW : w.alloc (.cells (cs X).toArray 31) = W
  obtain ⟨h1, h2, h3⟩ := one_new _ _ _ _ hW
  clear hW
  obtain ⟨r1, k1⟩ := TB.facts h1
  obtain ⟨c0, c1⟩ := TB.at h1 0 (by omega)
  have HB := keepd h2
  clear h1 h2
  by_cases h0 : X 0 = ⟨0, 0⟩
  · have g1 : ((X 0).lv == 0) = true := by rw [h0]; rfl
    have g2 : ((X 0).v == 0) = true := by rw [h0]; rfl
    have H0 := keepd h0
    clear h0
    go_wp2_with fail
    go_loopw [10] (fun vi wr => ∃ k : Nat, k ≤ 31 ∧ vi = .int .i64 k ∧ Hid (∀ i, i < k → mayC (X i) = true) ∧ Hid (Below w.heap.size w wr)) (fun vi _ => 31 - (intOf vi).toNat)
    case atStart => exact ⟨0, by omega, rfl, fun i hi => by omega, HB⟩
    case round =>
      obtain ⟨k, hk, rfl, HT, HB⟩ := hrel
      clear c0 c1 g1 g2 r1 k1 h3
      by_cases hlt : k < 31
      · obtain ⟨i1, i2⟩ := idx_facts X k hlt
        have HX : Hid (mayC (X k) = true → ∀ i, i < k + 1 → mayC (X i) = true) := fun e i hi => by
          by_cases hik : i = k
          · subst hik; exact e
          · exact HT.out i (by omega)
        have HN : Hid (mayC (X k) = false → m = false) := fun e => HM.out.symm.trans (mayT_no hlt e)
        generalize X k = c at *
        obtain ⟨v, hv⟩ : ∃ v, mayC c = v := ⟨_, rfl⟩
        have HC := fun w => mayBe_any c v hv w
        have HV := keepd hv
        clear hv
        cases v
        · have hm : m = false := HN.out HV.out
          subst hm
          go_wp2_with fail
          with_reducible refine (HC _).mono ?_
          rintro e w2 ⟨rfl, hb2⟩
          have HB2 := keepd (bCall HB.out (upA hb2))
          clear hb2
          go_wp2
          go_returns
          exact ⟨rfl, HB2.out⟩
        · go_wp2_with fail
          with_reducible refine (HC _).mono ?_
          rintro e w2 ⟨rfl, hb2⟩
          have HB2 := keepd (bCall HB.out (upA hb2))
          clear hb2
          have HX2 := keepd (HX.out HV.out)
          go_wp2
          go_roundw
          case rel => exact ⟨k + 1, by omega, by go_num, HX2, HB2⟩
          case measure => simp [intOf]; omega
      · obtain rfl : k = 31 := by omega
        have hm : m = true := HM.out.symm.trans (mayT_iff.2 ⟨H0.out, HT.out⟩)
        subst hm
        go_wp2
        go_returns
        exact ⟨rfl, HB.out⟩
  · have g1 : (((X 0).lv == 0) && ((X 0).v == 0)) = false := by
      cases hx : (((X 0).lv == 0) && ((X 0).v == 0))
      · rfl
      · exfalso
        apply h0
        generalize X 0 = c at *
        obtain ⟨a, b⟩ := c
        simpa using hx
    have hm : m = false := by
      rw [← HM.out]
      cases hx : mayT X
      · rfl
      · exact absurd (mayT_iff.1 hx).1 h0
    subst hm
    clear h0
    go_wp2
    go_returns
    exact ⟨rfl, HB.out⟩

theorem scheck_any (f lv : Int) (a i o : Bool) (v : Int) (m : Bool) (hm : mayTr f lv = m) (w : World) :
    Calls Try.prog 25 #[.agg #[.int .i64 f, .int .i64 lv, .bool a, .bool i, .bool o, .int .u8 v]] w fun e w' => e = .returned (.int .i64 (if m then 0 else 1)) ∧ Below w.heap.size w w' := by
  have B0 : ∀ o, Below w.heap.size w (w.alloc o) := fun o => bAlloc (Below.refl _ _) o
  cases m
  · have h := mayTr_no.1 hm
    clear hm
    by_cases h1 : f < 0
    · have g1 : decide (f < 0) = true := decide_eq_true h1
      go_enter Try.func25, Try.ntmps25
      go_wp2
      go_ret
      exact ⟨rfl, B0 _⟩
    have g1 : decide (f < 0) = false := decide_eq_false h1
    by_cases h2 : 255 < f
    · have g2 : decide (255 < f) = true := decide_eq_true h2
      go_enter Try.func25, Try.ntmps25
      go_wp2
      go_ret
      exact ⟨rfl, B0 _⟩
    have g2 : decide (255 < f) = false := decide_eq_false h2
    by_cases h3 : lv < 0
    · have g3 : decide (lv < 0) = true := decide_eq_true h3
      go_enter Try.func25, Try.ntmps25
      go_wp2
      go_ret
      exact ⟨rfl, B0 _⟩
    have g3 : decide (lv < 0) = false := decide_eq_false h3
    have g4 : decide (3 < lv) = true := decide_eq_true (by omega)
    go_enter Try.func25, Try.ntmps25
    go_wp2
    go_ret
    exact ⟨rfl, B0 _⟩
  · have h := mayTr_iff.1 hm
    clear hm
    have g1 : decide (f < 0) = false := decide_eq_false (by omega)
    have g2 : decide (255 < f) = false := decide_eq_false (by omega)
    have g3 : decide (lv < 0) = false := decide_eq_false (by omega)
    have g4 : decide (3 < lv) = false := decide_eq_false (by omega)
    go_enter Try.func25, Try.ntmps25
    go_wp2
    go_ret
    exact ⟨rfl, B0 _⟩

theorem refMayTr_any (f lv : Int) (a i o : Bool) (v : Int) (m : Bool) (hm : mayTr f lv = m) (w : World) :
    Calls Try.prog 15 #[.agg #[.int .i64 f, .int .i64 lv, .bool a, .bool i, .bool o, .int .u8 v]] w fun e w' => e = .returned (.bool m) ∧ Below w.heap.size w w' := by
  have B0 : ∀ o, Below w.heap.size w (w.alloc o) := fun o => bAlloc (Below.refl _ _) o
  cases m
  · have h := mayTr_no.1 hm
    clear hm
    by_cases h1 : f < 0
    · have g1 : decide (f ≥ 0) = false := decide_eq_false (by omega)
      go_enter Try.func15, Try.ntmps15
      go_wp2
      go_ret
      exact ⟨rfl, B0 _⟩
    have g1 : decide (f ≥ 0) = true := decide_eq_true (by omega)
    by_cases h2 : 255 < f
    · have g2 : decide (f ≤ 255) = false := decide_eq_false (by omega)
      go_enter Try.func15, Try.ntmps15
      go_wp2
      go_ret
      exact ⟨rfl, B0 _⟩
    have g2 : decide (f ≤ 255) = true := decide_eq_true (by omega)
    by_cases h3 : lv < 0
    · have g3 : decide (lv ≥ 0) = false := decide_eq_false (by omega)
      go_enter Try.func15, Try.ntmps15
      go_wp2
      go_ret
      exact ⟨rfl, B0 _⟩
    have g3 : decide (lv ≥ 0) = true := decide_eq_true (by omega)
    have g4 : decide (lv ≤ 3) = false := decide_eq_false (by omega)
    go_enter Try.func15, Try.ntmps15
    go_wp2
    go_ret
    exact ⟨rfl, B0 _⟩
  · have h := mayTr_iff.1 hm
    clear hm
    have g1 : decide (f ≥ 0) = true := decide_eq_true (by omega)
    have g2 : decide (f ≤ 255) = true := decide_eq_true (by omega)
    have g3 : decide (lv ≥ 0) = true := decide_eq_true (by omega)
    have g4 : decide (lv ≤ 3) = true := decide_eq_true (by omega)
    go_enter Try.func15, Try.ntmps15
    go_wp2
    go_ret
    exact ⟨rfl, B0 _⟩

end Go.Proofs.Ytjchkpnfdamgnaa
