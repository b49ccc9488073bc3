/-
  The contracts of few and of One; Get in one contract. No conditions beyond those each theorem states.
-/
import Derived.Test.YtflmplnampgflaaO14
import Derived.Test.YtflmplnampgflaaM2
namespace Go.Proofs.Ytflmplnampgflaa
open Go.RowKit
set_option maxRecDepth 100000

attribute [local go_sem ↓] ex_ld23 ex_st23 ex_al23 ex_bu23 ex_eq23 ex_ne23 ex_ld26 ex_st26 ex_al26 ex_ld23o ex_st23o ex_bu26 ex_bu26k ex_bu26m ex_bu26l ex_bu26v ex_bu26w ex_eq29 ex_ne29
attribute [local go_sem] ptrB_at okPtr_at aggC_at agg32 agg36 isM_at eqV_m isRow_new isRow_new26 World.setRow_alloc_new ptr3_at okPtr3_at cutM_at putM_at isI_at isL_at bK_at bKM_at bKL_at bKVM_at bKV_at isV_at toV_at

/-- What Get answers, and its error. -/
def zS : Sb := ⟨0, 0, 0, zM, []⟩
def getP (b : List UInt8) : Sb × Int := match getS b with
  | some X => (X, 0)
  | none => (zS, 2)
theorem getP_some {b : List UInt8} {X : Sb} (h : getS b = some X) : getP b = (X, 0) := by unfold getP; rw [h]
theorem getP_none {b : List UInt8} (h : getS b = none) : getP b = (zS, 2) := by unfold getP; rw [h]
def GetAns (w : World) (k m v : Int) (M : Mk) (L : List Tr) (er : Int) (e : Ending) (w' : World) : Prop :=
  ∃ A n c, e = .returned (.tuple #[sv k m v M (.slice A n c), .int .i64 er]) ∧ n = L.length ∧ RdT w' A L c ∧ Below w.heap.size w w'

theorem sget_any (A : Option Addr) (b : List UInt8) (n c : Nat) (k m v : Int) (M : Mk) (L : List Tr) (er : Int) (w : World) (hn : n = b.length) (hr : Rd w w.heap.size A b c) (hX : getP b = (⟨k, m, v, M, L⟩, er)) :
    Calls Try.prog 12 #[.slice A n c] w (GetAns w k m v M L er) := by
  cases ho : getS b with
  | none =>
    rw [getP_none ho] at hX
    injection hX with h1 h2
    injection h1 with h3 h4 h5 h6 h7
    subst h2 h3 h4 h5 h6 h7
    refine (get_no A b n c w hn hr ho).mono ?_
    rintro e w' ⟨rfl, hb⟩
    exact ⟨none, 0, 0, rfl, rfl, RdT.nil _, hb⟩
  | some X =>
    rw [getP_some ho] at hX
    injection hX with h1 h2
    subst h1 h2
    exact (get_yes A b n c w _ hn hr ho).mono fun e w' h => h

theorem few_any (A : Option Addr) (n c : Nat) (w : World) (hn : n ≤ c) (hc : c ≤ maxLen) : Calls Try.prog 10 #[.slice A n c] w fun e w' => e = .returned (.slice A (min n 600) c) ∧ w = w' := by
  unfold maxLen at hc
  go_enter Try.func10, Try.ntmps10
  by_cases h : n ≤ 600
  · go_wp2
    go_ret
    exact ⟨ret_slice (by omega), rfl⟩
  · go_wp2
    go_ret
    exact ⟨ret_slice (by omega), rfl⟩

set_option maxHeartbeats 1000000 in
theorem one_any (k m v : Int) (M : Mk) (A : Option Addr) (n c N : Nat) (w : World) (hn : n ≤ c) (hc : c ≤ maxLen) (hN : min n 180 = N) : Calls Try.prog 9 #[sv k m v M (.slice A n c)] w fun e w' => e = .returned (sv k m v M (.slice A N c)) ∧ Below w.heap.size w w' := by
  have HC : Hid (c ≤ maxLen) := hc
  unfold maxLen at hc
  go_enter Try.func9, Try.ntmps9
  go_upto_region 1 with fail
  generalize hV : (w.alloc (.cells (sc k m v M (.slice A n c)).toArray 26)).alloc (.cells (sc 0 0 0 zM (.slice none 0 0)).toArray 26) = V
  obtain ⟨h1, h2, h3, h4⟩ := two_new _ _ _ _ _ _ hV
  obtain ⟨g2, hg2⟩ : ∃ g2, w.heap.size + 1 = g2 := ⟨_, rfl⟩
  obtain ⟨g, hg⟩ : ∃ g, w.heap.size = g := ⟨_, rfl⟩
  rw [hg2] at h2
  rw [hg] at h1
  have HG : Hid (w.heap.size = g ∧ w.heap.size + 1 = g2) := ⟨hg, hg2⟩
  rw [hg2, hg]
  clear hV hg hg2 h4
  have HB := keepd h3
  have H1 := keepd h1
  have H2 := keepd h2
  clear h3
  obtain ⟨a0, a1, a2, a3⟩ := SB.cells h1
  obtain ⟨a4, a5⟩ := SB.facts h1
  by_cases h : n ≤ 180
  · have hNn : N = n := by omega
    subst hNn
    obtain ⟨b4, b5⟩ := SB.facts h2
    clear h1 h2 hN
    have g1 : decide ((N : Int) > 180) = false := decide_eq_false (by omega)
    go_wp2_with fail
    exact bodyPost_ret (results_s Try.results9 _ _ g2 _ _ _ _ _ rfl (SR.row H2.out _)) rfl ⟨rfl, bRow HB.out (by have := HG.out; omega) _⟩
  · have hNn : N = 180 := by omega
    subst hNn
    have g1 : decide ((n : Int) > 180) = true := decide_eq_true (by omega)
    have f35 := SR.frozen h1 35
    have i1 : ¬ (c : Int) < 180 := by omega
    clear h1 h2 hN
    go_upto_region 3 with fail
    generalize hV : V.setCell ⟨g, 35, none⟩ (.slice A 180 c) = V2
    obtain ⟨h1, h2, h3⟩ : SB V2 g k m v M (.slice A 180 c) ∧ SB V2 g2 0 0 0 zM nil_ ∧ Below w.heap.size w V2 := by
      have e := HG.out
      subst hV
      exact ⟨SB.set35 H1.out _, SR.far (p := ⟨g, 35, none⟩) H2.out (by show g2 ≠ g; omega) _, bSet HB.out (by omega) _⟩
    clear hV a0 a1 a2 a3 a4 a5 f35 HB H1 H2
    obtain ⟨a4, a5⟩ := SB.facts h1
    obtain ⟨b4, b5⟩ := SB.facts h2
    have HB := keepd h3
    have H2 := keepd h2
    clear h1 h2 h3
    go_wp2_with fail
    exact bodyPost_ret (results_s Try.results9 _ _ g2 _ _ _ _ _ rfl (SR.row H2.out _)) rfl ⟨rfl, bRow HB.out (by have := HG.out; omega) _⟩

end Go.Proofs.Ytflmplnampgflaa
