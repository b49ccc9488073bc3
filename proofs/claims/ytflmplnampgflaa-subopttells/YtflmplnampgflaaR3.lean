/-
  The contract of the document's own Same. No conditions beyond those each theorem states.
-/
import Derived.Test.YtflmplnampgflaaO5
import Derived.Test.YtflmplnampgflaaS4
namespace Go.Proofs.Ytflmplnampgflaa
open Go.RowKit
set_option maxRecDepth 100000

attribute [local go_sem ↓] ex_ld23 ex_st23 ex_al23 ex_bu23 ex_eq23 ex_ne23 ex_ld26 ex_st26 ex_al26 ex_ld23o ex_st23o ex_bu26 ex_bu26k ex_bu26m ex_bu26l ex_bu26v ex_bu26w ex_eq29 ex_ne29
attribute [local go_sem] ptrB_at okPtr_at aggC_at agg32 agg36 isM_at eqV_m isRow_new isRow_new26 World.setRow_alloc_new ptr3_at okPtr3_at cutM_at putM_at isI_at isL_at bK_at bKM_at bKL_at bKVM_at bKV_at isV_at toV_at

set_option maxHeartbeats 1000000 in
theorem rsame_any (k m v : Int) (M : Mk) (A : Option Addr) (L : List Tr) (n c : Nat) (k' m' v' : Int) (M' : Mk) (A' : Option Addr) (L' : List Tr) (n' c' : Nat) (r : Bool) (w : World)
    (hn : n = L.length) (hn' : n' = L'.length) (h : RdT w A L c) (h' : RdT w A' L' c') (hr : sameS k m v M L k' m' v' M' L' = r) :
    Calls Try.prog 17 #[sv k m v M (.slice A n c), sv k' m' v' M' (.slice A' n' c')] w fun e w' => e = .returned (.bool r) ∧ Below w.heap.size w w' := by
  have HN := keepd hn
  have HN' := keepd hn'
  have H := keepd h
  have H' := keepd h'
  have HR := keepd hr
  clear hn hn' h h' hr
  go_enter Try.func17, Try.ntmps17
  go_upto_region 1 with fail
  generalize hV : (w.alloc (.cells (sc k m v M (.slice A n c)).toArray 26)).alloc (.cells (sc k' m' v' M' (.slice A' n' c')).toArray 26) = V
  obtain ⟨h1, h2, h3, h4⟩ := two_new _ _ _ _ _ _ hV
  obtain ⟨g, hg⟩ : ∃ g, w.heap.size = g := ⟨_, rfl⟩
  rw [hg] at h1
  obtain ⟨g', hg'⟩ : ∃ g', w.heap.size + 1 = g' := ⟨_, rfl⟩
  rw [hg'] at h2
  obtain ⟨a0, a1, a2, a3⟩ := SB.cells h1
  obtain ⟨b0, b1, b2, b3⟩ := SB.cells h2
  obtain ⟨a4, a5⟩ := SB.facts h1
  obtain ⟨b4, b5⟩ := SB.facts h2
  have HB := keepd h3
  have C := keepd (same_any A A' L L' n n' c c' (decide (L = L')) V HN.out HN'.out (H.out.at_ h3) (H'.out.at_ h3) rfl)
  clear H H' h1 h2 h3 h4 hV
  rw [hg', hg]
  clear hg hg'
  cases q1 : (k == k')
  case false =>
    go_wp2_with fail
    go_ret
    exact ⟨by rw [← HR.out]; simp [sameS, q1], HB.out⟩
  cases q2 : (m == m')
  case false =>
    go_wp2_with fail
    go_ret
    exact ⟨by rw [← HR.out]; simp [sameS, q1, q2], HB.out⟩
  cases q3 : (v == v')
  case false =>
    go_wp2_with fail
    go_ret
    exact ⟨by rw [← HR.out]; simp [sameS, q1, q2, q3], HB.out⟩
  cases q4 : decide (M = M')
  case false =>
    go_wp2_with fail
    go_ret
    exact ⟨by rw [← HR.out]; simp [sameS, q1, q2, q3, q4], HB.out⟩
  go_wp2_with fail
  with_reducible refine C.out.mono ?_
  rintro e w2 ⟨rfl, hb⟩
  have HB2 := keepd (HB.out.trans (hb.mono HB.out.size))
  clear hb C
  go_wp2_with fail
  go_ret
  exact ⟨by rw [← HR.out]; simp [sameS, q1, q2, q3, q4], HB2.out⟩

end Go.Proofs.Ytflmplnampgflaa
