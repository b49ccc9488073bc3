/-
  The walk of SuboptKinds. No conditions beyond those each theorem states.
-/
import Derived.Test.YtflmplnampgflaaP3
import Derived.Test.YtflmplnampgflaaO16
namespace Go.Proofs.Ytflmplnampgflaa
open Go.RowKit
set_option maxRecDepth 100000

attribute [local go_sem ↓] ex_ld23 ex_st23 ex_al23 ex_bu23 ex_eq23 ex_ne23 ex_ld26 ex_st26 ex_al26 ex_ld23o ex_st23o ex_bu26 ex_bu26k ex_bu26m ex_bu26l ex_bu26v ex_bu26w ex_eq29 ex_ne29
attribute [local go_sem] ptrB_at okPtr_at aggC_at agg32 agg36 isM_at eqV_m isRow_new isRow_new26 World.setRow_alloc_new ptr3_at okPtr3_at cutM_at putM_at isI_at isL_at bK_at bKM_at bKL_at bKVM_at bKV_at isV_at toV_at

set_option maxHeartbeats 4000000 in
theorem kinds_law (A' : Option Addr) (b : List UInt8) (c' : Nat) (W : World) (hr' : Rd W W.heap.size A' b c') :
    Calls Try.prog 5 #[.slice A' b.length c'] W fun e w' => e = .returned (.bool true) ∧ Below W.heap.size W w' := by
  obtain ⟨n', hn'⟩ : ∃ n', n' = b.length := ⟨_, rfl⟩
  obtain ⟨N', hN'⟩ : ∃ N', min n' 600 = N' := ⟨_, rfl⟩
  obtain ⟨B', hB'⟩ : ∃ B', b.take 600 = B' := ⟨_, rfl⟩
  have HN' := keepd hn'
  have HMM := keepd hN'
  have HBB := keepd hB'
  have H' := keepd hr'
  have HBen : Hid (N' = B'.length ∧ N' ≤ 600) := ⟨by rw [← hB', List.length_take, ← hN', hn']; omega, by omega⟩
  rw [← hn']
  clear hr' hn' hN' hB'
  have C2 := keepd fun w : World => few_any A' n' c' w (by have := H'.out.1; rw [← HN'.out] at this; exact this) H'.out.2.1
  go_enter Try.func5, Try.ntmps5
  go_wp2_with fail
  with_reducible refine (C2.out _).mono ?_
  rintro e w4 ⟨rfl, rfl⟩
  rw [HMM.out]
  have HRB4 := keepd (H'.out.take 600)
  rw [HBB.out] at HRB4
  clear C2
  cases ho : getS B' with
  | none =>
    have CG := keepd (sget_any A' B' N' c' 0 0 0 zM [] 2 W HBen.out.1 HRB4.out (getP_none ho))
    go_wp2_with fail
    with_reducible refine CG.out.mono ?_
    rintro e w5 ⟨Ag, ng, cg, rfl, hng, hrg, hb5⟩
    have HB5 := keepd hb5
    have HRB5 := keepd (HRB4.out.at_ hb5)
    have HNg := keepd hng
    have HRg := keepd hrg
    clear hng hrg hb5 HRB4 CG
    go_upto_region 3 with fail
    generalize hV : w5.alloc (.cells (sc 0 0 0 zM (.slice Ag ng cg)).toArray 26) = V5
    obtain ⟨h1, h2, h3⟩ := one_new _ _ _ _ hV
    obtain ⟨g5, hg5⟩ : ∃ g, w5.heap.size = g := ⟨_, rfl⟩
    rw [hg5] at h1 ⊢
    have HR5 := keepd (HRg.out.at_ h2)
    have HRBV := keepd (HRB5.out.at_ h2)
    have HBV := keepd (bCall HB5.out h2)
    have HS5 := keepd h1
    obtain ⟨a0, a1, a2, a3⟩ := SB.cells h1
    obtain ⟨a4, a5⟩ := SB.facts h1
    clear hV hg5 h1 h2 h3 HRg HB5 HRB5
    clear ho
    go_wp2_with fail
    with_reducible refine (awake_any _).mono ?_
    rintro e w7 ⟨rfl, hb7⟩
    have HB7 := keepd (bCall HBV.out hb7)
    clear hb7
    go_wp2_with fail
    go_ret
    exact ⟨rfl, HB7.out⟩
  | some X =>
    have hs := get_shape ho
    have hlen := shape_len hs
    have hNB := HBen.out.1
    rcases hs with ⟨u, hb, rfl, hu⟩ | ⟨f, t, hb, rfl, h1, h2, h3, h4⟩ | ⟨r, L, hb, rfl, h1, h2⟩
    · have hN2 : N' = 2 := by rw [hNB, hb]; rfl
      have q1 : ((N' : Int) == 2) = true := by rw [hN2]; rfl
      have Hb := keepd hb
      have HN2 := keepd hN2
      have q2 : decide ((N' : Int) > 0) = true := decide_eq_true (by omega)
      have q3 : decide (N' > 0) = true := decide_eq_true (by omega)
      have i0 : (0 : Int) < (N' : Int) := by omega
      have q4 : decide ((N' : Int) ≤ 512) = true := decide_eq_true (by omega)
      have q5 : decide (N' ≤ 512) = true := decide_eq_true (by omega)
      clear hNB hN2 hb hlen
      have CG := keepd (sget_any A' B' N' c' 1 (u.toNat : Int) 0 zM [] 0 W HBen.out.1 HRB4.out (getP_some ho))
      go_wp2_with fail
      with_reducible refine CG.out.mono ?_
      rintro e w5 ⟨Ag, ng, cg, rfl, hng, hrg, hb5⟩
      have HB5 := keepd hb5
      have HRB5 := keepd (HRB4.out.at_ hb5)
      have HNg := keepd hng
      have HRg := keepd hrg
      clear hng hrg hb5 HRB4 CG
      go_upto_region 5 with fail
      generalize hV : w5.alloc (.cells (sc 1 (u.toNat : Int) 0 zM (.slice Ag ng cg)).toArray 26) = V5
      obtain ⟨h1, h2, h3⟩ := one_new _ _ _ _ hV
      obtain ⟨g5, hg5⟩ : ∃ g, w5.heap.size = g := ⟨_, rfl⟩
      rw [hg5] at h1 ⊢
      have HR5 := keepd (HRg.out.at_ h2)
      have HRBV := keepd (HRB5.out.at_ h2)
      have HBV := keepd (bCall HB5.out h2)
      have HS5 := keepd h1
      obtain ⟨a0, a1, a2, a3⟩ := SB.cells h1
      obtain ⟨a4, a5⟩ := SB.facts h1
      clear hV hg5 h1 h2 h3 HRg HB5 HRB5
      obtain ⟨ga, oa, hA', hga, ra0⟩ := HRBV.out.form (k := 0) (by rw [Hb.out]; simp)
      have hx0 : B'[0]'(by rw [Hb.out]; simp) = 1 := by simp only [Hb.out]; rfl
      rw [hx0] at ra0
      have ca0 : V5.cell? ⟨ga, oa, none⟩ = some (.int .u8 1) := ra0
      clear hga ra0 hx0
      subst hA'
      clear ho hu
      go_wp2_with fail
      with_reducible refine (awake_any _).mono ?_
      rintro e w7 ⟨rfl, hb7⟩
      have HB7 := keepd (bCall HBV.out hb7)
      clear hb7
      go_wp2_with fail
      go_ret
      exact ⟨rfl, HB7.out⟩
    · have hN2 : N' = t.length + 2 := by rw [hNB, hb]; rfl
      have q1 : decide ((N' : Int) ≥ 2) = true := decide_eq_true (by omega)
      have q1' : decide (N' ≥ 2) = true := decide_eq_true (by omega)
      have i1 : (1 : Int) < (N' : Int) := by omega
      have Hb := keepd hb
      have HN2 := keepd hN2
      have q2 : decide ((N' : Int) > 0) = true := decide_eq_true (by omega)
      have q3 : decide (N' > 0) = true := decide_eq_true (by omega)
      have i0 : (0 : Int) < (N' : Int) := by omega
      have q4 : decide ((N' : Int) ≤ 512) = true := decide_eq_true (by omega)
      have q5 : decide (N' ≤ 512) = true := decide_eq_true (by omega)
      clear hNB hN2 hb hlen
      obtain ⟨z, hz⟩ : ∃ z : Int, (f.toNat : Int) = z := ⟨_, rfl⟩
      have e1 : ¬ z = 1 := by omega
      have e3 : ¬ z = 3 := by omega
      have p1 : (z == 1) = false := by simpa using e1
      have p3 : (z == 3) = false := by simpa using e3
      have p4 : decide (z ≥ 251) = true := decide_eq_true (by omega)
      have p5 : decide (z ≤ 254) = true := decide_eq_true (by omega)
      have hX : getP B' = (⟨2, 0, z, padM t, []⟩, 0) := by rw [← hz]; exact getP_some ho
      obtain ⟨MM, hMM⟩ : ∃ M, padM t = M := ⟨_, rfl⟩
      rw [hMM] at hX
      have HZ := keepd hz
      clear hMM
      have hdo : z = 253 ∨ N' = 2 := by
        rcases h3 with h3 | h3
        · left; omega
        · right; rw [HN2.out, h3]; rfl
      clear hz
      have CG := keepd (sget_any A' B' N' c' 2 0 z MM [] 0 W HBen.out.1 HRB4.out (hX))
      go_wp2_with fail
      with_reducible refine CG.out.mono ?_
      rintro e w5 ⟨Ag, ng, cg, rfl, hng, hrg, hb5⟩
      have HB5 := keepd hb5
      have HRB5 := keepd (HRB4.out.at_ hb5)
      have HNg := keepd hng
      have HRg := keepd hrg
      clear hng hrg hb5 HRB4 CG
      go_upto_region 5 with fail
      generalize hV : w5.alloc (.cells (sc 2 0 z MM (.slice Ag ng cg)).toArray 26) = V5
      obtain ⟨h1, h2, h3⟩ := one_new _ _ _ _ hV
      obtain ⟨g5, hg5⟩ : ∃ g, w5.heap.size = g := ⟨_, rfl⟩
      rw [hg5] at h1 ⊢
      have HR5 := keepd (HRg.out.at_ h2)
      have HRBV := keepd (HRB5.out.at_ h2)
      have HBV := keepd (bCall HB5.out h2)
      have HS5 := keepd h1
      obtain ⟨a0, a1, a2, a3⟩ := SB.cells h1
      obtain ⟨a4, a5⟩ := SB.facts h1
      clear hV hg5 h1 h2 h3 HRg HB5 HRB5
      obtain ⟨ga, oa, hA', hga, ra0⟩ := HRBV.out.form (k := 0) (by rw [Hb.out]; simp)
      have hx0 : B'[0]'(by rw [Hb.out]; simp) = f := by simp only [Hb.out]; rfl
      rw [hx0, HZ.out] at ra0
      have ca0 : V5.cell? ⟨ga, oa, none⟩ = some (.int .u8 z) := ra0
      obtain ⟨ga', oa', hA2, hga', ra1⟩ := HRBV.out.form (k := 1) (by rw [Hb.out]; simp)
      have hx1 : B'[1]'(by rw [Hb.out]; simp) = 2 := by simp only [Hb.out]; rfl
      rw [hx1] at ra1
      obtain ⟨rfl, rfl⟩ : ga = ga' ∧ oa = oa' := by
        rw [hA'] at hA2
        injection hA2 with hA2
        injection hA2 with e1 e2
        exact ⟨e1, e2⟩
      have ca1 : V5.cell? ⟨ga, oa + 1, none⟩ = some (.int .u8 2) := ra1
      clear hga ra0 hx0 hga' ra1 hx1 hA2
      subst hA'
      clear ho h1 h2 h3 h4 hX e1 e3
      rcases hdo with rfl | hdo
      · go_wp2_with fail
        with_reducible refine (awake_any _).mono ?_
        rintro e w7 ⟨rfl, hb7⟩
        have HB7 := keepd (bCall HBV.out hb7)
        clear hb7
        go_wp2_with fail
        go_ret
        exact ⟨rfl, HB7.out⟩
      · have q6 : ((N' : Int) == 2) = true := by rw [hdo]; rfl
        cases hq : (z == 253)
        · clear hdo
          go_wp2_with fail
          with_reducible refine (awake_any _).mono ?_
          rintro e w7 ⟨rfl, hb7⟩
          have HB7 := keepd (bCall HBV.out hb7)
          clear hb7
          go_wp2_with fail
          go_ret
          exact ⟨rfl, HB7.out⟩
        · clear hdo
          go_wp2_with fail
          with_reducible refine (awake_any _).mono ?_
          rintro e w7 ⟨rfl, hb7⟩
          have HB7 := keepd (bCall HBV.out hb7)
          clear hb7
          go_wp2_with fail
          go_ret
          exact ⟨rfl, HB7.out⟩
    · have hN2 : N' = r.length + 1 := by rw [hNB, hb]; rfl
      have Hb := keepd hb
      have HN2 := keepd hN2
      have q2 : decide ((N' : Int) > 0) = true := decide_eq_true (by omega)
      have q3 : decide (N' > 0) = true := decide_eq_true (by omega)
      have i0 : (0 : Int) < (N' : Int) := by omega
      have q4 : decide ((N' : Int) ≤ 512) = true := decide_eq_true (by omega)
      have q5 : decide (N' ≤ 512) = true := decide_eq_true (by omega)
      clear hNB hN2 hb hlen
      have CG := keepd (sget_any A' B' N' c' 3 0 0 zM L 0 W HBen.out.1 HRB4.out (getP_some ho))
      go_wp2_with fail
      with_reducible refine CG.out.mono ?_
      rintro e w5 ⟨Ag, ng, cg, rfl, hng, hrg, hb5⟩
      have HB5 := keepd hb5
      have HRB5 := keepd (HRB4.out.at_ hb5)
      have HNg := keepd hng
      have HRg := keepd hrg
      clear hng hrg hb5 HRB4 CG
      go_upto_region 5 with fail
      generalize hV : w5.alloc (.cells (sc 3 0 0 zM (.slice Ag ng cg)).toArray 26) = V5
      obtain ⟨h1, h2, h3⟩ := one_new _ _ _ _ hV
      obtain ⟨g5, hg5⟩ : ∃ g, w5.heap.size = g := ⟨_, rfl⟩
      rw [hg5] at h1 ⊢
      have HR5 := keepd (HRg.out.at_ h2)
      have HRBV := keepd (HRB5.out.at_ h2)
      have HBV := keepd (bCall HB5.out h2)
      have HS5 := keepd h1
      obtain ⟨a0, a1, a2, a3⟩ := SB.cells h1
      obtain ⟨a4, a5⟩ := SB.facts h1
      clear hV hg5 h1 h2 h3 HRg HB5 HRB5
      obtain ⟨ga, oa, hA', hga, ra0⟩ := HRBV.out.form (k := 0) (by rw [Hb.out]; simp)
      have hx0 : B'[0]'(by rw [Hb.out]; simp) = 3 := by simp only [Hb.out]; rfl
      rw [hx0] at ra0
      have ca0 : V5.cell? ⟨ga, oa, none⟩ = some (.int .u8 3) := ra0
      clear hga ra0 hx0
      subst hA'
      clear ho h1 h2
      go_wp2_with fail
      with_reducible refine (awake_any _).mono ?_
      rintro e w7 ⟨rfl, hb7⟩
      have HB7 := keepd (bCall HBV.out hb7)
      clear hb7
      go_wp2_with fail
      go_ret
      exact ⟨rfl, HB7.out⟩

end Go.Proofs.Ytflmplnampgflaa
