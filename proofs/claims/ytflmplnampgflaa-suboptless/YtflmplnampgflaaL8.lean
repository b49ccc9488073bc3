/-
  The walk of SuboptLess. No conditions beyond those each theorem states.
-/
import Derived.Test.YtflmplnampgflaaP4
import Derived.Test.YtflmplnampgflaaO16
namespace Go.Proofs.Ytflmplnampgflaa
open Go.RowKit
set_option maxRecDepth 100000

attribute [local go_sem ↓] ex_ld23 ex_st23 ex_al23 ex_bu23 ex_eq23 ex_ne23 ex_ld26 ex_st26 ex_al26 ex_ld23o ex_st23o ex_bu26 ex_bu26k ex_bu26m ex_bu26l ex_bu26v ex_bu26w ex_eq29 ex_ne29
attribute [local go_sem] ptrB_at okPtr_at aggC_at agg32 agg36 isM_at eqV_m isRow_new isRow_new26 World.setRow_alloc_new ptr3_at okPtr3_at cutM_at putM_at isI_at isL_at bK_at bKM_at bKL_at bKVM_at bKV_at isV_at toV_at

set_option maxHeartbeats 4000000 in
theorem less_law (A' : Option Addr) (b : List UInt8) (c' : Nat) (x : UInt8) (W : World) (hr' : Rd W W.heap.size A' b c') :
    Calls Try.prog 7 #[.slice A' b.length c', .int .u8 (x.toNat : Int)] W fun e w' => e = .returned (.bool true) ∧ Below W.heap.size W w' := by
  obtain ⟨n', hn'⟩ : ∃ n', n' = b.length := ⟨_, rfl⟩
  obtain ⟨N', hN'⟩ : ∃ N', min n' 600 = N' := ⟨_, rfl⟩
  obtain ⟨B', hB'⟩ : ∃ B', b.take 600 = B' := ⟨_, rfl⟩
  have HN' := keepd hn'
  have HMM := keepd hN'
  have HBB := keepd hB'
  have H' := keepd hr'
  have HBen : Hid (N' = B'.length ∧ N' ≤ 600) := ⟨by rw [← hB', List.length_take, ← hN', hn']; omega, by omega⟩
  rw [← hn']
  clear hr' hn' hN' hB'
  have C2 := keepd fun w : World => few_any A' n' c' w (by have := H'.out.1; rw [← HN'.out] at this; exact this) H'.out.2.1
  go_enter Try.func7, Try.ntmps7
  go_wp2_with fail
  with_reducible refine (C2.out _).mono ?_
  rintro e w4 ⟨rfl, rfl⟩
  rw [HMM.out]
  have HRB4 := keepd (H'.out.take 600)
  rw [HBB.out] at HRB4
  clear C2
  cases ho : getS B' with
  | none =>
    have CG := keepd (sget_any A' B' N' c' 0 0 0 zM [] 2 W HBen.out.1 HRB4.out (getP_none ho))
    go_wp2_with fail
    with_reducible refine CG.out.mono ?_
    rintro e w5 ⟨Ag, ng, cg, rfl, hng, hrg, hb5⟩
    have HB5 := keepd hb5
    have HRB5 := keepd (HRB4.out.at_ hb5)
    have HNg := keepd hng
    have HRg := keepd hrg
    clear hng hrg hb5 HRB4 CG
    go_upto_region 3 with fail
    generalize hV : w5.alloc (.cells (sc 0 0 0 zM (.slice Ag ng cg)).toArray 26) = V5
    obtain ⟨h1, h2, h3⟩ := one_new _ _ _ _ hV
    obtain ⟨g5, hg5⟩ : ∃ g, w5.heap.size = g := ⟨_, rfl⟩
    rw [hg5] at h1 ⊢
    have HR5 := keepd (HRg.out.at_ h2)
    have HRBV := keepd (HRB5.out.at_ h2)
    have HBV := keepd (bCall HB5.out h2)
    have HS5 := keepd h1
    obtain ⟨a0, a1, a2, a3⟩ := SB.cells h1
    obtain ⟨a4, a5⟩ := SB.facts h1
    clear hV hg5 h1 h2 h3 HRg HB5 HRB5
    clear ho
    go_wp2_with fail
    with_reducible refine (awake_any _).mono ?_
    rintro e w7 ⟨rfl, hb7⟩
    have HB7 := keepd (bCall HBV.out hb7)
    clear hb7
    go_wp2_with fail
    go_ret
    exact ⟨rfl, HB7.out⟩
  | some X =>
    have hs := get_shape ho
    have hNB := HBen.out.1
    rcases hs with ⟨u, hb, rfl, hu⟩ | ⟨f, t, hb, rfl, h1, h2, h3, h4⟩ | ⟨r, L, hb, rfl, h1, h2⟩
    · have Hb := keepd hb
      have HM : Hid (getS (B' ++ [x]) = none) := by
        show _ = _
        rw [hb]
        exact more_1 u x
      clear hb hNB
      have CG := keepd (sget_any A' B' N' c' 1 (u.toNat : Int) 0 zM [] 0 W HBen.out.1 HRB4.out (getP_some ho))
      go_wp2_with fail
      with_reducible refine CG.out.mono ?_
      rintro e w5 ⟨Ag, ng, cg, rfl, hng, hrg, hb5⟩
      have HB5 := keepd hb5
      have HRB5 := keepd (HRB4.out.at_ hb5)
      have HNg := keepd hng
      have HRg := keepd hrg
      clear hng hrg hb5 HRB4 CG
      go_upto_region 3 with fail
      generalize hV : w5.alloc (.cells (sc 1 (u.toNat : Int) 0 zM (.slice Ag ng cg)).toArray 26) = V5
      obtain ⟨h1, h2, h3⟩ := one_new _ _ _ _ hV
      obtain ⟨g5, hg5⟩ : ∃ g, w5.heap.size = g := ⟨_, rfl⟩
      rw [hg5] at h1 ⊢
      have HR5 := keepd (HRg.out.at_ h2)
      have HRBV := keepd (HRB5.out.at_ h2)
      have HBV := keepd (bCall HB5.out h2)
      have HS5 := keepd h1
      obtain ⟨a0, a1, a2, a3⟩ := SB.cells h1
      obtain ⟨a4, a5⟩ := SB.facts h1
      clear hV hg5 h1 h2 h3 HRg HB5 HRB5
      clear ho hu
      have HOe := keepd (empty_own V5 V5.heap.size (Nat.le_refl _))
      have HB0 := keepd (bAlloc (Below.refl V5.heap.size V5) (.cells #[] 5))
      have HRe := keepd (HRBV.out.at_ HB0.out)
      go_wp2_with (at_builtin; refine wpList_app _ rfl (.tmp 24) (.tmp 25) rfl V5.heap.size _ [] rfl HOe.out _ A' N' c' B' rfl HBen.out.1 HRe.out ?_ HB0.out.size ?_)
      · have := HBen.out
        simp only [List.length_nil]
        omega
      intro va wa ho hg hat
      have HBa := keepd (HB0.out.trans (grown_below HOe.out hg HB0.out.size))
      have HOa := keepd ho
      clear ho hg hat HOe HB0 HRe
      have HOn := keepd (HOa.out.alloc (.cells #[.int .u8 (x.toNat : Int)] 5))
      have HBn := keepd (bAlloc HBa.out (.cells #[.int .u8 (x.toNat : Int)] 5))
      have HRx := keepd (one_rdb wa x)
      go_wp2_with (at_builtin; refine wpList_app _ rfl (.tmp 26) (.tmp 28) rfl V5.heap.size _ B' rfl HOn.out _ (some ⟨wa.heap.size, 0, none⟩) 1 1 [x] rfl rfl HRx.out ?_ HBn.out.size ?_)
      · have := HBen.out
        simp only [List.length_cons, List.length_nil]
        omega
      intro vb wb ho hg hat
      have hbb := HBn.out.trans (grown_below HOn.out hg HBn.out.size)
      obtain ⟨Bv, dv, rfl, hr⟩ := ho.rd
      have HRb := keepd hr
      have HBb := keepd (bCall HBV.out hbb)
      have HSb := keepd (SR.call HS5.out hbb HS5.out.lt)
      have HRBb := keepd (HRBV.out.at_ hbb)
      have HRTb := keepd (HR5.out.at_ hbb)
      clear ho hg hat hbb hr HOn HBn HRx HOa HBa HBV HS5 HRBV HR5 a0 a1 a2 a3 a4 a5
      obtain ⟨BX, hBX⟩ : ∃ l, B' ++ [x] = l := ⟨_, rfl⟩
      have hgx : getP BX = (⟨0, 0, 0, zM, []⟩, 2) := by rw [← hBX]; exact getP_none HM.out
      rw [hBX] at HRb ⊢
      obtain ⟨nx, hnx⟩ : ∃ n, BX.length = n := ⟨_, rfl⟩
      rw [hnx]
      have CM := keepd (sget_any Bv BX nx dv 0 0 0 zM [] 2 wb hnx.symm HRb.out hgx)
      clear hBX hgx hnx HRb
      go_wp2_with fail
      with_reducible refine CM.out.mono ?_
      rintro e w8 ⟨Am, nm, cm, rfl, hnm, hrm, hb8⟩
      have HB8 := keepd (bCall HBb.out hb8)
      have HS8 := keepd (SR.call HSb.out hb8 HSb.out.lt)
      have HRB8 := keepd (HRBb.out.at_ hb8)
      have HRT8 := keepd (HRTb.out.at_ hb8)
      clear hnm hrm hb8 CM HBb HSb HRBb HRTb
      go_upto_region 6 with fail
      generalize hV : w8.alloc (.cells (sc 0 0 0 zM (.slice Am nm cm)).toArray 26) = V8
      have hab := bAlloc (Below.refl w8.heap.size w8) (.cells (sc 0 0 0 zM (.slice Am nm cm)).toArray 26)
      rw [hV] at hab
      obtain ⟨g8, hg8⟩ : ∃ g, w8.heap.size = g := ⟨_, rfl⟩
      have HBV := keepd (bCall HB8.out hab)
      have HS5 := keepd (SR.call HS8.out hab HS8.out.lt)
      have HRBV := keepd (HRB8.out.at_ hab)
      have HR5 := keepd (HRT8.out.at_ hab)
      rw [hg8]
      clear hab hV hg8 HB8 HS8 HRB8 HRT8
      obtain ⟨a0, a1, a2, a3⟩ := SB.cells HS5.out
      obtain ⟨a4, a5⟩ := SB.facts HS5.out
      go_wp2_with fail
      with_reducible refine (awake_any _).mono ?_
      rintro e w7 ⟨rfl, hb7⟩
      have HB7 := keepd (bCall HBV.out hb7)
      clear hb7
      go_wp2_with fail
      go_ret
      exact ⟨rfl, HB7.out⟩
    · have hN2 : N' = t.length + 2 := by rw [hNB, hb]; rfl
      have Hb := keepd hb
      have HN2 := keepd hN2
      obtain ⟨z, hz⟩ : ∃ z : Int, (f.toNat : Int) = z := ⟨_, rfl⟩
      have HZ := keepd hz
      have hX : getP B' = (⟨2, 0, z, padM t, []⟩, 0) := by rw [← hz]; exact getP_some ho
      have HL2 : Hid (getP (B'.take 2) = (⟨2, 0, z, zM, []⟩, 0)) := by
        show _ = _
        rw [hb, ← hz]
        exact getP_some (less_2 h1 h2)
      obtain ⟨MM, hMM⟩ : ∃ M, padM t = M := ⟨_, rfl⟩
      rw [hMM] at hX
      have hm2 : N' < 34 ∧ z = 253 ∨ ¬ N' < 34 ∧ z = 253 ∨ z ≠ 253 := by omega
      have hMy : N' < 34 ∧ z = 253 → getP (B' ++ [x]) = (⟨2, 0, z, padM (t ++ [x]), []⟩, 0) := fun h => by
        rw [hb, ← hz]
        exact getP_some (more_2y (by omega) (by omega) x)
      have hMn : ¬ (N' < 34 ∧ z = 253) → getP (B' ++ [x]) = (⟨0, 0, 0, zM, []⟩, 2) := fun h => by
        rw [hb]
        exact getP_none (more_2n h1 h2 (by omega) x)
      have HMy := keepd hMy
      have HMn := keepd hMn
      have i2 : ¬ (c' : Int) < 2 := by
        have := HRB4.out.1
        rw [← HBen.out.1] at this
        omega
      have q1 : decide ((N' : Int) < 2) = false := decide_eq_false (by omega)
      have q2 : decide (N' < 2) = false := decide_eq_false (by omega)
      clear hb hNB hN2 hz hMM h1 h2 h3 h4 hMy hMn ho
      rcases hm2 with ⟨h5, rfl⟩ | ⟨h5, rfl⟩ | h5
      · have q3 : decide ((N' : Int) < 34) = true := decide_eq_true (by omega)
        have q4 : decide (N' < 34) = true := decide_eq_true (by omega)
        have HMM2 := keepd (HMy.out ⟨h5, rfl⟩)
        obtain ⟨MP, hMP⟩ : ∃ M, padM (t ++ [x]) = M := ⟨_, rfl⟩
        rw [hMP] at HMM2
        clear hMP h5
        have CG := keepd (sget_any A' B' N' c' 2 0 253 MM [] 0 W HBen.out.1 HRB4.out (hX))
        go_wp2_with fail
        with_reducible refine CG.out.mono ?_
        rintro e w5 ⟨Ag, ng, cg, rfl, hng, hrg, hb5⟩
        have HB5 := keepd hb5
        have HRB5 := keepd (HRB4.out.at_ hb5)
        have HNg := keepd hng
        have HRg := keepd hrg
        clear hng hrg hb5 HRB4 CG
        go_upto_region 3 with fail
        generalize hV : w5.alloc (.cells (sc 2 0 253 MM (.slice Ag ng cg)).toArray 26) = V5
        obtain ⟨h1, h2, h3⟩ := one_new _ _ _ _ hV
        obtain ⟨g5, hg5⟩ : ∃ g, w5.heap.size = g := ⟨_, rfl⟩
        rw [hg5] at h1 ⊢
        have HR5 := keepd (HRg.out.at_ h2)
        have HRBV := keepd (HRB5.out.at_ h2)
        have HBV := keepd (bCall HB5.out h2)
        have HS5 := keepd h1
        obtain ⟨a0, a1, a2, a3⟩ := SB.cells h1
        obtain ⟨a4, a5⟩ := SB.facts h1
        clear hV hg5 h1 h2 h3 HRg HB5 HRB5
        clear hX
        have HOe := keepd (empty_own V5 V5.heap.size (Nat.le_refl _))
        have HB0 := keepd (bAlloc (Below.refl V5.heap.size V5) (.cells #[] 5))
        have HRe := keepd (HRBV.out.at_ HB0.out)
        go_wp2_with (at_builtin; refine wpList_app _ rfl (.tmp 24) (.tmp 25) rfl V5.heap.size _ [] rfl HOe.out _ A' N' c' B' rfl HBen.out.1 HRe.out ?_ HB0.out.size ?_)
        · have := HBen.out
          simp only [List.length_nil]
          omega
        intro va wa ho hg hat
        have HBa := keepd (HB0.out.trans (grown_below HOe.out hg HB0.out.size))
        have HOa := keepd ho
        clear ho hg hat HOe HB0 HRe
        have HOn := keepd (HOa.out.alloc (.cells #[.int .u8 (x.toNat : Int)] 5))
        have HBn := keepd (bAlloc HBa.out (.cells #[.int .u8 (x.toNat : Int)] 5))
        have HRx := keepd (one_rdb wa x)
        go_wp2_with (at_builtin; refine wpList_app _ rfl (.tmp 26) (.tmp 28) rfl V5.heap.size _ B' rfl HOn.out _ (some ⟨wa.heap.size, 0, none⟩) 1 1 [x] rfl rfl HRx.out ?_ HBn.out.size ?_)
        · have := HBen.out
          simp only [List.length_cons, List.length_nil]
          omega
        intro vb wb ho hg hat
        have hbb := HBn.out.trans (grown_below HOn.out hg HBn.out.size)
        obtain ⟨Bv, dv, rfl, hr⟩ := ho.rd
        have HRb := keepd hr
        have HBb := keepd (bCall HBV.out hbb)
        have HSb := keepd (SR.call HS5.out hbb HS5.out.lt)
        have HRBb := keepd (HRBV.out.at_ hbb)
        have HRTb := keepd (HR5.out.at_ hbb)
        clear ho hg hat hbb hr HOn HBn HRx HOa HBa HBV HS5 HRBV HR5 a0 a1 a2 a3 a4 a5
        obtain ⟨BX, hBX⟩ : ∃ l, B' ++ [x] = l := ⟨_, rfl⟩
        have hgx : getP BX = (⟨2, 0, 253, MP, []⟩, 0) := by rw [← hBX]; exact HMM2.out
        rw [hBX] at HRb ⊢
        obtain ⟨nx, hnx⟩ : ∃ n, BX.length = n := ⟨_, rfl⟩
        rw [hnx]
        have CM := keepd (sget_any Bv BX nx dv 2 0 253 MP [] 0 wb hnx.symm HRb.out hgx)
        clear hBX hgx hnx HRb
        go_wp2_with fail
        with_reducible refine CM.out.mono ?_
        rintro e w8 ⟨Am, nm, cm, rfl, hnm, hrm, hb8⟩
        have HB8 := keepd (bCall HBb.out hb8)
        have HS8 := keepd (SR.call HSb.out hb8 HSb.out.lt)
        have HRB8 := keepd (HRBb.out.at_ hb8)
        have HRT8 := keepd (HRTb.out.at_ hb8)
        clear hnm hrm hb8 CM HBb HSb HRBb HRTb
        go_upto_region 6 with fail
        generalize hV : w8.alloc (.cells (sc 2 0 253 MP (.slice Am nm cm)).toArray 26) = V8
        have hab := bAlloc (Below.refl w8.heap.size w8) (.cells (sc 2 0 253 MP (.slice Am nm cm)).toArray 26)
        rw [hV] at hab
        obtain ⟨g8, hg8⟩ : ∃ g, w8.heap.size = g := ⟨_, rfl⟩
        have HBV := keepd (bCall HB8.out hab)
        have HS5 := keepd (SR.call HS8.out hab HS8.out.lt)
        have HRBV := keepd (HRB8.out.at_ hab)
        have HR5 := keepd (HRT8.out.at_ hab)
        rw [hg8]
        clear hab hV hg8 HB8 HS8 HRB8 HRT8
        obtain ⟨a0, a1, a2, a3⟩ := SB.cells HS5.out
        obtain ⟨a4, a5⟩ := SB.facts HS5.out
        obtain ⟨T, hT⟩ : ∃ T, B'.take 2 = T := ⟨_, rfl⟩
        have hTl : T.length = 2 := by
          rw [← hT, List.length_take, ← HBen.out.1]
          have := HN2.out
          omega
        have hTr := HRBV.out.take 2
        have hTg := HL2.out
        rw [hT] at hTr hTg
        have C3 := keepd (sget_any A' T 2 c' 2 0 253 zM [] 0 V8 hTl.symm hTr hTg)
        clear hT hTl hTr hTg
        go_wp2_with fail
        with_reducible refine C3.out.mono ?_
        rintro e w9 ⟨Ar, nr, cr, rfl, hnr, hrr, hb9⟩
        have HB9 := keepd (bCall HBV.out hb9)
        have HS9 := keepd (SR.call HS5.out hb9 HS5.out.lt)
        clear hnr hrr hb9 C3 HBV HS5 HRBV HR5 a0 a1 a2 a3 a4 a5
        go_upto_region 21 with fail
        generalize hV : w9.alloc (.cells (sc 2 0 253 zM (.slice Ar nr cr)).toArray 26) = V9
        obtain ⟨k1, k2, k3⟩ := one_new _ _ _ _ hV
        obtain ⟨g9, hg9⟩ : ∃ g, w9.heap.size = g := ⟨_, rfl⟩
        rw [hg9] at k1 ⊢
        have HBV := keepd (bCall HB9.out k2)
        have k4 : SB V9 g5 2 0 253 MM (.slice Ag ng cg) := SR.call HS9.out k2 HS9.out.lt
        obtain ⟨a0, a1, a2, a3⟩ := SB.cells k4
        obtain ⟨b0, b1, b2, b3⟩ := SB.cells k1
        obtain ⟨b4, b5⟩ := SB.facts k1
        clear hV hg9 k1 k2 k3 k4 HB9 HS9
        go_wp2_with fail
        with_reducible refine (awake_any _).mono ?_
        rintro e w7 ⟨rfl, hb7⟩
        have HB7 := keepd (bCall HBV.out hb7)
        clear hb7
        go_wp2_with fail
        go_ret
        exact ⟨rfl, HB7.out⟩
      · have q3 : decide ((N' : Int) < 34) = false := decide_eq_false (by omega)
        have q4 : decide (N' < 34) = false := decide_eq_false (by omega)
        have HMM2 := keepd (HMn.out (fun h => h5 h.1))
        clear h5
        have CG := keepd (sget_any A' B' N' c' 2 0 253 MM [] 0 W HBen.out.1 HRB4.out (hX))
        go_wp2_with fail
        with_reducible refine CG.out.mono ?_
        rintro e w5 ⟨Ag, ng, cg, rfl, hng, hrg, hb5⟩
        have HB5 := keepd hb5
        have HRB5 := keepd (HRB4.out.at_ hb5)
        have HNg := keepd hng
        have HRg := keepd hrg
        clear hng hrg hb5 HRB4 CG
        go_upto_region 3 with fail
        generalize hV : w5.alloc (.cells (sc 2 0 253 MM (.slice Ag ng cg)).toArray 26) = V5
        obtain ⟨h1, h2, h3⟩ := one_new _ _ _ _ hV
        obtain ⟨g5, hg5⟩ : ∃ g, w5.heap.size = g := ⟨_, rfl⟩
        rw [hg5] at h1 ⊢
        have HR5 := keepd (HRg.out.at_ h2)
        have HRBV := keepd (HRB5.out.at_ h2)
        have HBV := keepd (bCall HB5.out h2)
        have HS5 := keepd h1
        obtain ⟨a0, a1, a2, a3⟩ := SB.cells h1
        obtain ⟨a4, a5⟩ := SB.facts h1
        clear hV hg5 h1 h2 h3 HRg HB5 HRB5
        clear hX
        have HOe := keepd (empty_own V5 V5.heap.size (Nat.le_refl _))
        have HB0 := keepd (bAlloc (Below.refl V5.heap.size V5) (.cells #[] 5))
        have HRe := keepd (HRBV.out.at_ HB0.out)
        go_wp2_with (at_builtin; refine wpList_app _ rfl (.tmp 24) (.tmp 25) rfl V5.heap.size _ [] rfl HOe.out _ A' N' c' B' rfl HBen.out.1 HRe.out ?_ HB0.out.size ?_)
        · have := HBen.out
          simp only [List.length_nil]
          omega
        intro va wa ho hg hat
        have HBa := keepd (HB0.out.trans (grown_below HOe.out hg HB0.out.size))
        have HOa := keepd ho
        clear ho hg hat HOe HB0 HRe
        have HOn := keepd (HOa.out.alloc (.cells #[.int .u8 (x.toNat : Int)] 5))
        have HBn := keepd (bAlloc HBa.out (.cells #[.int .u8 (x.toNat : Int)] 5))
        have HRx := keepd (one_rdb wa x)
        go_wp2_with (at_builtin; refine wpList_app _ rfl (.tmp 26) (.tmp 28) rfl V5.heap.size _ B' rfl HOn.out _ (some ⟨wa.heap.size, 0, none⟩) 1 1 [x] rfl rfl HRx.out ?_ HBn.out.size ?_)
        · have := HBen.out
          simp only [List.length_cons, List.length_nil]
          omega
        intro vb wb ho hg hat
        have hbb := HBn.out.trans (grown_below HOn.out hg HBn.out.size)
        obtain ⟨Bv, dv, rfl, hr⟩ := ho.rd
        have HRb := keepd hr
        have HBb := keepd (bCall HBV.out hbb)
        have HSb := keepd (SR.call HS5.out hbb HS5.out.lt)
        have HRBb := keepd (HRBV.out.at_ hbb)
        have HRTb := keepd (HR5.out.at_ hbb)
        clear ho hg hat hbb hr HOn HBn HRx HOa HBa HBV HS5 HRBV HR5 a0 a1 a2 a3 a4 a5
        obtain ⟨BX, hBX⟩ : ∃ l, B' ++ [x] = l := ⟨_, rfl⟩
        have hgx : getP BX = (⟨0, 0, 0, zM, []⟩, 2) := by rw [← hBX]; exact HMM2.out
        rw [hBX] at HRb ⊢
        obtain ⟨nx, hnx⟩ : ∃ n, BX.length = n := ⟨_, rfl⟩
        rw [hnx]
        have CM := keepd (sget_any Bv BX nx dv 0 0 0 zM [] 2 wb hnx.symm HRb.out hgx)
        clear hBX hgx hnx HRb
        go_wp2_with fail
        with_reducible refine CM.out.mono ?_
        rintro e w8 ⟨Am, nm, cm, rfl, hnm, hrm, hb8⟩
        have HB8 := keepd (bCall HBb.out hb8)
        have HS8 := keepd (SR.call HSb.out hb8 HSb.out.lt)
        have HRB8 := keepd (HRBb.out.at_ hb8)
        have HRT8 := keepd (HRTb.out.at_ hb8)
        clear hnm hrm hb8 CM HBb HSb HRBb HRTb
        go_upto_region 6 with fail
        generalize hV : w8.alloc (.cells (sc 0 0 0 zM (.slice Am nm cm)).toArray 26) = V8
        have hab := bAlloc (Below.refl w8.heap.size w8) (.cells (sc 0 0 0 zM (.slice Am nm cm)).toArray 26)
        rw [hV] at hab
        obtain ⟨g8, hg8⟩ : ∃ g, w8.heap.size = g := ⟨_, rfl⟩
        have HBV := keepd (bCall HB8.out hab)
        have HS5 := keepd (SR.call HS8.out hab HS8.out.lt)
        have HRBV := keepd (HRB8.out.at_ hab)
        have HR5 := keepd (HRT8.out.at_ hab)
        rw [hg8]
        clear hab hV hg8 HB8 HS8 HRB8 HRT8
        obtain ⟨a0, a1, a2, a3⟩ := SB.cells HS5.out
        obtain ⟨a4, a5⟩ := SB.facts HS5.out
        obtain ⟨T, hT⟩ : ∃ T, B'.take 2 = T := ⟨_, rfl⟩
        have hTl : T.length = 2 := by
          rw [← hT, List.length_take, ← HBen.out.1]
          have := HN2.out
          omega
        have hTr := HRBV.out.take 2
        have hTg := HL2.out
        rw [hT] at hTr hTg
        have C3 := keepd (sget_any A' T 2 c' 2 0 253 zM [] 0 V8 hTl.symm hTr hTg)
        clear hT hTl hTr hTg
        go_wp2_with fail
        with_reducible refine C3.out.mono ?_
        rintro e w9 ⟨Ar, nr, cr, rfl, hnr, hrr, hb9⟩
        have HB9 := keepd (bCall HBV.out hb9)
        have HS9 := keepd (SR.call HS5.out hb9 HS5.out.lt)
        clear hnr hrr hb9 C3 HBV HS5 HRBV HR5 a0 a1 a2 a3 a4 a5
        go_upto_region 21 with fail
        generalize hV : w9.alloc (.cells (sc 2 0 253 zM (.slice Ar nr cr)).toArray 26) = V9
        obtain ⟨k1, k2, k3⟩ := one_new _ _ _ _ hV
        obtain ⟨g9, hg9⟩ : ∃ g, w9.heap.size = g := ⟨_, rfl⟩
        rw [hg9] at k1 ⊢
        have HBV := keepd (bCall HB9.out k2)
        have k4 : SB V9 g5 2 0 253 MM (.slice Ag ng cg) := SR.call HS9.out k2 HS9.out.lt
        obtain ⟨a0, a1, a2, a3⟩ := SB.cells k4
        obtain ⟨b0, b1, b2, b3⟩ := SB.cells k1
        obtain ⟨b4, b5⟩ := SB.facts k1
        clear hV hg9 k1 k2 k3 k4 HB9 HS9
        go_wp2_with fail
        with_reducible refine (awake_any _).mono ?_
        rintro e w7 ⟨rfl, hb7⟩
        have HB7 := keepd (bCall HBV.out hb7)
        clear hb7
        go_wp2_with fail
        go_ret
        exact ⟨rfl, HB7.out⟩
      · have q3 : (z == 253) = false := by simpa using h5
        have HMM2 := keepd (HMn.out (fun h => h5 h.2))
        clear h5
        have CG := keepd (sget_any A' B' N' c' 2 0 z MM [] 0 W HBen.out.1 HRB4.out (hX))
        go_wp2_with fail
        with_reducible refine CG.out.mono ?_
        rintro e w5 ⟨Ag, ng, cg, rfl, hng, hrg, hb5⟩
        have HB5 := keepd hb5
        have HRB5 := keepd (HRB4.out.at_ hb5)
        have HNg := keepd hng
        have HRg := keepd hrg
        clear hng hrg hb5 HRB4 CG
        go_upto_region 3 with fail
        generalize hV : w5.alloc (.cells (sc 2 0 z MM (.slice Ag ng cg)).toArray 26) = V5
        obtain ⟨h1, h2, h3⟩ := one_new _ _ _ _ hV
        obtain ⟨g5, hg5⟩ : ∃ g, w5.heap.size = g := ⟨_, rfl⟩
        rw [hg5] at h1 ⊢
        have HR5 := keepd (HRg.out.at_ h2)
        have HRBV := keepd (HRB5.out.at_ h2)
        have HBV := keepd (bCall HB5.out h2)
        have HS5 := keepd h1
        obtain ⟨a0, a1, a2, a3⟩ := SB.cells h1
        obtain ⟨a4, a5⟩ := SB.facts h1
        clear hV hg5 h1 h2 h3 HRg HB5 HRB5
        clear hX
        have HOe := keepd (empty_own V5 V5.heap.size (Nat.le_refl _))
        have HB0 := keepd (bAlloc (Below.refl V5.heap.size V5) (.cells #[] 5))
        have HRe := keepd (HRBV.out.at_ HB0.out)
        go_wp2_with (at_builtin; refine wpList_app _ rfl (.tmp 24) (.tmp 25) rfl V5.heap.size _ [] rfl HOe.out _ A' N' c' B' rfl HBen.out.1 HRe.out ?_ HB0.out.size ?_)
        · have := HBen.out
          simp only [List.length_nil]
          omega
        intro va wa ho hg hat
        have HBa := keepd (HB0.out.trans (grown_below HOe.out hg HB0.out.size))
        have HOa := keepd ho
        clear ho hg hat HOe HB0 HRe
        have HOn := keepd (HOa.out.alloc (.cells #[.int .u8 (x.toNat : Int)] 5))
        have HBn := keepd (bAlloc HBa.out (.cells #[.int .u8 (x.toNat : Int)] 5))
        have HRx := keepd (one_rdb wa x)
        go_wp2_with (at_builtin; refine wpList_app _ rfl (.tmp 26) (.tmp 28) rfl V5.heap.size _ B' rfl HOn.out _ (some ⟨wa.heap.size, 0, none⟩) 1 1 [x] rfl rfl HRx.out ?_ HBn.out.size ?_)
        · have := HBen.out
          simp only [List.length_cons, List.length_nil]
          omega
        intro vb wb ho hg hat
        have hbb := HBn.out.trans (grown_below HOn.out hg HBn.out.size)
        obtain ⟨Bv, dv, rfl, hr⟩ := ho.rd
        have HRb := keepd hr
        have HBb := keepd (bCall HBV.out hbb)
        have HSb := keepd (SR.call HS5.out hbb HS5.out.lt)
        have HRBb := keepd (HRBV.out.at_ hbb)
        have HRTb := keepd (HR5.out.at_ hbb)
        clear ho hg hat hbb hr HOn HBn HRx HOa HBa HBV HS5 HRBV HR5 a0 a1 a2 a3 a4 a5
        obtain ⟨BX, hBX⟩ : ∃ l, B' ++ [x] = l := ⟨_, rfl⟩
        have hgx : getP BX = (⟨0, 0, 0, zM, []⟩, 2) := by rw [← hBX]; exact HMM2.out
        rw [hBX] at HRb ⊢
        obtain ⟨nx, hnx⟩ : ∃ n, BX.length = n := ⟨_, rfl⟩
        rw [hnx]
        have CM := keepd (sget_any Bv BX nx dv 0 0 0 zM [] 2 wb hnx.symm HRb.out hgx)
        clear hBX hgx hnx HRb
        go_wp2_with fail
        with_reducible refine CM.out.mono ?_
        rintro e w8 ⟨Am, nm, cm, rfl, hnm, hrm, hb8⟩
        have HB8 := keepd (bCall HBb.out hb8)
        have HS8 := keepd (SR.call HSb.out hb8 HSb.out.lt)
        have HRB8 := keepd (HRBb.out.at_ hb8)
        have HRT8 := keepd (HRTb.out.at_ hb8)
        clear hnm hrm hb8 CM HBb HSb HRBb HRTb
        go_upto_region 6 with fail
        generalize hV : w8.alloc (.cells (sc 0 0 0 zM (.slice Am nm cm)).toArray 26) = V8
        have hab := bAlloc (Below.refl w8.heap.size w8) (.cells (sc 0 0 0 zM (.slice Am nm cm)).toArray 26)
        rw [hV] at hab
        obtain ⟨g8, hg8⟩ : ∃ g, w8.heap.size = g := ⟨_, rfl⟩
        have HBV := keepd (bCall HB8.out hab)
        have HS5 := keepd (SR.call HS8.out hab HS8.out.lt)
        have HRBV := keepd (HRB8.out.at_ hab)
        have HR5 := keepd (HRT8.out.at_ hab)
        rw [hg8]
        clear hab hV hg8 HB8 HS8 HRB8 HRT8
        obtain ⟨a0, a1, a2, a3⟩ := SB.cells HS5.out
        obtain ⟨a4, a5⟩ := SB.facts HS5.out
        obtain ⟨T, hT⟩ : ∃ T, B'.take 2 = T := ⟨_, rfl⟩
        have hTl : T.length = 2 := by
          rw [← hT, List.length_take, ← HBen.out.1]
          have := HN2.out
          omega
        have hTr := HRBV.out.take 2
        have hTg := HL2.out
        rw [hT] at hTr hTg
        have C3 := keepd (sget_any A' T 2 c' 2 0 z zM [] 0 V8 hTl.symm hTr hTg)
        clear hT hTl hTr hTg
        go_wp2_with fail
        with_reducible refine C3.out.mono ?_
        rintro e w9 ⟨Ar, nr, cr, rfl, hnr, hrr, hb9⟩
        have HB9 := keepd (bCall HBV.out hb9)
        have HS9 := keepd (SR.call HS5.out hb9 HS5.out.lt)
        clear hnr hrr hb9 C3 HBV HS5 HRBV HR5 a0 a1 a2 a3 a4 a5
        go_upto_region 21 with fail
        generalize hV : w9.alloc (.cells (sc 2 0 z zM (.slice Ar nr cr)).toArray 26) = V9
        obtain ⟨k1, k2, k3⟩ := one_new _ _ _ _ hV
        obtain ⟨g9, hg9⟩ : ∃ g, w9.heap.size = g := ⟨_, rfl⟩
        rw [hg9] at k1 ⊢
        have HBV := keepd (bCall HB9.out k2)
        have k4 : SB V9 g5 2 0 z MM (.slice Ag ng cg) := SR.call HS9.out k2 HS9.out.lt
        obtain ⟨a0, a1, a2, a3⟩ := SB.cells k4
        obtain ⟨b0, b1, b2, b3⟩ := SB.cells k1
        obtain ⟨b4, b5⟩ := SB.facts k1
        clear hV hg9 k1 k2 k3 k4 HB9 HS9
        go_wp2_with fail
        with_reducible refine (awake_any _).mono ?_
        rintro e w7 ⟨rfl, hb7⟩
        have HB7 := keepd (bCall HBV.out hb7)
        clear hb7
        go_wp2_with fail
        go_ret
        exact ⟨rfl, HB7.out⟩
    · have hN2 : N' = r.length + 1 := by rw [hNB, hb]; rfl
      have Hb := keepd hb
      have HN2 := keepd hN2
      have hl3 := get_len h1
      have HM : Hid (getS (B' ++ [x]) = none) := by
        show _ = _
        rw [hb]
        exact more_3 h1 x
      have HL3 : Hid (0 < L.length → getS (B'.take (N' - 3)) = some ⟨3, 0, 0, zM, L.take (L.length - 1)⟩) := fun h0 => by
        rw [hb, hN2]
        exact less_3 h1 h2 h0
      obtain ⟨Ln, hLn⟩ : ∃ n, L.length = n := ⟨_, rfl⟩
      rw [hLn] at h2 hl3 HL3
      have HLn := keepd hLn
      have hN3 : N' = 3 * Ln + 1 := by omega
      have HN3 := keepd hN3
      have hX := getP_some ho
      clear hb hNB hN2 hLn hl3 h1 ho hN3
      have CG := keepd (sget_any A' B' N' c' 3 0 0 zM L 0 W HBen.out.1 HRB4.out (hX))
      go_wp2_with fail
      with_reducible refine CG.out.mono ?_
      rintro e w5 ⟨Ag, ng, cg, rfl, hng, hrg, hb5⟩
      have HB5 := keepd hb5
      have HRB5 := keepd (HRB4.out.at_ hb5)
      have HNg := keepd hng
      have HRg := keepd hrg
      clear hng hrg hb5 HRB4 CG
      go_upto_region 3 with fail
      generalize hV : w5.alloc (.cells (sc 3 0 0 zM (.slice Ag ng cg)).toArray 26) = V5
      obtain ⟨h1, h2, h3⟩ := one_new _ _ _ _ hV
      obtain ⟨g5, hg5⟩ : ∃ g, w5.heap.size = g := ⟨_, rfl⟩
      rw [hg5] at h1 ⊢
      have HR5 := keepd (HRg.out.at_ h2)
      have HRBV := keepd (HRB5.out.at_ h2)
      have HBV := keepd (bCall HB5.out h2)
      have HS5 := keepd h1
      obtain ⟨a0, a1, a2, a3⟩ := SB.cells h1
      obtain ⟨a4, a5⟩ := SB.facts h1
      clear hV hg5 h1 h2 h3 HRg HB5 HRB5
      clear hX
      have hng : ng = Ln := HNg.out.trans HLn.out
      subst hng
      have HOe := keepd (empty_own V5 V5.heap.size (Nat.le_refl _))
      have HB0 := keepd (bAlloc (Below.refl V5.heap.size V5) (.cells #[] 5))
      have HRe := keepd (HRBV.out.at_ HB0.out)
      go_wp2_with (at_builtin; refine wpList_app _ rfl (.tmp 24) (.tmp 25) rfl V5.heap.size _ [] rfl HOe.out _ A' N' c' B' rfl HBen.out.1 HRe.out ?_ HB0.out.size ?_)
      · have := HBen.out
        simp only [List.length_nil]
        omega
      intro va wa ho hg hat
      have HBa := keepd (HB0.out.trans (grown_below HOe.out hg HB0.out.size))
      have HOa := keepd ho
      clear ho hg hat HOe HB0 HRe
      have HOn := keepd (HOa.out.alloc (.cells #[.int .u8 (x.toNat : Int)] 5))
      have HBn := keepd (bAlloc HBa.out (.cells #[.int .u8 (x.toNat : Int)] 5))
      have HRx := keepd (one_rdb wa x)
      go_wp2_with (at_builtin; refine wpList_app _ rfl (.tmp 26) (.tmp 28) rfl V5.heap.size _ B' rfl HOn.out _ (some ⟨wa.heap.size, 0, none⟩) 1 1 [x] rfl rfl HRx.out ?_ HBn.out.size ?_)
      · have := HBen.out
        simp only [List.length_cons, List.length_nil]
        omega
      intro vb wb ho hg hat
      have hbb := HBn.out.trans (grown_below HOn.out hg HBn.out.size)
      obtain ⟨Bv, dv, rfl, hr⟩ := ho.rd
      have HRb := keepd hr
      have HBb := keepd (bCall HBV.out hbb)
      have HSb := keepd (SR.call HS5.out hbb HS5.out.lt)
      have HRBb := keepd (HRBV.out.at_ hbb)
      have HRTb := keepd (HR5.out.at_ hbb)
      clear ho hg hat hbb hr HOn HBn HRx HOa HBa HBV HS5 HRBV HR5 a0 a1 a2 a3 a4 a5
      obtain ⟨BX, hBX⟩ : ∃ l, B' ++ [x] = l := ⟨_, rfl⟩
      have hgx : getP BX = (⟨0, 0, 0, zM, []⟩, 2) := by rw [← hBX]; exact getP_none HM.out
      rw [hBX] at HRb ⊢
      obtain ⟨nx, hnx⟩ : ∃ n, BX.length = n := ⟨_, rfl⟩
      rw [hnx]
      have CM := keepd (sget_any Bv BX nx dv 0 0 0 zM [] 2 wb hnx.symm HRb.out hgx)
      clear hBX hgx hnx HRb
      go_wp2_with fail
      with_reducible refine CM.out.mono ?_
      rintro e w8 ⟨Am, nm, cm, rfl, hnm, hrm, hb8⟩
      have HB8 := keepd (bCall HBb.out hb8)
      have HS8 := keepd (SR.call HSb.out hb8 HSb.out.lt)
      have HRB8 := keepd (HRBb.out.at_ hb8)
      have HRT8 := keepd (HRTb.out.at_ hb8)
      clear hnm hrm hb8 CM HBb HSb HRBb HRTb
      go_upto_region 6 with fail
      generalize hV : w8.alloc (.cells (sc 0 0 0 zM (.slice Am nm cm)).toArray 26) = V8
      have hab := bAlloc (Below.refl w8.heap.size w8) (.cells (sc 0 0 0 zM (.slice Am nm cm)).toArray 26)
      rw [hV] at hab
      obtain ⟨g8, hg8⟩ : ∃ g, w8.heap.size = g := ⟨_, rfl⟩
      have HBV := keepd (bCall HB8.out hab)
      have HS5 := keepd (SR.call HS8.out hab HS8.out.lt)
      have HRBV := keepd (HRB8.out.at_ hab)
      have HR5 := keepd (HRT8.out.at_ hab)
      rw [hg8]
      clear hab hV hg8 HB8 HS8 HRB8 HRT8
      obtain ⟨a0, a1, a2, a3⟩ := SB.cells HS5.out
      obtain ⟨a4, a5⟩ := SB.facts HS5.out
      by_cases h0 : ng = 0
      · have q1 : ((ng : Int) == 0) = true := by rw [h0]; rfl
        have q2 : ((N' : Int) == 1) = true := by
          have := HN3.out
          simp; omega
        clear h0
        go_wp2_with fail
        with_reducible refine (awake_any _).mono ?_
        rintro e w7 ⟨rfl, hb7⟩
        have HB7 := keepd (bCall HBV.out hb7)
        clear hb7
        go_wp2_with fail
        go_ret
        exact ⟨rfl, HB7.out⟩
      · have q1 : ((ng : Int) == 0) = false := by simpa using h0
        have hN4 : 4 ≤ N' := by
          have := HN3.out
          omega
        have q2 : decide ((N' : Int) < 4) = false := decide_eq_false (by omega)
        have q3 : decide (N' < 4) = false := decide_eq_false (by omega)
        obtain ⟨p, hp⟩ : ∃ p, N' - 3 = p := ⟨_, rfl⟩
        have hpi : (N' : Int) - 3 = (p : Int) := by omega
        have hpw : wrap64 (p : Int) = (p : Int) := by
          have := HBen.out.2
          unfold wrap64
          omega
        have hG3 := HL3.out (by omega)
        obtain ⟨T, hT⟩ : ∃ T, B'.take (N' - 3) = T := ⟨_, rfl⟩
        have hTl : p = T.length := by
          rw [← hT, List.length_take, ← HBen.out.1]
          omega
        have hTr := HRBV.out.take (N' - 3)
        rw [hT] at hTr hG3
        have hcc : p ≤ c' := by
          have := HRBV.out.1
          rw [← HBen.out.1] at this
          omega
        have i3 : ¬ (c' : Int) < (p : Int) := by omega
        have i4 : (0 : Int) ≤ (p : Int) := by omega
        obtain ⟨LT, hLT⟩ : ∃ l, L.take (ng - 1) = l := ⟨_, rfl⟩
        rw [hLT] at hG3
        have C3 := keepd (sget_any A' T p c' 3 0 0 zM LT 0 V8 hTl hTr (getP_some hG3))
        have HLT := keepd hLT
        have H0 : Hid (0 < ng) := Nat.pos_of_ne_zero h0
        clear hp hG3 hT hTl hTr hN4 hLT hcc h0
        go_wp2_with fail
        with_reducible refine C3.out.mono ?_
        rintro e w9 ⟨Ar, nr, cr, rfl, hnr, hrr, hb9⟩
        have HB9 := keepd (bCall HBV.out hb9)
        have HS9 := keepd (SR.call HS5.out hb9 HS5.out.lt)
        have HRT9 := keepd (HR5.out.at_ hb9)
        have HNr := keepd hnr
        have HRr := keepd hrr
        clear hnr hrr hb9 C3 HBV HS5 HRBV HR5 a0 a1 a2 a3 a4 a5 hpi hpw i3 i4
        go_upto_region 17 with fail
        generalize hV : w9.alloc (.cells (sc 3 0 0 zM (.slice Ar nr cr)).toArray 26) = V9
        obtain ⟨k1, k2, k3⟩ := one_new _ _ _ _ hV
        obtain ⟨g9, hg9⟩ : ∃ g, w9.heap.size = g := ⟨_, rfl⟩
        rw [hg9] at k1 ⊢
        have HBV := keepd (bCall HB9.out k2)
        have k4 : SB V9 g5 3 0 0 zM (.slice Ag ng cg) := SR.call HS9.out k2 HS9.out.lt
        have HRV := keepd (HRr.out.at_ k2)
        have HRL := keepd (HRT9.out.at_ k2)
        obtain ⟨a0, a1, a2, a3, a4, a5⟩ := SB.gr k4
        obtain ⟨b0, b1, b2, b3, b4, b5⟩ := SB.gr k1
        clear hV hg9 k1 k2 k3 k4 HB9 HS9 HRr HRT9
        obtain ⟨s, hs⟩ : ∃ s, ng - 1 = s := ⟨_, rfl⟩
        have hsi : (ng : Int) - 1 = (s : Int) := by
          have := H0.out
          omega
        have hsw : wrap64 (s : Int) = (s : Int) := by
          unfold wrap64
          omega
        have hsw2 : IntKind.i64.wrap (s : Int) = (s : Int) := by rw [IntWalk.i64_left]; exact hsw
        have HRS := HRL.out.take (ng - 1)
        rw [hs] at HRS
        have hsl : s = (L.take s).length := by
          have : L.length = ng := HLn.out
          rw [List.length_take]
          omega
        have hcs : s ≤ cg := by
          have := HRL.out.1
          have h' : L.length = ng := HLn.out
          omega
        have i5 : ¬ (cg : Int) < (s : Int) := by omega
        have i6 : (0 : Int) ≤ (s : Int) := by omega
        have hLs : L.take s = LT := by rw [← hs]; exact HLT.out
        rw [hLs] at HRS hsl
        have CS := keepd fun y : Gr V9 => same_any Ar Ag LT LT nr s cr cg true y.W HNr.out hsl (HRV.out.at_ y.h) (HRS.at_ y.h) (by simp)
        have i7 : (s : Int) ≤ (cg : Int) := by omega
        clear hLs HRS hsl hs HRV HRL
        refine wp_region_gr (by kernel_rfl) (by kernel_rfl) ?_
        repeat
          refine wpQuiet_step (fun K hK => ?_)
          first
            | (refine gr_want (by rfl) ?_
               go_simp
               first
                 | (refine hK _ ?_; clear hK K)
                 | (apply Exists.intro
                    refine ⟨fun _ => ?_, hK _ ?_⟩
                    (first | (go_at_call 23; exact Gr.call (CS.out _)) | (go_at_call 18; exact Gr.call (awake_any _)))
                    clear hK K))
            | (refine gr_skip (by rfl) ?_
               go_simp
               refine hK _ ?_
               clear hK K)
        refine wpQuiet_nil ?_
        intro y
        have HBy := keepd (bCall HBV.out y.h)
        go_wp2_with fail
        go_ret
        exact ⟨rfl, HBy.out⟩

end Go.Proofs.Ytflmplnampgflaa
