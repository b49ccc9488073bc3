/-
  The walk of SuboptBack. No conditions beyond those each theorem states.
-/
import Derived.Test.YtflmplnampgflaaP3
import Derived.Test.YtflmplnampgflaaO16
namespace Go.Proofs.Ytflmplnampgflaa
open Go.RowKit
set_option maxRecDepth 100000

attribute [local go_sem ↓] ex_ld23 ex_st23 ex_al23 ex_bu23 ex_eq23 ex_ne23 ex_ld26 ex_st26 ex_al26 ex_ld23o ex_st23o ex_bu26 ex_bu26k ex_bu26m ex_bu26l ex_bu26v ex_bu26w ex_eq29 ex_ne29
attribute [local go_sem] ptrB_at okPtr_at aggC_at agg32 agg36 isM_at eqV_m isRow_new isRow_new26 World.setRow_alloc_new ptr3_at okPtr3_at cutM_at putM_at isI_at isL_at bK_at bKM_at bKL_at bKVM_at bKV_at isV_at toV_at

theorem may_len {X : Sb} (h : X.may = true) : X.L.length ≤ 170 := by
  obtain ⟨k, m, v, M, L⟩ := X
  have hm : mayS k m v M L = true := h
  rcases may_k hm with q | q | q
  · rw [(may_k1 q hm).2.2.2]; simp
  · rw [(may_k2 q hm).2.2.2]; simp
  · exact (may_k3 q hm).2.2.2.1

set_option maxHeartbeats 4000000 in
theorem back_law (k m v : Int) (M : Mk) (L : List Tr) (A : Option Addr) (c : Nat) (A' : Option Addr) (b : List UInt8) (c' : Nat) (W : World) (hr : RdT W A L c) (hr' : Rd W W.heap.size A' b c') :
    Calls Try.prog 4 #[sv k m v M (.slice A L.length c), .slice A' b.length c'] W fun e w' => e = .returned (.bool true) ∧ Below W.heap.size W w' := by
  obtain ⟨n, hn⟩ : ∃ n, n = L.length := ⟨_, rfl⟩
  obtain ⟨n', hn'⟩ : ∃ n', n' = b.length := ⟨_, rfl⟩
  obtain ⟨N, hN⟩ : ∃ N, min n 180 = N := ⟨_, rfl⟩
  obtain ⟨N', hN'⟩ : ∃ N', min n' 600 = N' := ⟨_, rfl⟩
  obtain ⟨L', hL'⟩ : ∃ L', L.take 180 = L' := ⟨_, rfl⟩
  obtain ⟨B', hB'⟩ : ∃ B', b.take 600 = B' := ⟨_, rfl⟩
  have HN := keepd hn
  have HN' := keepd hn'
  have HNN := keepd hN
  have HMM := keepd hN'
  have HLL := keepd hL'
  have HBB := keepd hB'
  have H := keepd hr
  have H' := keepd hr'
  have HLen : Hid (N = L'.length ∧ N ≤ 180) := ⟨by rw [← hL', List.length_take, ← hN, hn]; omega, by omega⟩
  have HBen : Hid (N' = B'.length ∧ N' ≤ 600) := ⟨by rw [← hB', List.length_take, ← hN', hn']; omega, by omega⟩
  rw [← hn, ← hn']
  clear hr hr' hn hn' hN hN' hL' hB'
  go_enter Try.func4, Try.ntmps4
  go_upto_region 1 with fail
  generalize hV : W.alloc (.cells (sc k m v M (.slice A n c)).toArray 26) = V
  obtain ⟨h1, h2, h3⟩ := one_new _ _ _ _ hV
  obtain ⟨g, hg⟩ : ∃ g, W.heap.size = g := ⟨_, rfl⟩
  rw [hg] at h1
  rw [hg]
  have HG := keepd hg
  have H1 := keepd h1
  have HB0 := keepd h2
  clear hV hg h3 h1 h2
  have C1 := keepd (one_any k m v M A n c N V (by have := H.out.1; rw [← HN.out] at this; exact this) H.out.2.1 HNN.out)
  have C2 := keepd fun w : World => few_any A' n' c' w (by have := H'.out.1; rw [← HN'.out] at this; exact this) H'.out.2.1
  obtain ⟨a4, a5⟩ := SB.facts H1.out
  go_wp2_with fail
  with_reducible refine C1.out.mono ?_
  rintro e w2 ⟨rfl, hb⟩
  have HB1 := keepd (bCall HB0.out hb)
  have H2 := keepd (SR.call H1.out hb H1.out.lt)
  clear hb HB0 H1 C1 a4 a5
  go_wp2_with fail
  with_reducible refine (C2.out _).mono ?_
  rintro e w3 ⟨rfl, rfl⟩
  rw [HMM.out]
  obtain ⟨a4, a5⟩ := SB.facts H2.out
  go_upto_region 2 with fail
  generalize hV : w2.setRow g (sc k m v M (.slice A N c)).toArray = V2
  obtain ⟨h1, h2⟩ : SB V2 g k m v M (.slice A N c) ∧ Below W.heap.size W V2 := by
    subst hV
    exact ⟨SR.row H2.out _, bRow HB1.out (by have := HG.out; omega) _⟩
  have H1 := keepd h1
  have HB2 := keepd h2
  clear hV h1 h2 H2 HB1 a4 a5 C2
  obtain ⟨a4, a5⟩ := SB.facts H1.out
  have HRT := keepd ((H.out.take 180).at_ HB2.out)
  have HRB := keepd (((H'.out.take 600).at_ HB2.out))
  rw [HLL.out] at HRT
  rw [HBB.out] at HRB
  obtain ⟨r, hr⟩ : ∃ r, mayS k m v M L' = r := ⟨_, rfl⟩
  have HM := keepd hr
  clear hr
  cases r
  · have CP := keepd (sput_any k m v M A L' N c false [] 1 V2 HLen.out.1 (by have := HLen.out.2; omega) HRT.out HM.out rfl rfl)
    go_wp2_with fail
    with_reducible refine CP.out.mono ?_
    rintro e w4 ⟨Ax, zx, cx, rfl, hz, hrx, hb⟩
    have HB4 := keepd (bCall HB2.out hb)
    have H4 := keepd (SR.call H1.out hb H1.out.lt)
    have HRB4 := keepd (HRB.out.at_ hb)
    clear hz hrx hb HB2 H1 HRT HRB CP a4 a5
    cases ho : getS B' with
    | none =>
      have CG := keepd (sget_any A' B' N' c' 0 0 0 zM [] 2 w4 HBen.out.1 HRB4.out (getP_none ho))
      clear ho
      go_wp2_with fail
      with_reducible refine CG.out.mono ?_
      rintro e w5 ⟨Ag, ng, cg, rfl, hng, hrg, hb5⟩
      have HB5 := keepd (bCall HB4.out hb5)
      have HNg := keepd hng
      have HRg := keepd hrg
      clear hng hrg hb5 HB4 HRB4 CG
      go_upto_region 8 with fail
      generalize hV : w5.alloc (.cells (sc 0 0 0 zM (.slice Ag ng cg)).toArray 26) = V5
      obtain ⟨h1, h2, h3⟩ := one_new _ _ _ _ hV
      obtain ⟨g5, hg5⟩ : ∃ g, w5.heap.size = g := ⟨_, rfl⟩
      rw [hg5] at h1 ⊢
      have HR5 := keepd (HRg.out.at_ h2)
      have HBV := keepd (bCall HB5.out h2)
      clear hV hg5 h2 h3 HRg HB5
      obtain ⟨a4, a5⟩ := SB.facts h1
      clear h1
      have CS := keepd (ssame_any 0 0 0 zM Ag [] ng cg 0 0 0 zM none [] 0 0 true V5 HNg.out rfl HR5.out (RdT.nil _) (by simp [sameS]))
      go_wp2_with fail
      with_reducible refine CS.out.mono ?_
      rintro e w6 ⟨rfl, hb6⟩
      have HB6 := keepd (bCall HBV.out hb6)
      clear hb6 HBV CS a4 a5 HR5
      have CA := keepd (awake_any w6)
      go_wp2_with fail
      with_reducible refine CA.out.mono ?_
      rintro e w7 ⟨rfl, hb7⟩
      have HB7 := keepd (bCall HB6.out hb7)
      clear hb7 HB6 CA
      go_wp2_with fail
      go_ret
      exact ⟨rfl, HB7.out⟩
    | some X =>
      have hs := get_shape ho
      have hm2 := shape_may hs
      obtain ⟨hp1, hp2, hp3, hp4⟩ := put_get hs
      obtain ⟨k2, m2, v2, M2, L2⟩ := X
      have CG := keepd (sget_any A' B' N' c' k2 m2 v2 M2 L2 0 w4 HBen.out.1 HRB4.out (getP_some ho))
      have HM2 : Hid (mayS k2 m2 v2 M2 L2 = true) := hm2
      have HL2 : Hid (L2.length ≤ 170) := may_len hm2
      obtain ⟨P2, hP2⟩ : ∃ P, (Sb.mk k2 m2 v2 M2 L2).oct = P := ⟨_, rfl⟩
      rw [hP2] at hp1 hp2 hp3 hp4
      obtain ⟨p2, hpl⟩ : ∃ p, P2.length = p := ⟨_, rfl⟩
      rw [hpl] at hp1 hp2 hp3 hp4
      have HP2 : Hid (putR k2 m2 v2 M2 L2 true = P2) := hP2
      have HPl := keepd hpl
      have HTk := keepd hp2
      have h24 : (p2 < B'.length → k2 = 2) := hp3
      rw [← HBen.out.1] at hp1 h24 hp4
      have H24 := keepd h24
      have HZz := keepd hp4
      have HP1 := keepd hp1
      clear ho hs hm2 hp1 hp2 hp3 hp4 hP2 hpl h24
      go_wp2_with fail
      with_reducible refine CG.out.mono ?_
      rintro e w5 ⟨Ag, ng, cg, rfl, hng, hrg, hb5⟩
      have HB5 := keepd (bCall HB4.out hb5)
      have HRB5 := keepd (HRB4.out.at_ hb5)
      have HNg := keepd hng
      have HRg := keepd hrg
      clear hng hrg hb5 HB4 HRB4 CG
      go_upto_region 8 with fail
      generalize hV : w5.alloc (.cells (sc k2 m2 v2 M2 (.slice Ag ng cg)).toArray 26) = V5
      obtain ⟨h1, h2, h3⟩ := one_new _ _ _ _ hV
      obtain ⟨g5, hg5⟩ : ∃ g, w5.heap.size = g := ⟨_, rfl⟩
      rw [hg5] at h1 ⊢
      have HR5 := keepd (HRg.out.at_ h2)
      have HRBV := keepd (HRB5.out.at_ h2)
      have HBV := keepd (bCall HB5.out h2)
      have HS5 := keepd h1
      clear hV hg5 h1 h2 h3 HRg HB5 HRB5
      have CP := keepd (sput_any k2 m2 v2 M2 Ag L2 ng cg true P2 0 V5 HNg.out (by have h1 := HL2.out; have h2 : ng = L2.length := HNg.out; omega) HR5.out HM2.out HP2.out rfl)
      obtain ⟨a4, a5⟩ := SB.facts HS5.out
      go_wp2_with fail
      with_reducible refine CP.out.mono ?_
      rintro e w6 ⟨Ay, zy, cy, rfl, hzy, hry, hb6⟩
      have hz2 : zy = p2 := hzy.trans HPl.out
      have HB6 := keepd (bCall HBV.out hb6)
      have HRB6 := keepd (HRBV.out.at_ hb6)
      have HS6 := keepd (SR.call HS5.out hb6 HS5.out.lt)
      have HRy := keepd hry
      clear hzy hry hb6 HBV HRBV HS5 HR5 CP a4 a5
      rw [hz2]
      clear hz2
      obtain ⟨T, hT⟩ : ∃ T, B'.take p2 = T := ⟨_, rfl⟩
      have HRTk := HRB6.out.take p2
      rw [hT] at HRTk
      have HPT : Hid ((P2 == T) = true) := by
        show _ = _
        rw [beq_iff_eq, ← hT]
        exact HTk.out
      have HTl : Hid (p2 = T.length) := by
        show _ = _
        rw [← hT, List.length_take, ← HBen.out.1]
        have := HP1.out
        omega
      have CO : Hid (Calls Try.prog 19 #[.slice Ay p2 cy, .slice A' p2 c'] w6 fun e w' => e = .returned (.bool true) ∧ w6 = w') := by
        have := octets_any Ay A' P2 T p2 p2 cy c' w6.heap.size w6 HPl.out.symm HTl.out HRy.out HRTk
        rw [HPT.out] at this
        exact this
      have hc1 : p2 ≤ N' := HP1.out
      have hc2 : N' ≤ c' := by
        have := HRB6.out.1
        rw [← HBen.out.1] at this
        exact this
      have hc3 : c' ≤ maxLen := HRB6.out.2.1
      unfold maxLen at hc3
      have i1 : ¬ (c' : Int) < (p2 : Int) := by omega
      have i2 : (0 : Int) ≤ (p2 : Int) := by omega
      have i3 : decide ((p2 : Int) > (N' : Int)) = false := decide_eq_false (by omega)
      have i4 : decide (p2 > N') = false := decide_eq_false (by omega)
      obtain ⟨a0, a1, a2, a3⟩ := SB.cells HS6.out
      clear HRTk hT
      go_wp2_with fail
      with_reducible refine CO.out.mono ?_
      rintro e w6 ⟨rfl, rfl⟩
      clear CO
      by_cases hlt : p2 < N'
      · have q1 : (k2 != 2) = false := by rw [H24.out hlt]; rfl
        have q0 : decide ((p2 : Int) < (N' : Int)) = true := decide_eq_true (by omega)
        go_wp2_with fail
        go_loopw [13] (fun vi wr => ∃ j : Nat, p2 ≤ j ∧ j ≤ N' ∧ vi = .int .i64 (j : Int) ∧ Hid (Below W.heap.size W wr) ∧ Hid (Rd wr wr.heap.size A' B' c')) (fun vi _ => N' - (intOf vi).toNat)
        case atStart => exact ⟨p2, Nat.le_refl _, hc1, rfl, HB6, HRB6⟩
        case round =>
          obtain ⟨j, hj1, hj2, rfl, HBj, HRj⟩ := hrel
          clear i3 i4 q0
          by_cases hj : j < N'
          · have hjB : j < B'.length := by rw [← HBen.out.1]; exact hj
            obtain ⟨b', off', hA', hbl, hce⟩ := HRj.out.form hjB
            have hz : B'[j] = 0 := by
              have := HZz.out j hj1 hj
              rwa [List.getD_eq_getElem?_getD, List.getElem?_eq_getElem hjB] at this
            rw [hz] at hce
            have hce2 : wr.cell? ⟨b', off' + j, none⟩ = some (.int .u8 0) := hce
            subst hA'
            have k1 : (0 : Int) ≤ (j : Int) := by omega
            have k2' : (j : Int) < (N' : Int) := by omega
            have k3 : decide ((j : Int) < (N' : Int)) = true := decide_eq_true k2'
            clear hce hz hjB
            go_wp2_with fail
            go_roundw
            case rel => exact ⟨j + 1, by omega, by omega, by go_num, HBj, HRj⟩
            case measure => simp [intOf]; omega
          · have k3 : decide ((j : Int) < (N' : Int)) = false := decide_eq_false (by omega)
            have k4 : ¬ (j : Int) < (N' : Int) := by omega
            have CA := keepd (awake_any wr)
            go_wp2_with fail
            with_reducible refine CA.out.mono ?_
            rintro e w7 ⟨rfl, hb7⟩
            have HB7 := keepd (bCall HBj.out hb7)
            clear hb7 CA
            go_wp2_with fail
            go_ret
            exact ⟨rfl, HB7.out⟩
      · have q0 : decide ((p2 : Int) < (N' : Int)) = false := decide_eq_false (by omega)
        go_wp2_with fail
        go_loopw [13] (fun vi wr => ∃ j : Nat, p2 ≤ j ∧ j ≤ N' ∧ vi = .int .i64 (j : Int) ∧ Hid (Below W.heap.size W wr) ∧ Hid (Rd wr wr.heap.size A' B' c')) (fun vi _ => N' - (intOf vi).toNat)
        case atStart => exact ⟨p2, Nat.le_refl _, hc1, rfl, HB6, HRB6⟩
        case round =>
          obtain ⟨j, hj1, hj2, rfl, HBj, HRj⟩ := hrel
          clear i3 i4 q0
          by_cases hj : j < N'
          · have hjB : j < B'.length := by rw [← HBen.out.1]; exact hj
            obtain ⟨b', off', hA', hbl, hce⟩ := HRj.out.form hjB
            have hz : B'[j] = 0 := by
              have := HZz.out j hj1 hj
              rwa [List.getD_eq_getElem?_getD, List.getElem?_eq_getElem hjB] at this
            rw [hz] at hce
            have hce2 : wr.cell? ⟨b', off' + j, none⟩ = some (.int .u8 0) := hce
            subst hA'
            have k1 : (0 : Int) ≤ (j : Int) := by omega
            have k2' : (j : Int) < (N' : Int) := by omega
            have k3 : decide ((j : Int) < (N' : Int)) = true := decide_eq_true k2'
            clear hce hz hjB
            go_wp2_with fail
            go_roundw
            case rel => exact ⟨j + 1, by omega, by omega, by go_num, HBj, HRj⟩
            case measure => simp [intOf]; omega
          · have k3 : decide ((j : Int) < (N' : Int)) = false := decide_eq_false (by omega)
            have k4 : ¬ (j : Int) < (N' : Int) := by omega
            have CA := keepd (awake_any wr)
            go_wp2_with fail
            with_reducible refine CA.out.mono ?_
            rintro e w7 ⟨rfl, hb7⟩
            have HB7 := keepd (bCall HBj.out hb7)
            clear hb7 CA
            go_wp2_with fail
            go_ret
            exact ⟨rfl, HB7.out⟩
  · have HX : Hid (getP (putR k m v M L' true) = (⟨k, m, v, M, L'⟩, 0)) := getP_some (get_oct (X := ⟨k, m, v, M, L'⟩) HM.out)
    have HXl : Hid ((putR k m v M L' true).length ≤ 511) := oct_len (X := ⟨k, m, v, M, L'⟩) HM.out
    obtain ⟨P, hP⟩ : ∃ P, putR k m v M L' true = P := ⟨_, rfl⟩
    rw [hP] at HX HXl
    have CP := keepd (sput_any k m v M A L' N c true P 0 V2 HLen.out.1 (by have := HLen.out.2; omega) HRT.out HM.out hP rfl)
    clear hP
    go_wp2_with fail
    with_reducible refine CP.out.mono ?_
    rintro e w3 ⟨Ax, zx, cx, rfl, hz, hrx, hb⟩
    have HB3 := keepd (bCall HB2.out hb)
    have H3 := keepd (SR.call H1.out hb H1.out.lt)
    have HRB3 := keepd (HRB.out.at_ hb)
    have HRT3 := keepd (HRT.out.at_ hb)
    have HRx := keepd hrx
    have HZx := keepd hz
    have hz511 : zx ≤ 511 := by rw [hz]; exact HXl.out
    clear hz hrx hb HB2 H1 HRT HRB CP a4 a5
    have CG := keepd (sget_any Ax P zx cx k m v M L' 0 w3 HZx.out HRx.out HX.out)
    go_wp2_with fail
    with_reducible refine CG.out.mono ?_
    rintro e w5 ⟨Ag, ng, cg, rfl, hng, hrg, hb5⟩
    have HB5 := keepd (bCall HB3.out hb5)
    have HRB5 := keepd (HRB3.out.at_ hb5)
    have HRT5 := keepd (HRT3.out.at_ hb5)
    have H5 := keepd (SR.call H3.out hb5 H3.out.lt)
    have HNg := keepd hng
    have HRg := keepd hrg
    clear hng hrg hb5 HB3 HRB3 HRT3 H3 CG HRx
    go_upto_region 5 with fail
    generalize hV : w5.alloc (.cells (sc k m v M (.slice Ag ng cg)).toArray 26) = V5
    obtain ⟨h1, h2, h3⟩ := one_new _ _ _ _ hV
    have h4 : SB V5 g k m v M (.slice A N c) := SR.call H5.out h2 H5.out.lt
    obtain ⟨g5, hg5⟩ : ∃ g, w5.heap.size = g := ⟨_, rfl⟩
    rw [hg5] at h1 ⊢
    have HR5 := keepd (HRg.out.at_ h2)
    have HRBV := keepd (HRB5.out.at_ h2)
    have HRTV := keepd (HRT5.out.at_ h2)
    have HBV := keepd (bCall HB5.out h2)
    have HS5 := keepd h1
    have HS2 := keepd h4
    clear hV hg5 h1 h2 h3 h4 HRg HB5 HRB5 HRT5 H5
    obtain ⟨a4, a5⟩ := SB.facts HS5.out
    obtain ⟨b4, b5⟩ := SB.facts HS2.out
    have CS := keepd (ssame_any k m v M Ag L' ng cg k m v M A L' N c true V5 HNg.out HLen.out.1 HR5.out HRTV.out (by simp [sameS]))
    have i5 : decide ((zx : Int) > 512) = false := decide_eq_false (by omega)
    go_wp2_with fail
    with_reducible refine CS.out.mono ?_
    rintro e w4 ⟨rfl, hb6⟩
    have HB4 := keepd (bCall HBV.out hb6)
    have HRB4 := keepd (HRBV.out.at_ hb6)
    clear hb6 HBV HRBV HRTV CS a4 a5 b4 b5 HR5 HS5 HS2
    go_upto_region 7 with fail
    cases ho : getS B' with
    | none =>
      have CG := keepd (sget_any A' B' N' c' 0 0 0 zM [] 2 w4 HBen.out.1 HRB4.out (getP_none ho))
      clear ho
      go_wp2_with fail
      with_reducible refine CG.out.mono ?_
      rintro e w5 ⟨Ag, ng, cg, rfl, hng, hrg, hb5⟩
      have HB5 := keepd (bCall HB4.out hb5)
      have HNg := keepd hng
      have HRg := keepd hrg
      clear hng hrg hb5 HB4 HRB4 CG
      go_upto_region 8 with fail
      generalize hV : w5.alloc (.cells (sc 0 0 0 zM (.slice Ag ng cg)).toArray 26) = V5
      obtain ⟨h1, h2, h3⟩ := one_new _ _ _ _ hV
      obtain ⟨g5, hg5⟩ : ∃ g, w5.heap.size = g := ⟨_, rfl⟩
      rw [hg5] at h1 ⊢
      have HR5 := keepd (HRg.out.at_ h2)
      have HBV := keepd (bCall HB5.out h2)
      clear hV hg5 h2 h3 HRg HB5
      obtain ⟨a4, a5⟩ := SB.facts h1
      clear h1
      have CS := keepd (ssame_any 0 0 0 zM Ag [] ng cg 0 0 0 zM none [] 0 0 true V5 HNg.out rfl HR5.out (RdT.nil _) (by simp [sameS]))
      go_wp2_with fail
      with_reducible refine CS.out.mono ?_
      rintro e w6 ⟨rfl, hb6⟩
      have HB6 := keepd (bCall HBV.out hb6)
      clear hb6 HBV CS a4 a5 HR5
      have CA := keepd (awake_any w6)
      go_wp2_with fail
      with_reducible refine CA.out.mono ?_
      rintro e w7 ⟨rfl, hb7⟩
      have HB7 := keepd (bCall HB6.out hb7)
      clear hb7 HB6 CA
      go_wp2_with fail
      go_ret
      exact ⟨rfl, HB7.out⟩
    | some X =>
      have hs := get_shape ho
      have hm2 := shape_may hs
      obtain ⟨hp1, hp2, hp3, hp4⟩ := put_get hs
      obtain ⟨k2, m2, v2, M2, L2⟩ := X
      have CG := keepd (sget_any A' B' N' c' k2 m2 v2 M2 L2 0 w4 HBen.out.1 HRB4.out (getP_some ho))
      have HM2 : Hid (mayS k2 m2 v2 M2 L2 = true) := hm2
      have HL2 : Hid (L2.length ≤ 170) := may_len hm2
      obtain ⟨P2, hP2⟩ : ∃ P, (Sb.mk k2 m2 v2 M2 L2).oct = P := ⟨_, rfl⟩
      rw [hP2] at hp1 hp2 hp3 hp4
      obtain ⟨p2, hpl⟩ : ∃ p, P2.length = p := ⟨_, rfl⟩
      rw [hpl] at hp1 hp2 hp3 hp4
      have HP2 : Hid (putR k2 m2 v2 M2 L2 true = P2) := hP2
      have HPl := keepd hpl
      have HTk := keepd hp2
      have h24 : (p2 < B'.length → k2 = 2) := hp3
      rw [← HBen.out.1] at hp1 h24 hp4
      have H24 := keepd h24
      have HZz := keepd hp4
      have HP1 := keepd hp1
      clear ho hs hm2 hp1 hp2 hp3 hp4 hP2 hpl h24
      go_wp2_with fail
      with_reducible refine CG.out.mono ?_
      rintro e w5 ⟨Ag, ng, cg, rfl, hng, hrg, hb5⟩
      have HB5 := keepd (bCall HB4.out hb5)
      have HRB5 := keepd (HRB4.out.at_ hb5)
      have HNg := keepd hng
      have HRg := keepd hrg
      clear hng hrg hb5 HB4 HRB4 CG
      go_upto_region 8 with fail
      generalize hV : w5.alloc (.cells (sc k2 m2 v2 M2 (.slice Ag ng cg)).toArray 26) = V5
      obtain ⟨h1, h2, h3⟩ := one_new _ _ _ _ hV
      obtain ⟨g5, hg5⟩ : ∃ g, w5.heap.size = g := ⟨_, rfl⟩
      rw [hg5] at h1 ⊢
      have HR5 := keepd (HRg.out.at_ h2)
      have HRBV := keepd (HRB5.out.at_ h2)
      have HBV := keepd (bCall HB5.out h2)
      have HS5 := keepd h1
      clear hV hg5 h1 h2 h3 HRg HB5 HRB5
      have CP := keepd (sput_any k2 m2 v2 M2 Ag L2 ng cg true P2 0 V5 HNg.out (by have h1 := HL2.out; have h2 : ng = L2.length := HNg.out; omega) HR5.out HM2.out HP2.out rfl)
      obtain ⟨a4, a5⟩ := SB.facts HS5.out
      go_wp2_with fail
      with_reducible refine CP.out.mono ?_
      rintro e w6 ⟨Ay, zy, cy, rfl, hzy, hry, hb6⟩
      have hz2 : zy = p2 := hzy.trans HPl.out
      have HB6 := keepd (bCall HBV.out hb6)
      have HRB6 := keepd (HRBV.out.at_ hb6)
      have HS6 := keepd (SR.call HS5.out hb6 HS5.out.lt)
      have HRy := keepd hry
      clear hzy hry hb6 HBV HRBV HS5 HR5 CP a4 a5
      rw [hz2]
      clear hz2
      obtain ⟨T, hT⟩ : ∃ T, B'.take p2 = T := ⟨_, rfl⟩
      have HRTk := HRB6.out.take p2
      rw [hT] at HRTk
      have HPT : Hid ((P2 == T) = true) := by
        show _ = _
        rw [beq_iff_eq, ← hT]
        exact HTk.out
      have HTl : Hid (p2 = T.length) := by
        show _ = _
        rw [← hT, List.length_take, ← HBen.out.1]
        have := HP1.out
        omega
      have CO : Hid (Calls Try.prog 19 #[.slice Ay p2 cy, .slice A' p2 c'] w6 fun e w' => e = .returned (.bool true) ∧ w6 = w') := by
        have := octets_any Ay A' P2 T p2 p2 cy c' w6.heap.size w6 HPl.out.symm HTl.out HRy.out HRTk
        rw [HPT.out] at this
        exact this
      have hc1 : p2 ≤ N' := HP1.out
      have hc2 : N' ≤ c' := by
        have := HRB6.out.1
        rw [← HBen.out.1] at this
        exact this
      have hc3 : c' ≤ maxLen := HRB6.out.2.1
      unfold maxLen at hc3
      have i1 : ¬ (c' : Int) < (p2 : Int) := by omega
      have i2 : (0 : Int) ≤ (p2 : Int) := by omega
      have i3 : decide ((p2 : Int) > (N' : Int)) = false := decide_eq_false (by omega)
      have i4 : decide (p2 > N') = false := decide_eq_false (by omega)
      obtain ⟨a0, a1, a2, a3⟩ := SB.cells HS6.out
      clear HRTk hT
      go_wp2_with fail
      with_reducible refine CO.out.mono ?_
      rintro e w6 ⟨rfl, rfl⟩
      clear CO
      by_cases hlt : p2 < N'
      · have q1 : (k2 != 2) = false := by rw [H24.out hlt]; rfl
        have q0 : decide ((p2 : Int) < (N' : Int)) = true := decide_eq_true (by omega)
        go_wp2_with fail
        go_loopw [13] (fun vi wr => ∃ j : Nat, p2 ≤ j ∧ j ≤ N' ∧ vi = .int .i64 (j : Int) ∧ Hid (Below W.heap.size W wr) ∧ Hid (Rd wr wr.heap.size A' B' c')) (fun vi _ => N' - (intOf vi).toNat)
        case atStart => exact ⟨p2, Nat.le_refl _, hc1, rfl, HB6, HRB6⟩
        case round =>
          obtain ⟨j, hj1, hj2, rfl, HBj, HRj⟩ := hrel
          clear i3 i4 q0
          by_cases hj : j < N'
          · have hjB : j < B'.length := by rw [← HBen.out.1]; exact hj
            obtain ⟨b', off', hA', hbl, hce⟩ := HRj.out.form hjB
            have hz : B'[j] = 0 := by
              have := HZz.out j hj1 hj
              rwa [List.getD_eq_getElem?_getD, List.getElem?_eq_getElem hjB] at this
            rw [hz] at hce
            have hce2 : wr.cell? ⟨b', off' + j, none⟩ = some (.int .u8 0) := hce
            subst hA'
            have k1 : (0 : Int) ≤ (j : Int) := by omega
            have k2' : (j : Int) < (N' : Int) := by omega
            have k3 : decide ((j : Int) < (N' : Int)) = true := decide_eq_true k2'
            clear hce hz hjB
            go_wp2_with fail
            go_roundw
            case rel => exact ⟨j + 1, by omega, by omega, by go_num, HBj, HRj⟩
            case measure => simp [intOf]; omega
          · have k3 : decide ((j : Int) < (N' : Int)) = false := decide_eq_false (by omega)
            have k4 : ¬ (j : Int) < (N' : Int) := by omega
            have CA := keepd (awake_any wr)
            go_wp2_with fail
            with_reducible refine CA.out.mono ?_
            rintro e w7 ⟨rfl, hb7⟩
            have HB7 := keepd (bCall HBj.out hb7)
            clear hb7 CA
            go_wp2_with fail
            go_ret
            exact ⟨rfl, HB7.out⟩
      · have q0 : decide ((p2 : Int) < (N' : Int)) = false := decide_eq_false (by omega)
        go_wp2_with fail
        go_loopw [13] (fun vi wr => ∃ j : Nat, p2 ≤ j ∧ j ≤ N' ∧ vi = .int .i64 (j : Int) ∧ Hid (Below W.heap.size W wr) ∧ Hid (Rd wr wr.heap.size A' B' c')) (fun vi _ => N' - (intOf vi).toNat)
        case atStart => exact ⟨p2, Nat.le_refl _, hc1, rfl, HB6, HRB6⟩
        case round =>
          obtain ⟨j, hj1, hj2, rfl, HBj, HRj⟩ := hrel
          clear i3 i4 q0
          by_cases hj : j < N'
          · have hjB : j < B'.length := by rw [← HBen.out.1]; exact hj
            obtain ⟨b', off', hA', hbl, hce⟩ := HRj.out.form hjB
            have hz : B'[j] = 0 := by
              have := HZz.out j hj1 hj
              rwa [List.getD_eq_getElem?_getD, List.getElem?_eq_getElem hjB] at this
            rw [hz] at hce
            have hce2 : wr.cell? ⟨b', off' + j, none⟩ = some (.int .u8 0) := hce
            subst hA'
            have k1 : (0 : Int) ≤ (j : Int) := by omega
            have k2' : (j : Int) < (N' : Int) := by omega
            have k3 : decide ((j : Int) < (N' : Int)) = true := decide_eq_true k2'
            clear hce hz hjB
            go_wp2_with fail
            go_roundw
            case rel => exact ⟨j + 1, by omega, by omega, by go_num, HBj, HRj⟩
            case measure => simp [intOf]; omega
          · have k3 : decide ((j : Int) < (N' : Int)) = false := decide_eq_false (by omega)
            have k4 : ¬ (j : Int) < (N' : Int) := by omega
            have CA := keepd (awake_any wr)
            go_wp2_with fail
            with_reducible refine CA.out.mono ?_
            rintro e w7 ⟨rfl, hb7⟩
            have HB7 := keepd (bCall HBj.out hb7)
            clear hb7 CA
            go_wp2_with fail
            go_ret
            exact ⟨rfl, HB7.out⟩

end Go.Proofs.Ytflmplnampgflaa
