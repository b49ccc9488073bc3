/-
  TalkPass walked. No conditions beyond those each theorem states.
-/
import Derived.Test.YtlfmbfecajhffaaDoorA10
namespace Go.Proofs.YtlfmbfecajhffaaDoor
open Go.RowKit
set_option maxRecDepth 100000

attribute [local go_sem ↓] ex_ld25 ex_st25 ex_al25 ex_bu25 ex_ix25 ex_eq25 ex_ne25 ex_eq23 ex_ne23 ex_ld25o ex_st65 ex_al65 ex_bu65 ex_bu65s ex_ld25d
attribute [local go_sem] ptrB_at okPtr_at aggC_at agg62 agg69 isC_at isT_at eqV_t eqV_c isRow_new isRow_new65 World.setRow_alloc_new ptr4_at okPtr4_at cutT_at isI_at isS_at bW_at bWs_at ptrD_at okPtrD_at cutD_at

theorem fewL_rd {w : World} {A : Option Addr} {l : List UInt8} {c : Nat} (h : Rd w w.heap.size A l c) : Rd w w.heap.size A (fewL l) c := by
  unfold fewL
  split
  · exact h.take 200
  · exact h
set_option maxHeartbeats 8000000 in
theorem pass_law (X : Tb) (hX : TbO X) (A : Option Addr) (l0 : List UInt8) (c : Nat) (z : Int) (ov li h : Bool) (w : World) (hL : Laid w) (hr : Rd w w.heap.size A l0 c) :
    Calls Tryd.prog 8 #[tv X, .agg #[.slice A l0.length c, .int .i64 z, .bool ov, .bool li, .bool h]] w fun e w' => e = .returned (.bool true) ∧ Below w.heap.size w w' := by
  obtain ⟨n, hn⟩ : ∃ n, n = l0.length := ⟨_, rfl⟩
  rw [← hn]
  obtain ⟨m, hm⟩ : ∃ m, (fewL l0).length = m := ⟨_, rfl⟩
  have HX := keepd hX
  have HLD := keepd hL
  have CO := keepd fun (W : World) (hb : Below w.heap.size w W) => oneT_any A l0 n c m z ov li h W hn (hr.at_ hb) hm
  have HR0 := keepd (fewL_rd hr)
  have hml : m ≤ 1000000 := by rw [← hm]; exact Nat.le_trans (few_le l0).1 (by omega)
  have HML := keepd hml
  clear hX hL hr hn hml
  generalize fewL l0 = l at *
  have HN := keepd hm.symm
  obtain ⟨L, hLK⟩ : ∃ L, keysL X ⟨l, z.toNat, ov, li⟩ = L := ⟨_, rfl⟩
  obtain ⟨k, hk⟩ : ∃ k, L.length = k := ⟨_, rfl⟩
  have HLK := keepd hLK
  have HKL := keepd hk
  clear hm hLK hk
  go_enter Tryd.func8, Tryd.ntmps8
  go_upto_region 1 with fail
  generalize hV : (w.alloc (.cells (cs X).toArray 25)).alloc (.cells #[.slice A n c, .int .i64 z, .bool ov, .bool li, .bool h] 34) = V
  obtain ⟨HT, HK, HB⟩ := tabtk_new _ _ _ _ _ _ _ _ hV
  obtain ⟨k0, k1, k2, k3, k4, _, _, _, _, _, kt⟩ := tk_facts HK.out
  clear hV
  go_wp2_with fail
  with_reducible refine (CO.out _ HB.out).mono ?_
  rintro e w1 ⟨rfl, hb1⟩
  have HT1 := keepd (SR.call HT.out hb1 (SR.lt HT.out))
  have HK1 := keepd (SR.call HK.out hb1 HK.out.lt)
  have HB1 := keepd (bCall HB.out hb1)
  have HR1 := keepd (HR0.out.at_ HB1.out)
  clear hb1 k0 k1 k2 k3 k4 kt CO HT HK HB HR0
  obtain ⟨k0, k1, k2, k3, k4, r0, r1, r2, r3, r4, kt⟩ := tk_facts HK1.out
  go_upto_region 2 with fail
  generalize hV : ((((w1.setCell ⟨w.heap.size + 1, 0, none⟩ (.slice A m c)).setCell ⟨w.heap.size + 1, 1, none⟩ (.int .i64 z)).setCell ⟨w.heap.size + 1, 2, none⟩ (.bool ov)).setCell ⟨w.heap.size + 1, 3, none⟩ (.bool li)).setCell ⟨w.heap.size + 1, 4, none⟩ (.bool h) = V2
  have hv2 : V2 = set5 w1 (w.heap.size + 1) (.slice A m c) (.int .i64 z) (.bool ov) (.bool li) (.bool h) := hV.symm
  have HT2 : Hid (TB V2 w.heap.size X) := by rw [hv2]; exact set5_far HT1.out (by omega)
  have HK2 : Hid (SR 34 V2 (w.heap.size + 1) [.slice A m c, .int .i64 z, .bool ov, .bool li, .bool h]) := by rw [hv2]; exact set5_sr HK1.out
  have HB2 : Hid (Below w.heap.size w V2) := by rw [hv2]; exact set5_below HB1.out (by omega)
  have HR2 : Hid (Rd V2 V2.heap.size A l c) := by rw [hv2]; exact (set5_end HK1.out HB1.out (by omega) _ _ _ _ _).1 _ _ _ HR1.out
  clear hv2 hV HT1 HK1 HB1 HR1 k0 k1 k2 k3 k4 r0 r1 r2 r3 r4 kt
  cases hq : mayV m z
  case false =>
    have CP := keepd fun (W : World) (B : Option Addr) (d : Nat) (hb : Rd W W.heap.size B l d) => pass_any X HX.out B l m d z ov li h W HN.out hb HML.out h (by unfold passH; rw [show mayV m z = false from hq]; rfl) [] (by unfold passK; rw [← HN.out, show mayV m z = false from hq]; rfl) 0 (rfl)
    have CP2 := keepd fun (W : World) (B : Option Addr) (d : Nat) (hb : Rd W W.heap.size B l d) => pass_any X HX.out B l m d z ov li h W HN.out hb HML.out h (by unfold passH; rw [show mayV m z = false from hq]; rfl) [] (by unfold passK; rw [← HN.out, show mayV m z = false from hq]; rfl) 0 rfl
    have CC := keepd fun (W : World) => tcheck_bad A m c z ov li h W hq
    clear hq
    obtain ⟨k0, k1, k2, k3, k4, _, _, _, _, _, kt⟩ := tk_facts HK2.out
    obtain ⟨q0, q1⟩ := TB.facts HT2.out
    go_wp2_with fail
    with_reducible refine (CP.out _ A c HR2.out).mono ?_
    rintro e w3 ⟨A3, c3, B3, d3, rfl, hr3, _, hb3⟩
    go_upto_region 3 with fail
    generalize hV : w3.alloc (.cells #[.slice A3 m c3, .int .i64 z, .bool ov, .bool li, .bool h] 34) = V3
    generalize hb5 : w3.heap.size = b5
    obtain ⟨HP3, HBV3⟩ := tk_new _ _ _ _ _ _ _ hV
    rw [hb5] at HP3
    have hbx : Below V2.heap.size V2 V3 := bCall hb3 HBV3.out
    have HB3 := keepd (bCall HB2.out hbx)
    have HT3 := keepd (SR.call HT2.out hbx (SR.lt HT2.out))
    have HK3 := keepd (SR.call HK2.out hbx HK2.out.lt)
    have HR3 := keepd (HR2.out.at_ hbx)
    have HQ3 := keepd (hr3.at_ HBV3.out)
    clear k0 k1 k2 k3 k4 kt q0 q1 hV hb5 hr3 hb3 HBV3 hbx CP HT2 HK2 HR2 HB2
    obtain ⟨k0, k1, k2, k3, k4, _, _, _, _, _, kt⟩ := tk_facts HP3.out
    obtain ⟨q0, q1⟩ := TB.facts HT3.out
    go_wp2_with fail
    with_reducible refine (CP2.out _ A3 c3 HQ3.out).mono ?_
    rintro e w4 ⟨A4, c4, B4, d4, rfl, hr4, _, hb4⟩
    go_upto_region 4 with fail
    generalize hV : w4.alloc (.cells #[.slice A4 m c4, .int .i64 z, .bool ov, .bool li, .bool h] 34) = V4
    generalize hb7 : w4.heap.size = b7
    obtain ⟨HP4, HBV4⟩ := tk_new _ _ _ _ _ _ _ hV
    rw [hb7] at HP4
    have hbx : Below V3.heap.size V3 V4 := bCall hb4 HBV4.out
    have HB4 := keepd (bCall HB3.out hbx)
    have HK4 := keepd (SR.call HK3.out hbx HK3.out.lt)
    have HP34 := keepd (SR.call HP3.out hbx HP3.out.lt)
    have HR4 := keepd (HR3.out.at_ hbx)
    have HQ34 := keepd (HQ3.out.at_ hbx)
    have HQ4 := keepd (hr4.at_ HBV4.out)
    clear k0 k1 k2 k3 k4 kt q0 q1 hV hb7 hr4 hb4 HBV4 hbx CP2 HT3 HK3 HP3 HR3 HQ3 HB3
    obtain ⟨k0, k1, k2, k3, k4, _, _, _, _, _, kt⟩ := tk_facts HK4.out
    go_wp2_with fail
    with_reducible refine (CC.out _).mono ?_
    rintro e w5 ⟨rfl, hb5⟩
    have HB5 := keepd (bCall HB4.out hb5)
    have HK5 := keepd (SR.call HK4.out hb5 HK4.out.lt)
    have HP35 := keepd (SR.call HP34.out hb5 HP34.out.lt)
    have HP45 := keepd (SR.call HP4.out hb5 HP4.out.lt)
    have HR5 := keepd (HR4.out.at_ hb5)
    have HQ35 := keepd (HQ34.out.at_ hb5)
    have HQ45 := keepd (HQ4.out.at_ hb5)
    clear k0 k1 k2 k3 k4 kt hb5 CC HK4 HP34 HP4 HR4 HQ34 HQ4 HB4
    obtain ⟨k0, k1, k2, k3, k4, _, _, _, _, _, kt⟩ := tk_facts HK5.out
    obtain ⟨j0, j1, j2, j3, j4, _, _, _, _, _, jt⟩ := tk_facts HP35.out
    
    have CS := keepd (tsame_any A3 A l l m m c3 c z z ov ov li li h h true w5 HN.out HN.out HQ35.out HR5.out (by rw [sameS_iff.2 ⟨rfl, rfl, rfl, rfl⟩]; simp))
    go_wp2_with fail
    with_reducible refine CS.out.mono ?_
    rintro e w6 ⟨rfl, hb6⟩
    have HB6 := keepd (bCall HB5.out hb6)
    
    have CW := keepd (awake_any w6 (HLD.out.below HB6.out))
    clear hb6 CS
    go_wp2_with fail
    with_reducible refine CW.out.mono ?_
    rintro e w7 ⟨rfl, hb7⟩
    have HB7 := keepd (bCall HB6.out hb7)
    clear hb7 CW
    go_wp2_with fail
    go_ret
    exact ⟨rfl, HB7.out⟩
  case true =>
    cases h
    case false =>
      have CP := keepd fun (W : World) (B : Option Addr) (d : Nat) (hb : Rd W W.heap.size B l d) => pass_any X HX.out B l m d z ov li false W HN.out hb HML.out false (by unfold passH; rw [show mayV m z = true from hq]; rfl) [] (by unfold passK; rw [← HN.out, show mayV m z = true from hq]; rfl) 0 (rfl)
      have CP2 := keepd fun (W : World) (B : Option Addr) (d : Nat) (hb : Rd W W.heap.size B l d) => pass_any X HX.out B l m d z ov li false W HN.out hb HML.out false (by unfold passH; rw [show mayV m z = true from hq]; rfl) [] (by unfold passK; rw [← HN.out, show mayV m z = true from hq]; rfl) 0 rfl
      have CC := keepd fun (W : World) => tcheck_ok A m c z ov li false W hq
      clear hq
      obtain ⟨k0, k1, k2, k3, k4, _, _, _, _, _, kt⟩ := tk_facts HK2.out
      obtain ⟨q0, q1⟩ := TB.facts HT2.out
      go_wp2_with fail
      with_reducible refine (CP.out _ A c HR2.out).mono ?_
      rintro e w3 ⟨A3, c3, B3, d3, rfl, hr3, _, hb3⟩
      go_upto_region 3 with fail
      generalize hV : w3.alloc (.cells #[.slice A3 m c3, .int .i64 z, .bool ov, .bool li, .bool false] 34) = V3
      generalize hb5 : w3.heap.size = b5
      obtain ⟨HP3, HBV3⟩ := tk_new _ _ _ _ _ _ _ hV
      rw [hb5] at HP3
      have hbx : Below V2.heap.size V2 V3 := bCall hb3 HBV3.out
      have HB3 := keepd (bCall HB2.out hbx)
      have HT3 := keepd (SR.call HT2.out hbx (SR.lt HT2.out))
      have HK3 := keepd (SR.call HK2.out hbx HK2.out.lt)
      have HR3 := keepd (HR2.out.at_ hbx)
      have HQ3 := keepd (hr3.at_ HBV3.out)
      clear k0 k1 k2 k3 k4 kt q0 q1 hV hb5 hr3 hb3 HBV3 hbx CP HT2 HK2 HR2 HB2
      obtain ⟨k0, k1, k2, k3, k4, _, _, _, _, _, kt⟩ := tk_facts HP3.out
      obtain ⟨q0, q1⟩ := TB.facts HT3.out
      go_wp2_with fail
      with_reducible refine (CP2.out _ A3 c3 HQ3.out).mono ?_
      rintro e w4 ⟨A4, c4, B4, d4, rfl, hr4, _, hb4⟩
      go_upto_region 4 with fail
      generalize hV : w4.alloc (.cells #[.slice A4 m c4, .int .i64 z, .bool ov, .bool li, .bool false] 34) = V4
      generalize hb7 : w4.heap.size = b7
      obtain ⟨HP4, HBV4⟩ := tk_new _ _ _ _ _ _ _ hV
      rw [hb7] at HP4
      have hbx : Below V3.heap.size V3 V4 := bCall hb4 HBV4.out
      have HB4 := keepd (bCall HB3.out hbx)
      have HK4 := keepd (SR.call HK3.out hbx HK3.out.lt)
      have HP34 := keepd (SR.call HP3.out hbx HP3.out.lt)
      have HR4 := keepd (HR3.out.at_ hbx)
      have HQ34 := keepd (HQ3.out.at_ hbx)
      have HQ4 := keepd (hr4.at_ HBV4.out)
      clear k0 k1 k2 k3 k4 kt q0 q1 hV hb7 hr4 hb4 HBV4 hbx CP2 HT3 HK3 HP3 HR3 HQ3 HB3
      obtain ⟨k0, k1, k2, k3, k4, _, _, _, _, _, kt⟩ := tk_facts HK4.out
      go_wp2_with fail
      with_reducible refine (CC.out _).mono ?_
      rintro e w5 ⟨rfl, hb5⟩
      have HB5 := keepd (bCall HB4.out hb5)
      have HK5 := keepd (SR.call HK4.out hb5 HK4.out.lt)
      have HP35 := keepd (SR.call HP34.out hb5 HP34.out.lt)
      have HP45 := keepd (SR.call HP4.out hb5 HP4.out.lt)
      have HR5 := keepd (HR4.out.at_ hb5)
      have HQ35 := keepd (HQ34.out.at_ hb5)
      have HQ45 := keepd (HQ4.out.at_ hb5)
      clear k0 k1 k2 k3 k4 kt hb5 CC HK4 HP34 HP4 HR4 HQ34 HQ4 HB4
      obtain ⟨k0, k1, k2, k3, k4, _, _, _, _, _, kt⟩ := tk_facts HK5.out
      obtain ⟨j0, j1, j2, j3, j4, _, _, _, _, _, jt⟩ := tk_facts HP35.out
      
      have CE := keepd (esame_any A3 A l l m m c3 c z z ov ov li li true w5 HN.out HN.out HQ35.out HR5.out (sameS_iff.2 ⟨rfl, rfl, rfl, rfl⟩))
      go_wp2_with fail
      with_reducible refine CE.out.mono ?_
      rintro e w5' ⟨rfl, hb5⟩
      have HB5' := keepd (bCall HB5.out hb5)
      have CS := keepd (tsame_any A4 A3 l l m m c4 c3 z z ov ov li li false false true w5' HN.out HN.out (HQ45.out.at_ hb5) (HQ35.out.at_ hb5) (by rw [sameS_iff.2 ⟨rfl, rfl, rfl, rfl⟩]; rfl))
      clear k0 k1 k2 k3 k4 kt j0 j1 j2 j3 j4 jt
      obtain ⟨k0, k1, k2, k3, k4, _, _, _, _, _, kt⟩ := tk_facts (SR.call HP35.out hb5 HP35.out.lt)
      obtain ⟨j0, j1, j2, j3, j4, _, _, _, _, _, jt⟩ := tk_facts (SR.call HP45.out hb5 HP45.out.lt)
      have HK5' := keepd (SR.call HK5.out hb5 HK5.out.lt)
      clear hb5 CE
      go_wp2_with fail
      with_reducible refine CS.out.mono ?_
      rintro e w6 ⟨rfl, hb6⟩
      have HB6 := keepd (bCall HB5'.out hb6)
      clear k0 k1 k2 k3 k4 kt j0 j1 j2 j3 j4 jt
      obtain ⟨k0, k1, k2, k3, k4, _, _, _, _, _, kt⟩ := tk_facts (SR.call HK5'.out hb6 HK5'.out.lt)
      
      have CW := keepd (awake_any w6 (HLD.out.below HB6.out))
      clear hb6 CS
      go_wp2_with fail
      with_reducible refine CW.out.mono ?_
      rintro e w7 ⟨rfl, hb7⟩
      have HB7 := keepd (bCall HB6.out hb7)
      clear hb7 CW
      go_wp2_with fail
      go_ret
      exact ⟨rfl, HB7.out⟩
    case true =>
      have CP := keepd fun (W : World) (B : Option Addr) (d : Nat) (hb : Rd W W.heap.size B l d) => pass_any X HX.out B l m d z ov li true W HN.out hb HML.out false (by unfold passH; rw [show mayV m z = true from hq]; rfl) L (by unfold passK; rw [← HN.out, show mayV m z = true from hq]; exact HLK.out) k (HKL.out)
      have CP2 := keepd fun (W : World) (B : Option Addr) (d : Nat) (hb : Rd W W.heap.size B l d) => pass_any X HX.out B l m d z ov li false W HN.out hb HML.out false (by unfold passH; rw [show mayV m z = true from hq]; rfl) [] (by unfold passK; rw [← HN.out, show mayV m z = true from hq]; rfl) 0 rfl
      have CC := keepd fun (W : World) => tcheck_ok A m c z ov li true W hq
      clear hq
      obtain ⟨k0, k1, k2, k3, k4, _, _, _, _, _, kt⟩ := tk_facts HK2.out
      obtain ⟨q0, q1⟩ := TB.facts HT2.out
      go_wp2_with fail
      with_reducible refine (CP.out _ A c HR2.out).mono ?_
      rintro e w3 ⟨A3, c3, B3, d3, rfl, hr3, _, hb3⟩
      go_upto_region 3 with fail
      generalize hV : w3.alloc (.cells #[.slice A3 m c3, .int .i64 z, .bool ov, .bool li, .bool false] 34) = V3
      generalize hb5 : w3.heap.size = b5
      obtain ⟨HP3, HBV3⟩ := tk_new _ _ _ _ _ _ _ hV
      rw [hb5] at HP3
      have hbx : Below V2.heap.size V2 V3 := bCall hb3 HBV3.out
      have HB3 := keepd (bCall HB2.out hbx)
      have HT3 := keepd (SR.call HT2.out hbx (SR.lt HT2.out))
      have HK3 := keepd (SR.call HK2.out hbx HK2.out.lt)
      have HR3 := keepd (HR2.out.at_ hbx)
      have HQ3 := keepd (hr3.at_ HBV3.out)
      clear k0 k1 k2 k3 k4 kt q0 q1 hV hb5 hr3 hb3 HBV3 hbx CP HT2 HK2 HR2 HB2
      obtain ⟨k0, k1, k2, k3, k4, _, _, _, _, _, kt⟩ := tk_facts HP3.out
      obtain ⟨q0, q1⟩ := TB.facts HT3.out
      go_wp2_with fail
      with_reducible refine (CP2.out _ A3 c3 HQ3.out).mono ?_
      rintro e w4 ⟨A4, c4, B4, d4, rfl, hr4, _, hb4⟩
      go_upto_region 4 with fail
      generalize hV : w4.alloc (.cells #[.slice A4 m c4, .int .i64 z, .bool ov, .bool li, .bool false] 34) = V4
      generalize hb7 : w4.heap.size = b7
      obtain ⟨HP4, HBV4⟩ := tk_new _ _ _ _ _ _ _ hV
      rw [hb7] at HP4
      have hbx : Below V3.heap.size V3 V4 := bCall hb4 HBV4.out
      have HB4 := keepd (bCall HB3.out hbx)
      have HK4 := keepd (SR.call HK3.out hbx HK3.out.lt)
      have HP34 := keepd (SR.call HP3.out hbx HP3.out.lt)
      have HR4 := keepd (HR3.out.at_ hbx)
      have HQ34 := keepd (HQ3.out.at_ hbx)
      have HQ4 := keepd (hr4.at_ HBV4.out)
      clear k0 k1 k2 k3 k4 kt q0 q1 hV hb7 hr4 hb4 HBV4 hbx CP2 HT3 HK3 HP3 HR3 HQ3 HB3
      obtain ⟨k0, k1, k2, k3, k4, _, _, _, _, _, kt⟩ := tk_facts HK4.out
      go_wp2_with fail
      with_reducible refine (CC.out _).mono ?_
      rintro e w5 ⟨rfl, hb5⟩
      have HB5 := keepd (bCall HB4.out hb5)
      have HK5 := keepd (SR.call HK4.out hb5 HK4.out.lt)
      have HP35 := keepd (SR.call HP34.out hb5 HP34.out.lt)
      have HP45 := keepd (SR.call HP4.out hb5 HP4.out.lt)
      have HR5 := keepd (HR4.out.at_ hb5)
      have HQ35 := keepd (HQ34.out.at_ hb5)
      have HQ45 := keepd (HQ4.out.at_ hb5)
      clear k0 k1 k2 k3 k4 kt hb5 CC HK4 HP34 HP4 HR4 HQ34 HQ4 HB4
      obtain ⟨k0, k1, k2, k3, k4, _, _, _, _, _, kt⟩ := tk_facts HK5.out
      obtain ⟨j0, j1, j2, j3, j4, _, _, _, _, _, jt⟩ := tk_facts HP35.out
      
      have CE := keepd (esame_any A3 A l l m m c3 c z z ov ov li li true w5 HN.out HN.out HQ35.out HR5.out (sameS_iff.2 ⟨rfl, rfl, rfl, rfl⟩))
      go_wp2_with fail
      with_reducible refine CE.out.mono ?_
      rintro e w5' ⟨rfl, hb5⟩
      have HB5' := keepd (bCall HB5.out hb5)
      have CS := keepd (tsame_any A4 A3 l l m m c4 c3 z z ov ov li li false false true w5' HN.out HN.out (HQ45.out.at_ hb5) (HQ35.out.at_ hb5) (by rw [sameS_iff.2 ⟨rfl, rfl, rfl, rfl⟩]; rfl))
      clear k0 k1 k2 k3 k4 kt j0 j1 j2 j3 j4 jt
      obtain ⟨k0, k1, k2, k3, k4, _, _, _, _, _, kt⟩ := tk_facts (SR.call HP35.out hb5 HP35.out.lt)
      obtain ⟨j0, j1, j2, j3, j4, _, _, _, _, _, jt⟩ := tk_facts (SR.call HP45.out hb5 HP45.out.lt)
      have HK5' := keepd (SR.call HK5.out hb5 HK5.out.lt)
      clear hb5 CE
      go_wp2_with fail
      with_reducible refine CS.out.mono ?_
      rintro e w6 ⟨rfl, hb6⟩
      have HB6 := keepd (bCall HB5'.out hb6)
      clear k0 k1 k2 k3 k4 kt j0 j1 j2 j3 j4 jt
      obtain ⟨k0, k1, k2, k3, k4, _, _, _, _, _, kt⟩ := tk_facts (SR.call HK5'.out hb6 HK5'.out.lt)
      
      have CW := keepd (awake_any w6 (HLD.out.below HB6.out))
      clear hb6 CS
      go_wp2_with fail
      with_reducible refine CW.out.mono ?_
      rintro e w7 ⟨rfl, hb7⟩
      have HB7 := keepd (bCall HB6.out hb7)
      clear hb7 CW
      go_wp2_with fail
      go_ret
      exact ⟨rfl, HB7.out⟩

end Go.Proofs.YtlfmbfecajhffaaDoor
