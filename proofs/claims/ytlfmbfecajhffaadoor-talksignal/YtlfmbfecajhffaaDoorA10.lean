/-
  Several texts in one: K6 K7. No conditions beyond those each theorem states.
-/
import Derived.Test.YtlfmbfecajhffaaDoorK5
/-
  The examples of the chapter on talks, run. No conditions beyond those each theorem states.
-/
namespace Go.Proofs.YtlfmbfecajhffaaDoor
open Go.RowKit
set_option maxRecDepth 100000

attribute [local go_sem ↓] ex_ld25 ex_st25 ex_al25 ex_bu25 ex_ix25 ex_eq25 ex_ne25 ex_eq23 ex_ne23 ex_ld25o ex_st65 ex_al65 ex_bu65 ex_bu65s ex_ld25d
attribute [local go_sem] ptrB_at okPtr_at aggC_at agg62 agg69 isC_at isT_at eqV_t eqV_c isRow_new isRow_new65 World.setRow_alloc_new ptr4_at okPtr4_at cutT_at isI_at isS_at bW_at bWs_at ptrD_at okPtrD_at cutD_at

theorem kx_new (w : World) (a b x y h k s r : Value) (V : World) (hV : (w.alloc (.cells #[a, b, x, y, h] 34)).alloc (.cells #[k, s, r] 41) = V) :
    Hid (SR 34 V w.heap.size [a, b, x, y, h]) ∧ Hid (SR 41 V (w.heap.size + 1) [k, s, r]) ∧ Hid (Below w.heap.size w V) := by
  subst hV
  have := SR.new 41 (w.alloc (.cells #[a, b, x, y, h] 34)) [k, s, r]
  rw [World.size_alloc] at this
  exact ⟨SR.alloc (SR.new 34 w _) _, this, bAlloc (bAlloc (Below.refl _ _) _) _⟩
theorem taw1 : typeT stdT 99 ⟨⟨[], 0, false, false⟩, false⟩ 97 true false = (⟨⟨[97], 1, false, false⟩, true⟩, ⟨[], 0, 0⟩) := by kernel_rfl
theorem taw2 : typeT stdT 99 ⟨⟨[97], 1, false, false⟩, true⟩ 98 false false = (⟨⟨[97, 98], 2, false, false⟩, false⟩, ⟨[97, 98], 0, 0⟩) := by kernel_rfl
theorem taw3 : typeT stdT 99 ⟨⟨[97], 1, false, false⟩, true⟩ 3 true false = (⟨⟨[], 0, false, false⟩, false⟩, ⟨[97, 3], 3, 0⟩) := by kernel_rfl
theorem ta1 (W : World) : Calls Tryd.prog 11 #[tv stdT, .int .i64 99, .agg #[.slice none 0 0, .int .i64 0, .bool false, .bool false, .bool false], .int .u8 97, .bool true, .bool false] W (GotTy W [97] 1 1 false false true [] 0 0 false) :=
  type_good stdT stdO 99 none [] 0 0 0 false false false 97 true false W rfl (Rd.nil _ _) (by omega) (by omega) [97] 1 1 false false true [] 0 0 0 false taw1 rfl rfl rfl
theorem ta2 (W : World) (A : Option Addr) (c : Nat) (hr : Rd W W.heap.size A [97] c) : Calls Tryd.prog 11 #[tv stdT, .int .i64 99, .agg #[.slice A 1 c, .int .i64 1, .bool false, .bool false, .bool true], .int .u8 98, .bool false, .bool false] W (GotTy W [97, 98] 2 2 false false false [97, 98] 2 0 false) :=
  type_good stdT stdO 99 A [97] 1 c 1 false false true 98 false false W rfl hr (by omega) (by omega) [97, 98] 2 2 false false false [97, 98] 2 0 0 false taw2 rfl rfl rfl
theorem ta3 (W : World) (A : Option Addr) (c : Nat) (hr : Rd W W.heap.size A [97] c) : Calls Tryd.prog 11 #[tv stdT, .int .i64 99, .agg #[.slice A 1 c, .int .i64 1, .bool false, .bool false, .bool true], .int .u8 3, .bool true, .bool false] W (GotTy W [] 0 0 false false false [97, 3] 2 3 false) :=
  type_good stdT stdO 99 A [97] 1 c 1 false false true 3 true false W rfl hr (by omega) (by omega) [] 0 0 false false false [97, 3] 2 3 0 false taw3 rfl rfl rfl

set_option maxHeartbeats 4000000 in
theorem awake_any (w : World) (hL : Laid w) : Calls Tryd.prog 19 #[] w fun e w' => e = .returned (.bool true) ∧ Below w.heap.size w w' := by
  have CS := keepd (standard_any w hL)
  have C1 := keepd ta1
  have C2 := keepd ta2
  have C3 := keepd ta3
  clear hL
  go_enter Tryd.func19, Tryd.ntmps19
  go_wp2_with fail
  with_reducible refine CS.out.mono ?_
  rintro e w0 ⟨rfl, hb0⟩
  have HB0 := keepd hb0
  clear hb0 CS
  go_upto_region 2 with fail
  generalize hV : w0.alloc (.cells (cs stdT).toArray 25) = V0
  obtain ⟨HT0, HBV0⟩ := tab_new _ _ _ hV
  have HBA := keepd (bCall HB0.out HBV0.out)
  obtain ⟨q0, q1⟩ := TB.facts HT0.out
  clear hV HBV0 HB0
  go_wp2_with fail
  with_reducible refine (C1.out _).mono ?_
  rintro e w1 ⟨A1, c1, B1, d1, rfl, hr1, hs1, hb1⟩
  go_upto_region 3 with fail
  generalize hV : (w1.alloc (.cells #[.slice A1 1 c1, .int .i64 1, .bool false, .bool false, .bool true] 34)).alloc (.cells #[.slice B1 0 d1, .int .i64 0, .bool false] 41) = V1
  generalize hg2 : w1.heap.size = g2
  obtain ⟨HK1, HY1, HBV1⟩ := kx_new _ _ _ _ _ _ _ _ _ _ hV
  rw [hg2] at HK1 HY1
  have HB1 : Hid (Below V0.heap.size V0 V1) := bCall hb1 HBV1.out
  have HT1 := keepd (SR.call HT0.out HB1.out (SR.lt HT0.out))
  have HR1 := keepd (hr1.at_ HBV1.out)
  clear q0 q1 hV hg2 hr1 hs1 hb1 HBV1 C1 HT0
  obtain ⟨q0, q1⟩ := TB.facts HT1.out
  obtain ⟨k0, k1, k2, k3, k4, _, _, _, _, _, kt⟩ := tk_facts HK1.out
  go_wp2_with fail
  with_reducible refine (C2.out _ A1 c1 HR1.out).mono ?_
  rintro e w2 ⟨A2, c2, B2, d2, rfl, hr2, hs2, hb2⟩
  go_upto_region 4 with fail
  generalize hV : (w2.alloc (.cells #[.slice A2 2 c2, .int .i64 2, .bool false, .bool false, .bool false] 34)).alloc (.cells #[.slice B2 2 d2, .int .i64 0, .bool false] 41) = V2
  generalize hg4 : w2.heap.size = g4
  obtain ⟨HK2, HY2, HBV2⟩ := kx_new _ _ _ _ _ _ _ _ _ _ hV
  rw [hg4] at HK2 HY2
  have hbx : Below V1.heap.size V1 V2 := bCall hb2 HBV2.out
  have HB2 : Hid (Below V0.heap.size V0 V2) := bCall HB1.out hbx
  have HT2 := keepd (SR.call HT1.out hbx (SR.lt HT1.out))
  have HK12 := keepd (SR.call HK1.out hbx HK1.out.lt)
  have HY12 := keepd (SR.call HY1.out hbx HY1.out.lt)
  have HR12 := keepd (HR1.out.at_ hbx)
  have HS2 := keepd (hs2.at_ HBV2.out)
  clear q0 q1 k0 k1 k2 k3 k4 kt hV hg4 hr2 hs2 hb2 HBV2 C2 HT1 hbx HK1 HY1 HR1 HB1
  obtain ⟨q0, q1⟩ := TB.facts HT2.out
  obtain ⟨k0, k1, k2, k3, k4, _, _, _, _, _, kt⟩ := tk_facts HK12.out
  go_wp2_with fail
  with_reducible refine (C3.out _ A1 c1 HR12.out).mono ?_
  rintro e w3 ⟨A3, c3, B3, d3, rfl, hr3, hs3, hb3⟩
  go_upto_region 5 with fail
  generalize hV : (w3.alloc (.cells #[.slice A3 0 c3, .int .i64 0, .bool false, .bool false, .bool false] 34)).alloc (.cells #[.slice B3 2 d3, .int .i64 3, .bool false] 41) = V3
  generalize hg6 : w3.heap.size = g6
  obtain ⟨HK3, HY3, HBV3⟩ := kx_new _ _ _ _ _ _ _ _ _ _ hV
  rw [hg6] at HK3 HY3
  have hbx : Below V2.heap.size V2 V3 := bCall hb3 HBV3.out
  have HB3 : Hid (Below V0.heap.size V0 V3) := bCall HB2.out hbx
  have HK13 := keepd (SR.call HK12.out hbx HK12.out.lt)
  have HY13 := keepd (SR.call HY12.out hbx HY12.out.lt)
  have HY23 := keepd (SR.call HY2.out hbx HY2.out.lt)
  have d1 : (convert 28 9 (.slice B2 2 d2)).run Tryd.prog V3 = .ok (.string ⟨#[97, 98]⟩) V3 := conv_str (HS2.out.at_ hbx)
  have d2 : (convert 28 9 (.slice B3 2 d3)).run Tryd.prog V3 = .ok (.string ⟨#[97, 3]⟩) V3 := conv_str (hs3.at_ HBV3.out)
  clear q0 q1 k0 k1 k2 k3 k4 kt hV hg6 hr3 hs3 hb3 HBV3 C3 HT2 hbx HK12 HY12 HR12 HB2 HS2
  obtain ⟨k0, k1, k2, k3, k4, _, _, _, _, _, kt⟩ := tk_facts HK13.out
  obtain ⟨i0, i1, i2, _, _, _, it⟩ := ty_facts HY13.out
  obtain ⟨j0, j1, j2, _, _, _, jt⟩ := ty_facts HY23.out
  obtain ⟨n0, n1, n2, _, _, _, nt⟩ := ty_facts HY3.out
  go_wp2_with fail
  go_ret
  exact ⟨rfl, bCall HBA.out HB3.out⟩

end Go.Proofs.YtlfmbfecajhffaaDoor
/-
  A talk cut down to what is looked at. No conditions beyond those each theorem states.
-/
namespace Go.Proofs.YtlfmbfecajhffaaDoor
open Go.RowKit
set_option maxRecDepth 100000

attribute [local go_sem ↓] ex_ld25 ex_st25 ex_al25 ex_bu25 ex_ix25 ex_eq25 ex_ne25 ex_eq23 ex_ne23 ex_ld25o ex_st65 ex_al65 ex_bu65 ex_bu65s ex_ld25d
attribute [local go_sem] ptrB_at okPtr_at aggC_at agg62 agg69 isC_at isT_at eqV_t eqV_c isRow_new isRow_new65 World.setRow_alloc_new ptr4_at okPtr4_at cutT_at isI_at isS_at bW_at bWs_at ptrD_at okPtrD_at cutD_at

set_option maxHeartbeats 1000000 in
theorem oneT_any (A : Option Addr) (l : List UInt8) (n c m : Nat) (z : Int) (ov li h : Bool) (w : World) (hn : n = l.length) (hr : Rd w w.heap.size A l c) (hm : (fewL l).length = m) :
    Calls Tryd.prog 9 #[.agg #[.slice A n c, .int .i64 z, .bool ov, .bool li, .bool h]] w fun e w' => e = .returned (.agg #[.slice A m c, .int .i64 z, .bool ov, .bool li, .bool h]) ∧ Below w.heap.size w w' := by
  have CK := keepd fun (W : World) (hb : Below w.heap.size w W) => one_any A l n c m z ov li W hn (hr.at_ hb) hm
  clear hr hn hm
  go_enter Tryd.func9, Tryd.ntmps9
  go_upto_region 1 with fail
  generalize hV : (w.alloc (.cells #[.slice A n c, .int .i64 z, .bool ov, .bool li, .bool h] 34)).alloc (.cells #[.slice none 0 0, .int .i64 0, .bool false, .bool false, .bool false] 34) = V
  obtain ⟨H, H2, HB⟩ := tk_new2 _ _ _ _ _ _ _ _ _ _ _ _ hV
  obtain ⟨k0, k1, k2, k3, k4, _, _, _, _, _, kt⟩ := tk_facts H.out
  have L2 := keepd H2.out.lt
  clear hV
  go_region_with (with_reducible refine (CK.out _ (HB.out.drew)).mono ?_
                  rintro e w1 ⟨rfl, hb1⟩
                  have hb0 : Below V.heap.size V w1 := noDrew hb1
                  have HB1 := keepd (bCall HB.out hb0)
                  have H3 := keepd (SR.call H.out hb0 H.out.lt)
                  have H4 := keepd (SR.call H2.out hb0 H2.out.lt)
                  clear hb1 hb0 k0 k1 k2 k3 k4 kt
                  obtain ⟨k0, k1, k2, k3, k4, _, _, _, _, _, kt⟩ := tk_facts H3.out
                  obtain ⟨j0, j1, j2, j3, j4, r0, r1, r2, r3, r4, jt⟩ := tk_facts H4.out)
  all_goals
    have HE2 : Hid (Below w.heap.size w (set5 w1 (w.heap.size + 1) (.slice A m c) (.int .i64 z) (.bool ov) (.bool li) (.bool h))) := set5_below HB1.out (by omega)
    go_wp2_with fail
    refine bodyPost_ret (v := .agg #[.slice A m c, .int .i64 z, .bool ov, .bool li, .bool h]) (by simp [results, Tryd.results9, go_sem, j0, j1, j2, j3, j4]) rfl ?_
    exact ⟨rfl, HE2.out⟩

end Go.Proofs.YtlfmbfecajhffaaDoor
