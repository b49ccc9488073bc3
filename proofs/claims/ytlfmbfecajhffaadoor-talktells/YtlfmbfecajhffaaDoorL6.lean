/-
  TalkTells walked. No conditions beyond those each theorem states.
-/
import Derived.Test.YtlfmbfecajhffaaDoorK13
import Derived.Test.YtlfmbfecajhffaaDoorL1
import Derived.Test.YtlfmbfecajhffaaDoorA12
namespace Go.Proofs.YtlfmbfecajhffaaDoor
open Go.RowKit
set_option maxRecDepth 100000

attribute [local go_sem ↓] ex_ld25 ex_st25 ex_al25 ex_bu25 ex_ix25 ex_eq25 ex_ne25 ex_eq23 ex_ne23 ex_ld25o ex_st65 ex_al65 ex_bu65 ex_bu65s ex_ld25d
attribute [local go_sem] ptrB_at okPtr_at aggC_at agg62 agg69 isC_at isT_at eqV_t eqV_c isRow_new isRow_new65 World.setRow_alloc_new ptr4_at okPtr4_at cutT_at isI_at isS_at bW_at bWs_at ptrD_at okPtrD_at cutD_at

theorem tk_gr {V : World} {g : Nat} {a b x y h : Value} (H : SR 34 V g [a, b, x, y, h]) : (∀ w : Gr V, w.W.cell? ⟨g, 0, none⟩ = some a) ∧ (∀ w : Gr V, w.W.cell? ⟨g, 1, none⟩ = some b) ∧ (∀ w : Gr V, w.W.cell? ⟨g, 2, none⟩ = some x) ∧ (∀ w : Gr V, w.W.cell? ⟨g, 3, none⟩ = some y) ∧ (∀ w : Gr V, w.W.cell? ⟨g, 4, none⟩ = some h) :=
  ⟨fun w => (SR.call H w.h H.lt).cell 0, fun w => (SR.call H w.h H.lt).cell 1, fun w => (SR.call H w.h H.lt).cell 2, fun w => (SR.call H w.h H.lt).cell 3, fun w => (SR.call H w.h H.lt).cell 4⟩
theorem ty_gr {V : World} {g : Nat} {a b x : Value} (H : SR 41 V g [a, b, x]) : (∀ w : Gr V, w.W.cell? ⟨g, 0, none⟩ = some a) ∧ (∀ w : Gr V, w.W.cell? ⟨g, 1, none⟩ = some b) ∧ (∀ w : Gr V, w.W.cell? ⟨g, 2, none⟩ = some x) :=
  ⟨fun w => (SR.call H w.h H.lt).cell 0, fun w => (SR.call H w.h H.lt).cell 1, fun w => (SR.call H w.h H.lt).cell 2⟩
theorem kx2_new (w : World) (a b x y h k s r : Value) (V : World) (hV : (w.alloc (.cells #[a, b, x, y, h] 34)).alloc (.cells #[k, s, r] 41) = V) :
    Hid (SR 34 V w.heap.size [a, b, x, y, h]) ∧ Hid (SR 41 V (w.heap.size + 1) [k, s, r]) ∧ Hid (Below w.heap.size w V) := kx_new w a b x y h k s r V hV
theorem tells_new (w : World) (X : Tb) (room : Int) (a b x y h p q o : Value) (V : World) (hV : ((w.alloc (.cells (dk X room).toArray 27)).alloc (.cells #[a, b, x, y, h] 34)).alloc (.cells #[p, q, o] 36) = V) :
    Hid (DK V w.heap.size X room) ∧ Hid (SR 34 V (w.heap.size + 1) [a, b, x, y, h]) ∧ Hid (SR 36 V (w.heap.size + 1 + 1) [p, q, o]) ∧ Hid (Below w.heap.size w V) := by
  have h1 := SR.new 27 w (dk X room)
  have h2 := SR.new 34 (w.alloc (.cells (dk X room).toArray 27)) [a, b, x, y, h]
  have h3 := SR.new 36 ((w.alloc (.cells (dk X room).toArray 27)).alloc (.cells #[a, b, x, y, h] 34)) [p, q, o]
  simp only [World.size_alloc] at h2 h3
  subst hV
  exact ⟨SR.alloc (SR.alloc h1 _) _, SR.alloc h2 _, h3, bAlloc (bAlloc (bAlloc (Below.refl _ _) _) _) _⟩
/-- What a key leaves, whatever the talk: by the code, and by the document's own. -/
theorem type_two (X : Tb) (hX : TbO X) (room : Int) (l : List UInt8) (n : Nat) (z : Int) (ov li h : Bool) (u : UInt8) (edit fwd : Bool) (hn : n = l.length) (hl : n ≤ 1000000) :
    ∃ (l2 : List UInt8) (n2 : Nat) (z2 : Int) (ov2 li2 h2 : Bool) (ks2 : List UInt8) (k2 : Nat) (sg : Int) (bell : Bool), l2.length = n2 ∧ ks2.length = k2 ∧
      (∀ (W : World) (A : Option Addr) (c : Nat), Rd W W.heap.size A l c → Calls Tryd.prog 11 #[tv X, .int .i64 room, .agg #[.slice A n c, .int .i64 z, .bool ov, .bool li, .bool h], .int .u8 (u.toNat : Int), .bool edit, .bool fwd] W (GotTy W l2 n2 z2 ov2 li2 h2 ks2 k2 sg bell)) ∧
      (∀ (W : World) (A : Option Addr) (c : Nat), Rd W W.heap.size A l c → Calls Tryd.prog 13 #[tv X, .int .i64 room, .agg #[.slice A n c, .int .i64 z, .bool ov, .bool li, .bool h], .agg #[.int .u8 (u.toNat : Int), .bool edit, .bool fwd]] W (GotTy W l2 n2 z2 ov2 li2 h2 ks2 k2 sg bell)) := by
  cases hm : mayV n z
  · exact ⟨l, n, z, ov, li, h, [], 0, 0, false, hn.symm, rfl, fun W A c hr => type_bad X room A l n c z ov li h u edit fwd W hn hr hl hm, fun W A c hr => rtype_bad X room A l n c z ov li h u edit fwd W hr hm⟩
  · obtain ⟨h2, t, rfl, h1⟩ := mayV_inv hm
    obtain ⟨⟨⟨⟨l1, t1, ov1, li1⟩, h'⟩, ⟨ks, sg, be⟩⟩, hp⟩ : ∃ r, typeT X room ⟨⟨l, t, ov, li⟩, h⟩ u edit fwd = r := ⟨_, rfl⟩
    exact ⟨l1, _, (t1 : Int), ov1, li1, h', ks, _, (sg : Int), _, rfl, rfl, fun W A c hr => type_good X hX room A l n c t ov li h u edit fwd W hn hr h1 h2 l1 _ t1 ov1 li1 h' ks _ sg be _ hp rfl rfl rfl, fun W A c hr => rtype_good X hX room A l n c t ov li h u edit fwd W hn hr h1 h2 l1 _ t1 ov1 li1 h' ks _ sg be _ hp rfl rfl rfl⟩
set_option maxHeartbeats 16000000 in
theorem tells_law (X : Tb) (hX : TbO X) (room : Int) (A : Option Addr) (l0 : List UInt8) (c : Nat) (z : Int) (ov li h : Bool) (u : UInt8) (edit fwd : Bool) (w : World) (hL : Laid w) (hr : Rd w w.heap.size A l0 c) :
    Calls Tryd.prog 3 #[.agg (dk X room).toArray, .agg #[.slice A l0.length c, .int .i64 z, .bool ov, .bool li, .bool h], .agg #[.int .u8 (u.toNat : Int), .bool edit, .bool fwd]] w fun e w' => e = .returned (.bool true) ∧ Below w.heap.size w w' := by
  obtain ⟨n, hn⟩ : ∃ n, n = l0.length := ⟨_, rfl⟩
  rw [← hn]
  obtain ⟨m, hm⟩ : ∃ m, (fewL l0).length = m := ⟨_, rfl⟩
  have HX := keepd hX
  have HLD := keepd hL
  have CO := keepd fun (W : World) (hb : Below w.heap.size w W) => oneT_any A l0 n c m z ov li h W hn (hr.at_ hb) hm
  have HR0 := keepd (fewL_rd hr)
  have hml : m ≤ 1000000 := by rw [← hm]; exact Nat.le_trans (few_le l0).1 (by omega)
  have HML := keepd hml
  clear hX hL hr hn
  generalize fewL l0 = l at *
  have HN := keepd hm.symm
  obtain ⟨l2, n2, z2, ov2, li2, h2, ks2, k2, sg, bell, e1, e2, ct, cr⟩ := type_two X HX.out room l m z ov li h u edit fwd hm.symm hml
  have CT := keepd ct
  have CR := keepd cr
  have HN2 := keepd e1
  have HK2 := keepd e2
  obtain ⟨h1, hh1⟩ : ∃ h1, passH m z h = h1 := ⟨_, rfl⟩
  obtain ⟨ks1, hks1⟩ : ∃ ks1, passK X l z ov li h = ks1 := ⟨_, rfl⟩
  obtain ⟨k1, hk1⟩ : ∃ k1, ks1.length = k1 := ⟨_, rfl⟩
  obtain ⟨q, hq⟩ : ∃ q, mayV m z = q := ⟨_, rfl⟩
  obtain ⟨r0, hr0⟩ : ∃ r0, (sameS l z ov li l2 z2 ov2 li2 && (h1 == h2)) = r0 := ⟨_, rfl⟩
  have CP := keepd fun (W : World) (hb : Rd W W.heap.size A l c) => pass_any X HX.out A l m c z ov li h W hm.symm hb hml h1 hh1 ks1 hks1 k1 hk1
  have CQ := keepd fun (W : World) (hb : Rd W W.heap.size A l c) => rpass_any X HX.out A l m c z ov li h W hm.symm hb h1 hh1 ks1 hks1 k1 hk1
  have HK1 := keepd hk1
  have HQ := keepd hq
  have HR0' := keepd hr0
  clear hm hml e1 e2 ct cr hh1 hks1 hk1 hq hr0
  go_enter Tryd.func3, Tryd.ntmps3
  go_upto_region 1 with fail
  generalize hV : ((w.alloc (.cells (dk X room).toArray 27)).alloc (.cells #[.slice A n c, .int .i64 z, .bool ov, .bool li, .bool h] 34)).alloc (.cells #[.int .u8 (u.toNat : Int), .bool edit, .bool fwd] 36) = V
  obtain ⟨HD, HK, HH, HB⟩ := tells_new _ _ _ _ _ _ _ _ _ _ _ _ hV
  obtain ⟨k0, k1', k2', k3, k4, _, _, _, _, _, kt⟩ := tk_facts HK.out
  clear hV
  go_wp2_with fail
  with_reducible refine (CO.out _ HB.out).mono ?_
  rintro e w1 ⟨rfl, hb1⟩
  have HD1 : Hid (DK w1 w.heap.size X room) := SR.call HD.out hb1 (SR.lt HD.out)
  have HKa := keepd (SR.call HK.out hb1 HK.out.lt)
  have HH1 := keepd (SR.call HH.out hb1 HH.out.lt)
  have HB1 := keepd (bCall HB.out hb1)
  have HR1 := keepd (HR0.out.at_ HB1.out)
  clear hb1 k0 k1' k2' k3 k4 kt CO HD HK HH HB HR0
  obtain ⟨k0, k1', k2', k3, k4, r0', r1, r2, r3, r4, kt⟩ := tk_facts HKa.out
  go_upto_region 2 with fail
  generalize hV : ((((w1.setCell ⟨w.heap.size + 1, 0, none⟩ (.slice A m c)).setCell ⟨w.heap.size + 1, 1, none⟩ (.int .i64 z)).setCell ⟨w.heap.size + 1, 2, none⟩ (.bool ov)).setCell ⟨w.heap.size + 1, 3, none⟩ (.bool li)).setCell ⟨w.heap.size + 1, 4, none⟩ (.bool h) = V2
  have hv2 : V2 = set5 w1 (w.heap.size + 1) (.slice A m c) (.int .i64 z) (.bool ov) (.bool li) (.bool h) := hV.symm
  have HD2 : Hid (DK V2 w.heap.size X room) := by rw [hv2]; exact set5_far HD1.out (by omega)
  have HKb : Hid (SR 34 V2 (w.heap.size + 1) [.slice A m c, .int .i64 z, .bool ov, .bool li, .bool h]) := by rw [hv2]; exact set5_sr HKa.out
  have HH2 : Hid (SR 36 V2 (w.heap.size + 1 + 1) [.int .u8 (u.toNat : Int), .bool edit, .bool fwd]) := by rw [hv2]; exact set5_far HH1.out (by omega)
  have HB2 : Hid (Below w.heap.size w V2) := by rw [hv2]; exact set5_below HB1.out (by omega)
  have HR2 : Hid (Rd V2 V2.heap.size A l c) := by rw [hv2]; exact (set5_end HKa.out HB1.out (by omega) _ _ _ _ _).1 _ _ _ HR1.out
  clear hv2 hV HD1 HKa HH1 HB1 HR1 k0 k1' k2' k3 k4 r0' r1 r2 r3 r4 kt
  have HKb2 := HKb
  clear HKb
  obtain ⟨⟨z0, z1'⟩, z2'⟩ := DK.facts HD2.out
  obtain ⟨k0, k1', k2', k3, k4, _, _, _, _, _, kt⟩ := tk_facts HKb2.out
  obtain ⟨f0, f1, f2, ft⟩ := how_facts HH2.out
  go_wp2_with fail
  with_reducible refine (CP.out _ HR2.out).mono ?_
  rintro e wz ⟨A3, c3, B3, d3, rfl, hrw, how, hbw⟩
  go_upto_region 3 with fail
  generalize hV : wz.alloc (.cells #[.slice A3 m c3, .int .i64 z, .bool ov, .bool li, .bool h1] 34) = V3
  generalize hbz : wz.heap.size = b2
  obtain ⟨HPn, HBz⟩ := tk_new _ _ _ _ _ _ _ hV
  rw [hbz] at HPn
  have hbx : Below V2.heap.size V2 V3 := bCall hbw HBz.out
  have HD3 : Hid (DK V3 w.heap.size X room) := SR.call HD2.out hbx (SR.lt HD2.out)
  have HKb3 := keepd (SR.call HKb2.out hbx HKb2.out.lt)
  have HH3 := keepd (SR.call HH2.out hbx HH2.out.lt)
  have HB3 := keepd (bCall HB2.out hbx)
  have HR3 := keepd (HR2.out.at_ hbx)
  have HP := HPn
  have HRp := keepd (hrw.at_ HBz.out)
  have HSp := keepd (how.rdOf.at_ HBz.out)
  clear HPn hrw how CP
  clear z0 z1' z2' k0 k1' k2' k3 k4 kt f0 f1 f2 ft hV hbz hbw hbx HBz HD2 HKb2 HH2 HB2 HR2
  obtain ⟨⟨z0, z1'⟩, z2'⟩ := DK.facts HD3.out
  obtain ⟨k0, k1', k2', k3, k4, _, _, _, _, _, kt⟩ := tk_facts HKb3.out
  obtain ⟨f0, f1, f2, ft⟩ := how_facts HH3.out
  go_wp2_with fail
  with_reducible refine (CT.out _ A c HR3.out).mono ?_
  rintro e wz ⟨A4, c4, B4, d4, rfl, hrw, hsw, hbw⟩
  go_upto_region 4 with fail
  generalize hV : (wz.alloc (.cells #[.slice A4 n2 c4, .int .i64 z2, .bool ov2, .bool li2, .bool h2] 34)).alloc (.cells #[.slice B4 k2 d4, .int .i64 sg, .bool bell] 41) = V4
  generalize hbz : wz.heap.size = b3
  obtain ⟨HQn, HXn, HBz⟩ := kx2_new _ _ _ _ _ _ _ _ _ _ hV
  rw [hbz] at HQn HXn
  have hbx : Below V3.heap.size V3 V4 := bCall hbw HBz.out
  have HD4 : Hid (DK V4 w.heap.size X room) := SR.call HD3.out hbx (SR.lt HD3.out)
  have HKb4 := keepd (SR.call HKb3.out hbx HKb3.out.lt)
  have HH4 := keepd (SR.call HH3.out hbx HH3.out.lt)
  have HB4 := keepd (bCall HB3.out hbx)
  have HR4 := keepd (HR3.out.at_ hbx)
  have HPn := keepd (SR.call HP.out hbx HP.out.lt)
  have HRpn := keepd (HRp.out.at_ hbx)
  have HSpn := keepd (HSp.out.at_ hbx)
  have HQt := HQn
  have HXt := HXn
  have HRq := keepd (hrw.at_ HBz.out)
  have HSq := keepd (hsw.at_ HBz.out)
  clear HQn HXn hrw hsw CT
  clear z0 z1' z2' k0 k1' k2' k3 k4 kt f0 f1 f2 ft hV hbz hbw hbx HBz HD3 HKb3 HH3 HB3 HR3 HP HRp HSp
  have HP := HPn
  clear HPn
  have HRp := HRpn
  clear HRpn
  have HSp := HSpn
  clear HSpn
  obtain ⟨⟨z0, z1'⟩, z2'⟩ := DK.facts HD4.out
  obtain ⟨k0, k1', k2', k3, k4, _, _, _, _, _, kt⟩ := tk_facts HKb4.out
  obtain ⟨f0, f1, f2, ft⟩ := how_facts HH4.out
  go_wp2_with fail
  with_reducible refine (CQ.out _ HR4.out).mono ?_
  rintro e wz ⟨A5, c5, B5, d5, rfl, hrw, hsw, hbw⟩
  go_upto_region 5 with fail
  generalize hV : wz.alloc (.cells #[.slice A5 m c5, .int .i64 z, .bool ov, .bool li, .bool h1] 34) = V5
  generalize hbz : wz.heap.size = b4
  obtain ⟨HWn, HBz⟩ := tk_new _ _ _ _ _ _ _ hV
  rw [hbz] at HWn
  have hbx : Below V4.heap.size V4 V5 := bCall hbw HBz.out
  have HD5 : Hid (DK V5 w.heap.size X room) := SR.call HD4.out hbx (SR.lt HD4.out)
  have HKb5 := keepd (SR.call HKb4.out hbx HKb4.out.lt)
  have HH5 := keepd (SR.call HH4.out hbx HH4.out.lt)
  have HB5 := keepd (bCall HB4.out hbx)
  have HR5 := keepd (HR4.out.at_ hbx)
  have HPn := keepd (SR.call HP.out hbx HP.out.lt)
  have HRpn := keepd (HRp.out.at_ hbx)
  have HSpn := keepd (HSp.out.at_ hbx)
  have HQtn := keepd (SR.call HQt.out hbx HQt.out.lt)
  have HXtn := keepd (SR.call HXt.out hbx HXt.out.lt)
  have HRqn := keepd (HRq.out.at_ hbx)
  have HSqn := keepd (HSq.out.at_ hbx)
  have HW := HWn
  have HRr := keepd (hrw.at_ HBz.out)
  have HSr := keepd (hsw.at_ HBz.out)
  clear HWn hrw hsw CQ
  clear z0 z1' z2' k0 k1' k2' k3 k4 kt f0 f1 f2 ft hV hbz hbw hbx HBz HD4 HKb4 HH4 HB4 HR4 HP HRp HSp HQt HXt HRq HSq
  have HP := HPn
  clear HPn
  have HRp := HRpn
  clear HRpn
  have HSp := HSpn
  clear HSpn
  have HQt := HQtn
  clear HQtn
  have HXt := HXtn
  clear HXtn
  have HRq := HRqn
  clear HRqn
  have HSq := HSqn
  clear HSqn
  obtain ⟨⟨z0, z1'⟩, z2'⟩ := DK.facts HD5.out
  obtain ⟨k0, k1', k2', k3, k4, _, _, _, _, _, kt⟩ := tk_facts HKb5.out
  obtain ⟨f0, f1, f2, ft⟩ := how_facts HH5.out
  go_wp2_with fail
  with_reducible refine (CR.out _ A c HR5.out).mono ?_
  rintro e wz ⟨A6, c6, B6, d6, rfl, hrw, hsw, hbw⟩
  go_upto_region 6 with fail
  generalize hV : (wz.alloc (.cells #[.slice A6 n2 c6, .int .i64 z2, .bool ov2, .bool li2, .bool h2] 34)).alloc (.cells #[.slice B6 k2 d6, .int .i64 sg, .bool bell] 41) = V6
  generalize hbz : wz.heap.size = b5
  obtain ⟨HSn, HYn, HBz⟩ := kx2_new _ _ _ _ _ _ _ _ _ _ hV
  rw [hbz] at HSn HYn
  have hbx : Below V5.heap.size V5 V6 := bCall hbw HBz.out
  have HD6 : Hid (DK V6 w.heap.size X room) := SR.call HD5.out hbx (SR.lt HD5.out)
  have HKb6 := keepd (SR.call HKb5.out hbx HKb5.out.lt)
  have HH6 := keepd (SR.call HH5.out hbx HH5.out.lt)
  have HB6 := keepd (bCall HB5.out hbx)
  have HR6 := keepd (HR5.out.at_ hbx)
  have HPn := keepd (SR.call HP.out hbx HP.out.lt)
  have HRpn := keepd (HRp.out.at_ hbx)
  have HSpn := keepd (HSp.out.at_ hbx)
  have HQtn := keepd (SR.call HQt.out hbx HQt.out.lt)
  have HXtn := keepd (SR.call HXt.out hbx HXt.out.lt)
  have HRqn := keepd (HRq.out.at_ hbx)
  have HSqn := keepd (HSq.out.at_ hbx)
  have HWn := keepd (SR.call HW.out hbx HW.out.lt)
  have HRrn := keepd (HRr.out.at_ hbx)
  have HSrn := keepd (HSr.out.at_ hbx)
  have HSt := HSn
  have HYt := HYn
  have HRs := keepd (hrw.at_ HBz.out)
  have HSs := keepd (hsw.at_ HBz.out)
  clear HSn HYn hrw hsw CR
  clear z0 z1' z2' k0 k1' k2' k3 k4 kt f0 f1 f2 ft hV hbz hbw hbx HBz HD5 HKb5 HH5 HB5 HR5 HP HRp HSp HQt HXt HRq HSq HW HRr HSr
  have HP := HPn
  clear HPn
  have HRp := HRpn
  clear HRpn
  have HSp := HSpn
  clear HSpn
  have HQt := HQtn
  clear HQtn
  have HXt := HXtn
  clear HXtn
  have HRq := HRqn
  clear HRqn
  have HSq := HSqn
  clear HSqn
  have HW := HWn
  clear HWn
  have HRr := HRrn
  clear HRrn
  have HSr := HSrn
  clear HSrn
  have HK6 := HKb6
  have HP6 := HP
  have HQ6 := HQt
  have HX6 := HXt
  have HW6 := HW
  have HS6 := HSt
  have HY6 := HYt
  go_upto_region 6 with fail
  have CC := keepd fun y : Gr V6 => tcheck_any A m c z ov li h q y.W HQ.out
  have CM := keepd fun y : Gr V6 => ermay_any A m c z ov li q y.W HQ.out
  have C1 := keepd fun y : Gr V6 => rtsame_any A3 A5 l l m m c3 c5 z z ov ov li li h1 h1 true y.W HN.out HN.out (HRp.out.at_ y.h) (HRr.out.at_ y.h) (by rw [sameS_iff.2 ⟨rfl, rfl, rfl, rfl⟩]; simp)
  have C2 := keepd fun y : Gr V6 => octets_any B3 B5 ks1 ks1 k1 k1 d3 d5 true y.W HK1.out.symm HK1.out.symm (HSp.out.at_ y.h) (HSr.out.at_ y.h) (by simp)
  have C3 := keepd fun y : Gr V6 => rtsame_any A4 A6 l2 l2 n2 n2 c4 c6 z2 z2 ov2 ov2 li2 li2 h2 h2 true y.W HN2.out.symm HN2.out.symm (HRq.out.at_ y.h) (HRs.out.at_ y.h) (by rw [sameS_iff.2 ⟨rfl, rfl, rfl, rfl⟩]; simp)
  have C4 := keepd fun y : Gr V6 => octets_any B4 B6 ks2 ks2 k2 k2 d4 d6 true y.W HK2.out.symm HK2.out.symm (HSq.out.at_ y.h) (HSs.out.at_ y.h) (by simp)
  have C5 := keepd fun y : Gr V6 => tsame_any A3 A4 l l2 m n2 c3 c4 z z2 ov ov2 li li2 h1 h2 r0 y.W HN.out HN2.out.symm (HRp.out.at_ y.h) (HRq.out.at_ y.h) HR0'.out
  have C6 := keepd fun y : Gr V6 => rtsame_any A5 A6 l l2 m n2 c5 c6 z z2 ov ov2 li li2 h1 h2 r0 y.W HN.out HN2.out.symm (HRr.out.at_ y.h) (HRs.out.at_ y.h) HR0'.out
  have CW := keepd fun y : Gr V6 => awake_any y.W (HLD.out.below (bCall HB6.out y.h))
  obtain ⟨a0, a1, a2, a3, a4⟩ := tk_gr HK6.out
  obtain ⟨p0, p1, p2, p3, p4⟩ := tk_gr HP6.out
  obtain ⟨x0, x1, x2, x3, x4⟩ := tk_gr HQ6.out
  obtain ⟨y0, y1, y2, y3, y4⟩ := tk_gr HW6.out
  obtain ⟨v0, v1, v2, v3, v4⟩ := tk_gr HS6.out
  obtain ⟨f0, f1, f2⟩ := ty_gr HX6.out
  obtain ⟨g0, g1, g2⟩ := ty_gr HY6.out
  have t1 : (cerr q == 0) = q := by cases q <;> rfl
  have t2 : (q == q) = true := by simp
  have t3 : (sg == sg) = true := by simp
  have t4 : (bell == bell) = true := by simp
  have t5 : (r0 == r0) = true := by simp
  refine wp_region_gr (by kernel_rfl) (by kernel_rfl) ?_
  repeat
    refine wpQuiet_step (fun K hK => ?_)
    first
      | (refine gr_want (by rfl) ?_
         go_simp
         first
           | (refine hK _ ?_; clear hK K)
           | (apply Exists.intro
              refine ⟨fun _ => ?_, hK _ ?_⟩
              (first
                | (go_at_call 14; with_reducible exact Gr.call (CC.out _))
                | (go_at_call 15; with_reducible exact Gr.call (CM.out _))
                | (go_at_call 16; with_reducible exact Gr.call (C1.out _))
                | (go_at_call 16; with_reducible exact Gr.call (C3.out _))
                | (go_at_call 16; with_reducible exact Gr.call (C6.out _))
                | (go_at_call 17; with_reducible exact Gr.same (C2.out _))
                | (go_at_call 17; with_reducible exact Gr.same (C4.out _))
                | (go_at_call 18; with_reducible exact Gr.call (C5.out _))
                | (go_at_call 19; with_reducible exact Gr.call (CW.out _)))
              clear hK K))
      | (refine gr_skip (by rfl) ?_
         go_simp
         refine hK _ ?_
         clear hK K)
  refine wpQuiet_nil ?_
  intro y9
  have HBz := keepd (bCall HB6.out y9.h)
  go_wp2_with fail
  go_ret
  exact ⟨rfl, HBz.out⟩

end Go.Proofs.YtlfmbfecajhffaaDoor
