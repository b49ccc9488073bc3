/-
  EditorLit's walk. No conditions beyond those each theorem states.
-/
import Derived.Test.YtjhocmeenejjpaaDoorD2
namespace Go.Proofs.YtjhocmeenejjpaaDoor
open Go.RowKit
set_option maxRecDepth 100000

attribute [local go_sem ↓] ex_ld25 ex_st25 ex_al25 ex_bu25 ex_ix25 ex_eq25 ex_ne25 ex_eq23 ex_ne23 ex_ld25o ex_st65 ex_al65 ex_bu65 ex_bu65s ex_ld25d
attribute [local go_sem] ptrB_at okPtr_at aggC_at agg62 agg69 isC_at isT_at eqV_t eqV_c isRow_new isRow_new65 World.setRow_alloc_new ptr4_at okPtr4_at cutT_at isI_at isS_at bW_at bWs_at ptrD_at okPtrD_at cutD_at

set_option maxHeartbeats 16000000 in
theorem lit_law (X : Tb) (room : Int) (A : Option Addr) (l : List UInt8) (c : Nat) (z : Int) (ov li : Bool) (u : UInt8) (w : World) (hL : Laid w) (hr : Rd w w.heap.size A l c) :
    Calls Tryd.prog 6 #[.agg (dk X room A l.length c z ov li).toArray, .int .u8 (u.toNat : Int)] w fun e w' => e = .returned (.bool true) ∧ Below w.heap.size w w' := by
  obtain ⟨n, hn⟩ : ∃ n, n = l.length := ⟨_, rfl⟩
  rw [← hn]
  have HR0 := keepd hr
  have HN := keepd hn
  have HLD := keepd hL
  obtain ⟨m, hm⟩ : ∃ m, (fewL l).length = m := ⟨_, rfl⟩
  have HM := keepd hm
  have HLE : Hid (m ≤ 4100) := by show m ≤ 4100; rw [← hm]; exact (few_le l).1
  clear hn hr hm hL
  go_enter Tryd.func6, Tryd.ntmps6
  go_upto_region 1 with fail
  generalize hV : w.alloc (.cells (dk X room A n c z ov li).toArray 32) = V0
  obtain ⟨HD0, HB0⟩ := desk_new _ _ _ hV
  obtain ⟨⟨r0, r1⟩, r2, r3, r4, r5, r6⟩ := DK.facts HD0.out
  have CF := keepd (one_any A l n c m z ov li V0 HN.out (HR0.out.at_ HB0.out) HM.out)
  clear hV
  go_wp2_with fail
  with_reducible refine CF.out.mono ?_
  rintro e w1 ⟨rfl, hb1⟩
  have HB1 := keepd hb1
  clear hb1 CF r0 r1 r2 r3 r4 r5 r6
  go_upto_region 2 with fail
  generalize hV : w1.alloc (.cells #[.slice A m c, .int .i64 z, .bool ov, .bool li] 30) = V
  generalize hb7 : w1.heap.size = b5
  have HS5 : Hid (SR 30 V b5 [.slice A m c, .int .i64 z, .bool ov, .bool li]) := by rw [← hV, ← hb7]; exact heap_alloc_new w1 _
  have HBV : Hid (Below w.heap.size w V) := by rw [← hV]; exact bAlloc (bCall HB0.out HB1.out) _
  have HDV : Hid (DK V w.heap.size X room A n c z ov li) := by rw [← hV]; exact (SR.call HD0.out HB1.out (SR.lt HD0.out)).alloc _
  have HBG : Hid (w.heap.size < b5) := by show w.heap.size < b5; rw [← hb7]; exact Nat.lt_of_lt_of_le (SR.lt HD0.out) HB1.out.size
  clear hV hb7 HD0 HB0 HB1
  have HRV := keepd (HR0.out.few.at_ HBV.out)
  generalize fewL l = x at *
  clear HR0 HN
  obtain ⟨k0, k1, k2, k3, _, _, _, _, kt⟩ := st_facts HS5.out
  cases hv : mayV m z
  case false =>
    have CK := keepd (echeck_bad A m c z ov li V hv)
    go_wp2_with fail
    with_reducible refine CK.out.mono ?_
    rintro e w2 ⟨rfl, hb2⟩
    have HB2 := keepd (bCall HBV.out hb2)
    clear hb2 CK
    have CW := keepd (eawake_any _ (HLD.out.below HB2.out))
    go_wp2_with fail
    with_reducible refine CW.out.mono ?_
    rintro e w9 ⟨rfl, hb9⟩
    have HB9 := keepd (bCall HB2.out hb9)
    clear hb9 CW
    go_wp2_with fail
    go_ret
    exact ⟨rfl, HB9.out⟩
  obtain ⟨h4, t, rfl, ht⟩ := mayV_inv hv
  have CK := keepd (echeck_ok A m c t ov li V h4 ht)
  clear hv
  go_wp2_with fail
  with_reducible refine CK.out.mono ?_
  rintro e w2 ⟨rfl, hb2⟩
  have HB2 := keepd (bCall HBV.out hb2)
  have HS5b := keepd (SR.call HS5.out hb2 HS5.out.lt)
  have HD2 := keepd (SR.call HDV.out hb2 (SR.lt HDV.out))
  have HR2 := keepd (HRV.out.at_ hb2)
  have HT := keepd (And.intro h4 ht)
  clear hb2 CK k0 k1 k2 k3 kt HS5 HDV HRV HBV h4 ht
  obtain ⟨k0, k1, k2, k3, _, _, _, _, kt⟩ := st_facts HS5b.out
  go_wp2_with fail
  go_cut [6, 7] from 23 to 25 (fun s6 s7 wx => ∃ (b6 b7 : Nat), s6 = .pointer (some ⟨b6, 0, none⟩) ∧ s7 = .pointer (some ⟨b7, 0, none⟩) ∧ Hid (SR 30 wx b6 [.slice A m c, .int .i64 (t : Int), .bool ov, .bool li] ∧ SR 30 wx b7 [.slice A m c, .int .i64 (t : Int), .bool ov, .bool li] ∧ b6 ≠ b7 ∧ w2.heap.size ≤ b6 ∧ w2.heap.size ≤ b7 ∧ Below w2.heap.size w2 wx))
  case first =>
    go_region
    all_goals go_wp2_with fail
    all_goals go_meet
    all_goals obtain ⟨g1, g2, g3⟩ := st_new2 w2 (.slice A m c) (.int .i64 (t : Int)) (.bool ov) (.bool li) (.slice A m c) (.int .i64 (t : Int)) (.bool ov) (.bool li) _ rfl
    · exact ⟨_, _, rfl, rfl, g1.out, g2.out, by omega, Nat.le_refl _, by omega, g3.out.drew⟩
    · exact ⟨_, _, rfl, rfl, g2.out, g1.out, by omega, by omega, Nat.le_refl _, g3.out.drew⟩
  case rest =>
    obtain ⟨b6, b7, rfl, rfl, H67⟩ := hcut
    obtain ⟨V3, hV3⟩ : ∃ V3, V3 = wc := ⟨_, rfl⟩
    subst hV3
    obtain ⟨g6, g7, gne, gl6, gl7, gb⟩ := H67.out
    have h5l : b5 < w2.heap.size := HS5b.out.lt
    obtain ⟨a0, a1, a2, a3, e0, e1, e2, e3, al⟩ := st_facts g6
    obtain ⟨p0, p1, p2, p3, f0, f1, f2, f3, pl⟩ := st_facts g7
    clear k0 k1 k2 k3 kt
    go_upto_region 6 with fail
    generalize hV : (V3.setCell ⟨b6, 3, none⟩ (.bool true)).setCell ⟨b7, 3, none⟩ (.bool false) = V4
    have HS6 : Hid (SR 30 V4 b6 [.slice A m c, .int .i64 (t : Int), .bool ov, .bool true]) := by rw [← hV]; exact (g6.set 3 _).far gne _
    have HS7 : Hid (SR 30 V4 b7 [.slice A m c, .int .i64 (t : Int), .bool ov, .bool false]) := by rw [← hV]; exact (g7.far (Ne.symm gne) _).set 3 _
    have HB24 : Hid (Below w2.heap.size w2 V4) := by rw [← hV]; exact bSet (bSet gb gl6 _) gl7 _
    have HS5 := keepd (SR.call HS5b.out HB24.out h5l)
    have HD4 := keepd (SR.call HD2.out HB24.out (SR.lt HD2.out))
    have HR4 := keepd (HR2.out.at_ HB24.out)
    have HB4 := keepd (bCall HB2.out HB24.out)
    clear hV g6 g7 gne gl6 gl7 gb h5l a0 a1 a2 a3 e0 e1 e2 e3 al p0 p1 p2 p3 f0 f1 f2 f3 pl HS5b HD2 HR2 HB2 HB24 H67
    obtain ⟨l1, t1, hd1⟩ : ∃ l1 t1, tyR x t room ov u = (l1, t1) := ⟨_, _, rfl⟩
    obtain ⟨d, hd⟩ : ∃ d, (tyL x t room ov u).isSome = d := ⟨_, rfl⟩
    obtain ⟨m1, hm1⟩ : ∃ m1, l1.length = m1 := ⟨_, rfl⟩
    obtain ⟨be, hbe⟩ : ∃ be : Nat, (if d then 0 else 1) = be := ⟨_, rfl⟩
    obtain ⟨bell, hbell⟩ : ∃ b, decide (0 < be) = b := ⟨_, rfl⟩
    have hty : typE ⟨x, t, ov, false⟩ room u = ⟨⟨l1, t1, ov, false⟩, [], be⟩ := by unfold typE; simp only [hd1, hd, hbe]
    have hk1 : keyE X room ⟨x, t, ov, true⟩ u = ⟨⟨l1, t1, ov, false⟩, [], be⟩ := hty
    have HTY := keepd hty
    have hbd : (bell == d) = false := by rw [← hbell, ← hbe]; cases d <;> rfl
    have KG := keepd fun (V : World) (hb : Below V4.heap.size V4 V) => key_good X room A x m c t ov true u V HM.out.symm (HR4.out.at_ hb) HT.out.2 HT.out.1 l1 m1 t1 ov false [] 0 be bell hk1 hm1 rfl hbell
    have KP := keepd fun (V : World) (hb : Below V4.heap.size V4 V) (h0 : meanF X (u.toNat : Int) = 0) => key_good X room A x m c t ov false u V HM.out.symm (HR4.out.at_ hb) HT.out.2 HT.out.1 l1 m1 t1 ov false [] 0 be bell (by unfold keyE; simp only [Bool.false_eq_true, if_false, h0]; exact hty) hm1 rfl hbell
    have KT := keepd fun (V : World) (hb : Below V4.heap.size V4 V) => ty_go A x l1 m c t t1 m1 room ov u d V HM.out.symm (HR4.out.at_ hb) HT.out.1 HT.out.2 hd1 hd hm1
    have HM1 := keepd hm1.symm
    have HBD := keepd hbd
    obtain ⟨q, hq⟩ : ∃ q, meanF X (u.toNat : Int) = q := ⟨_, rfl⟩
    have KM := keepd fun (V : World) => meaning_any X (u.toNat : Int) q hq V
    rw [hq] at KP
    clear hty hk1 hd1 hd hm1 hbe hbell hbd hq HTY
    obtain ⟨⟨r0, r1⟩, r2, _, _, _, _⟩ := DK.facts HD4.out
    obtain ⟨k0, k1, k2, k3, _, _, _, _, kt⟩ := st_facts HS6.out
    go_wp2_with fail
    with_reducible refine (KG.out _ (Below.refl _ _)).mono ?_
    rintro e w5 ⟨A5, c5, B5, d5, L5, rfl, hl5, hm5, hr5, hre5, hb5⟩
    go_upto_region 7 with fail
    generalize hV : w5.alloc (.cells #[.slice A5 m1 c5, .int .i64 (t1 : Int), .bool ov, .bool false] 30) = V6
    generalize hb8 : w5.heap.size = b8
    have HS8 : Hid (SR 30 V6 b8 [.slice A5 m1 c5, .int .i64 (t1 : Int), .bool ov, .bool false]) := by rw [← hV, ← hb8]; exact heap_alloc_new w5 _
    have HB46 : Hid (Below V4.heap.size V4 V6) := by rw [← hV]; exact bAlloc hb5 _
    have HR8 : Hid (Rd V6 V6.heap.size A5 l1 c5) := by rw [← hV]; exact hr5.at_ (bAlloc (Below.refl _ _) _)
    have HS5' := keepd (SR.call HS5.out HB46.out HS5.out.lt)
    have HD6 := keepd (SR.call HD4.out HB46.out (SR.lt HD4.out))
    clear hV hb8 hl5 hm5 hr5 hre5 hb5 k0 k1 k2 k3 kt r0 r1 r2 KG HS6
    obtain ⟨⟨r0, r1⟩, r2, _, _, _, _⟩ := DK.facts HD6.out
    obtain ⟨k0, k1, k2, k3, _, _, _, _, kt⟩ := st_facts HS5'.out
    go_wp2_with fail
    with_reducible refine (KT.out _ HB46.out).mono ?_
    rintro e w7 ⟨⟨A7, c7, rfl, ho7⟩, hb7⟩
    go_upto_region 8 with fail
    generalize hV : w7.alloc (.cells #[.slice A7 m1 c7, .int .i64 (t1 : Int)] 28) = V8
    generalize hb11 : w7.heap.size = b11
    have HS11 : Hid (SR 28 V8 b11 [.slice A7 m1 c7, .int .i64 (t1 : Int)]) := by rw [← hV, ← hb11]; exact heap_alloc_new w7 _
    have HB68 : Hid (Below V6.heap.size V6 V8) := by rw [← hV]; exact bAlloc hb7 _
    have HR11 : Hid (Rd V8 V8.heap.size A7 l1 c7) := by rw [← hV]; exact ho7.rdOf.at_ (bAlloc (Below.refl _ _) _)
    have HS8' := keepd (SR.call HS8.out HB68.out HS8.out.lt)
    have HS5c := keepd (SR.call HS5'.out HB68.out HS5'.out.lt)
    have HD8 := keepd (SR.call HD6.out HB68.out (SR.lt HD6.out))
    have HR8' := keepd (HR8.out.at_ HB68.out)
    have HB48 := keepd (bCall HB46.out HB68.out)
    clear hV hb11 ho7 hb7 k0 k1 k2 k3 kt r0 r1 r2 KT HS8 HS5' HD6 HR8 HB46 HB68
    obtain ⟨j0, j1, _, _, jt⟩ := line_facts HS11.out
    obtain ⟨k0, k1, k2, k3, _, _, _, _, kt⟩ := st_facts HS5c.out
    obtain ⟨i0, i1, i2, i3, _, _, _, _, it⟩ := st_facts HS8'.out
    have CL := keepd (same_any A5 A7 l1 l1 m1 m1 c5 c7 (t1 : Int) (t1 : Int) true V8 HM1.out HM1.out HR8'.out HR11.out (by simp))
    have hbd := HBD.out
    have hoo : (ov != ov) = false := by simp
    go_wp2_with fail
    with_reducible refine CL.out.mono ?_
    rintro e w9 ⟨rfl, hb9⟩
    have HB49 := keepd (bCall HB48.out hb9)
    have HS7' := keepd (SR.call HS7.out HB49.out HS7.out.lt)
    have HS8d := keepd (SR.call HS8'.out hb9 HS8'.out.lt)
    have HS5d := keepd (SR.call HS5c.out hb9 HS5c.out.lt)
    have HD9 := keepd (SR.call HD8.out hb9 (SR.lt HD8.out))
    have HR8d := keepd (HR8'.out.at_ hb9)
    clear hb9 CL j0 j1 jt k0 k1 k2 k3 kt i0 i1 i2 i3 it HS11 HS8' HS5c HD8 HR8' HB48 HS7
    obtain ⟨⟨r0, r1⟩, r2, _, _, _, _⟩ := DK.facts HD9.out
    obtain ⟨k0, k1, k2, k3, _, _, _, _, kt⟩ := st_facts HS5d.out
    obtain ⟨i0, i1, i2, i3, _, _, _, _, it⟩ := st_facts HS8d.out
    go_wp2_with fail
    with_reducible refine (KM.out _).mono ?_
    rintro e w10 ⟨rfl, hb10⟩
    have HB410 := keepd (bCall HB49.out hb10)
    have HBZ := keepd (bCall HB4.out HB410.out)
    have HS7e := keepd (SR.call HS7'.out hb10 HS7'.out.lt)
    have HS8e := keepd (SR.call HS8d.out hb10 HS8d.out.lt)
    have HD10 := keepd (SR.call HD9.out hb10 (SR.lt HD9.out))
    have HR8e := keepd (HR8d.out.at_ hb10)
    clear hb10 KM k0 k1 k2 k3 kt i0 i1 i2 i3 it r0 r1 r2 HS7' HS8d HD9 HR8d HS5d
    rcases Nat.eq_zero_or_pos q with h0 | h0
    case inr =>
      have z0 : ((q : Int) != 0) = true := by simp; omega
      have z1 : ¬ (q : Int) = 0 := by omega
      have CW := keepd (eawake_any _ (HLD.out.below HBZ.out))
      go_wp2_with fail
      with_reducible refine CW.out.mono ?_
      rintro e w9 ⟨rfl, hb9⟩
      have HB9 := keepd (bCall HBZ.out hb9)
      clear hb9 CW
      go_wp2_with fail
      go_ret
      exact ⟨rfl, HB9.out⟩
    subst h0
    obtain ⟨⟨r0, r1⟩, r2, _, _, _, _⟩ := DK.facts HD10.out
    obtain ⟨k0, k1, k2, k3, _, _, _, _, kt⟩ := st_facts HS7e.out
    go_wp2_with fail
    with_reducible refine (KP.out _ HB410.out trivial).mono ?_
    rintro e w11 ⟨A9, c9, B9, d9, L9, rfl, hl9, hm9, hr9, hre9, hb9⟩
    go_upto_region 13 with fail
    generalize hV : w11.alloc (.cells #[.slice A9 m1 c9, .int .i64 (t1 : Int), .bool ov, .bool false] 30) = V12
    generalize hb13 : w11.heap.size = b13
    have HS13 : Hid (SR 30 V12 b13 [.slice A9 m1 c9, .int .i64 (t1 : Int), .bool ov, .bool false]) := by rw [← hV, ← hb13]; exact heap_alloc_new w11 _
    have HBx : Hid (Below w10.heap.size w10 V12) := by rw [← hV]; exact bAlloc hb9 _
    have HR13 : Hid (Rd V12 V12.heap.size A9 l1 c9) := by rw [← hV]; exact hr9.at_ (bAlloc (Below.refl _ _) _)
    have HS8f := keepd (SR.call HS8e.out HBx.out HS8e.out.lt)
    have HR8f := keepd (HR8e.out.at_ HBx.out)
    have HB12 := keepd (bCall HBZ.out HBx.out)
    clear hV hb13 hl9 hm9 hr9 hre9 hb9 k0 k1 k2 k3 kt r0 r1 r2 KP
    obtain ⟨k0, k1, k2, k3, _, _, _, _, kt⟩ := st_facts HS13.out
    obtain ⟨i0, i1, i2, i3, _, _, _, _, it⟩ := st_facts HS8f.out
    have CE := keepd (esame_any A9 A5 l1 l1 m1 m1 c9 c5 (t1 : Int) (t1 : Int) ov ov false false true V12 HM1.out HM1.out HR13.out HR8f.out (sameS_iff.2 ⟨rfl, rfl, rfl, rfl⟩))
    have hbb : (bell == bell) = true := by simp
    go_wp2_with fail
    with_reducible refine CE.out.mono ?_
    rintro e w13 ⟨rfl, hb13⟩
    have HB13 := keepd (bCall HB12.out hb13)
    clear hb13 CE
    have CW := keepd (eawake_any _ (HLD.out.below HB13.out))
    go_wp2_with fail
    with_reducible refine CW.out.mono ?_
    rintro e w9 ⟨rfl, hb9⟩
    have HB9 := keepd (bCall HB13.out hb9)
    clear hb9 CW
    go_wp2_with fail
    go_ret
    exact ⟨rfl, HB9.out⟩

end Go.Proofs.YtjhocmeenejjpaaDoor
