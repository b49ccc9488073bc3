/-
  EditorSignals' walk. No conditions beyond those each theorem states.
-/
import Derived.Test.YtjhocmeenejjpaaDoorD3
namespace Go.Proofs.YtjhocmeenejjpaaDoor
open Go.RowKit
set_option maxRecDepth 100000

attribute [local go_sem ↓] ex_ld25 ex_st25 ex_al25 ex_bu25 ex_ix25 ex_eq25 ex_ne25 ex_eq23 ex_ne23 ex_ld25o ex_st65 ex_al65 ex_bu65 ex_bu65s ex_ld25d
attribute [local go_sem] ptrB_at okPtr_at aggC_at agg62 agg69 isC_at isT_at eqV_t eqV_c isRow_new isRow_new65 World.setRow_alloc_new ptr4_at okPtr4_at cutT_at isI_at isS_at bW_at bWs_at ptrD_at okPtrD_at cutD_at

theorem key_is {X : Tb} {f k : Int} (h : keyF X f = (k, true)) : 1 ≤ f ∧ (meanF X k : Int) = f ∧ (k = 13 ∨ ∃ i, k = (X i).v) := by
  unfold keyF at h
  by_cases e : f = 31
  · rw [if_pos e, Prod.mk.injEq] at h
    rw [← h.1, e]
    exact ⟨by omega, by simp [meanF], .inl rfl⟩
  · rw [if_neg e] at h
    by_cases g : 0 < f ∧ f < 31 ∧ meanF X (X f.toNat).v = f.toNat
    · rw [if_pos g, Prod.mk.injEq] at h
      rw [← h.1]
      exact ⟨by omega, by omega, .inr ⟨_, rfl⟩⟩
    · rw [if_neg g, Prod.mk.injEq] at h
      cases h.2


theorem u8_of {k : Int} (h : 0 ≤ k ∧ k ≤ 255) : ∃ u : UInt8, k = (u.toNat : Int) := by
  refine ⟨UInt8.ofNat k.toNat, ?_⟩
  rw [UInt8.toNat_ofNat']
  omega
set_option maxHeartbeats 16000000 in
theorem signals_law (X : Tb) (room : Int) (A : Option Addr) (l : List UInt8) (c : Nat) (z : Int) (ov li : Bool) (f : Int) (w : World) (hL : Laid w) (hr : Rd w w.heap.size A l c) (hx : ∀ i, 0 ≤ (X i).v ∧ (X i).v ≤ 255) :
    Calls Tryd.prog 7 #[.agg (dk X room A l.length c z ov li).toArray, .int .i64 f] w fun e w' => e = .returned (.bool true) ∧ Below w.heap.size w w' := by
  have HXB := keepd hx
  clear hx
  obtain ⟨n, hn⟩ : ∃ n, n = l.length := ⟨_, rfl⟩
  rw [← hn]
  have HR0 := keepd hr
  have HN := keepd hn
  have HLD := keepd hL
  obtain ⟨m, hm⟩ : ∃ m, (fewL l).length = m := ⟨_, rfl⟩
  have HM := keepd hm
  have HLE : Hid (m ≤ 4100) := by show m ≤ 4100; rw [← hm]; exact (few_le l).1
  clear hn hr hm hL
  go_enter Tryd.func7, Tryd.ntmps7
  go_upto_region 1 with fail
  generalize hV : w.alloc (.cells (dk X room A n c z ov li).toArray 32) = V0
  obtain ⟨HD0, HB0⟩ := desk_new _ _ _ hV
  obtain ⟨⟨r0, r1⟩, r2, r3, r4, r5, r6⟩ := DK.facts HD0.out
  have CF := keepd (one_any A l n c m z ov li V0 HN.out (HR0.out.at_ HB0.out) HM.out)
  clear hV
  go_wp2_with fail
  with_reducible refine CF.out.mono ?_
  rintro e w1 ⟨rfl, hb1⟩
  have HB1 := keepd hb1
  clear hb1 CF r0 r1 r2 r3 r4 r5 r6
  go_upto_region 2 with fail
  generalize hV : w1.alloc (.cells #[.slice A m c, .int .i64 z, .bool ov, .bool li] 30) = V
  generalize hb7 : w1.heap.size = b5
  have HS5 : Hid (SR 30 V b5 [.slice A m c, .int .i64 z, .bool ov, .bool li]) := by rw [← hV, ← hb7]; exact heap_alloc_new w1 _
  have HBV : Hid (Below w.heap.size w V) := by rw [← hV]; exact bAlloc (bCall HB0.out HB1.out) _
  have HDV : Hid (DK V w.heap.size X room A n c z ov li) := by rw [← hV]; exact (SR.call HD0.out HB1.out (SR.lt HD0.out)).alloc _
  have HBG : Hid (w.heap.size < b5) := by show w.heap.size < b5; rw [← hb7]; exact Nat.lt_of_lt_of_le (SR.lt HD0.out) HB1.out.size
  clear hV hb7 HD0 HB0 HB1
  have HRV := keepd (HR0.out.few.at_ HBV.out)
  generalize fewL l = x at *
  clear HR0 HN
  obtain ⟨k0, k1, k2, k3, _, _, _, _, kt⟩ := st_facts HS5.out
  cases hv : mayV m z
  case false =>
    have CK := keepd (sig_bad A x m c z ov li f V HM.out.symm HRV.out (by have := HLE.out; omega) hv)
    go_wp2_with fail
    with_reducible refine CK.out.mono ?_
    rintro e w3 ⟨A3, c3, B3, d3, L3, rfl, hl3, hm3, hr3, hre3, hb3⟩
    go_upto_region 3 with fail
    generalize hV : w3.alloc (.cells #[.slice A3 m c3, .int .i64 z, .bool ov, .bool li] 30) = V4
    generalize hb6 : w3.heap.size = b6
    have HS6 : Hid (SR 30 V4 b6 [.slice A3 m c3, .int .i64 z, .bool ov, .bool li]) := by rw [← hV, ← hb6]; exact heap_alloc_new w3 _
    have HBV4 : Hid (Below V.heap.size V V4) := by rw [← hV]; exact bAlloc hb3 _
    have HR3 : Hid (Rd V4 V4.heap.size A3 x c3) := by rw [← hV]; exact hr3.at_ (bAlloc (Below.refl _ _) _)
    have HE3 : Hid (RdE V4 B3 L3 d3) := by rw [← hV]; exact hre3.at_ (bAlloc (Below.refl _ _) _)
    have HL3 := keepd (And.intro hl3 hm3)
    have HS54 := keepd (SR.call HS5.out HBV4.out HS5.out.lt)
    have HD4 := keepd (SR.call HDV.out HBV4.out (SR.lt HDV.out))
    have HR54 := keepd (HRV.out.at_ HBV4.out)
    have HB4 := keepd (bCall HBV.out HBV4.out)
    clear hV hb6 hl3 hm3 hr3 hre3 hb3 CK k0 k1 k2 k3 kt HS5 HDV HRV HBV HBV4
    obtain ⟨k0, k1, k2, k3, _, _, _, _, kt⟩ := st_facts HS54.out
    obtain ⟨i0, i1, i2, i3, _, _, _, _, it⟩ := st_facts HS6.out
    have CE := keepd (esame_any A3 A x x m m c3 c z z ov ov li li true V4 HM.out.symm HM.out.symm HR3.out HR54.out (sameS_iff.2 ⟨rfl, rfl, rfl, rfl⟩))
    go_wp2_with fail
    with_reducible refine CE.out.mono ?_
    rintro e w5 ⟨rfl, hb5⟩
    have HB6 := keepd (bCall HB4.out hb5)
    clear hb5 CE
    have CW := keepd (eawake_any _ (HLD.out.below HB6.out))
    go_wp2_with fail
    with_reducible refine CW.out.mono ?_
    rintro e w9 ⟨rfl, hb9⟩
    have HB9 := keepd (bCall HB6.out hb9)
    clear hb9 CW
    go_wp2_with fail
    go_ret
    exact ⟨rfl, HB9.out⟩
  obtain ⟨h4, t, hzt0, ht⟩ := mayV_inv hv
  have hzt := keepd hzt0
  clear hzt0
  cases hf : isSig f
  case false =>
    have CK := keepd (sig_not A x m c t z ov li f V HM.out.symm HRV.out h4 ht hzt.out hf)
    go_wp2_with fail
    with_reducible refine CK.out.mono ?_
    rintro e w3 ⟨A3, c3, B3, d3, L3, rfl, hl3, hm3, hr3, hre3, hb3⟩
    go_upto_region 3 with fail
    generalize hV : w3.alloc (.cells #[.slice A3 m c3, .int .i64 z, .bool ov, .bool li] 30) = V4
    generalize hb6 : w3.heap.size = b6
    have HS6 : Hid (SR 30 V4 b6 [.slice A3 m c3, .int .i64 z, .bool ov, .bool li]) := by rw [← hV, ← hb6]; exact heap_alloc_new w3 _
    have HBV4 : Hid (Below V.heap.size V V4) := by rw [← hV]; exact bAlloc hb3 _
    have HR3 : Hid (Rd V4 V4.heap.size A3 x c3) := by rw [← hV]; exact hr3.at_ (bAlloc (Below.refl _ _) _)
    have HE3 : Hid (RdE V4 B3 L3 d3) := by rw [← hV]; exact hre3.at_ (bAlloc (Below.refl _ _) _)
    have HL3 := keepd (And.intro hl3 hm3)
    have HS54 := keepd (SR.call HS5.out HBV4.out HS5.out.lt)
    have HD4 := keepd (SR.call HDV.out HBV4.out (SR.lt HDV.out))
    have HR54 := keepd (HRV.out.at_ HBV4.out)
    have HB4 := keepd (bCall HBV.out HBV4.out)
    clear hV hb6 hl3 hm3 hr3 hre3 hb3 CK k0 k1 k2 k3 kt HS5 HDV HRV HBV HBV4
    obtain ⟨k0, k1, k2, k3, _, _, _, _, kt⟩ := st_facts HS54.out
    obtain ⟨i0, i1, i2, i3, _, _, _, _, it⟩ := st_facts HS6.out
    have CE := keepd (esame_any A3 A x x m m c3 c z z ov ov li li true V4 HM.out.symm HM.out.symm HR3.out HR54.out (sameS_iff.2 ⟨rfl, rfl, rfl, rfl⟩))
    go_wp2_with fail
    with_reducible refine CE.out.mono ?_
    rintro e w5 ⟨rfl, hb5⟩
    have HB6 := keepd (bCall HB4.out hb5)
    clear hb5 CE
    have CW := keepd (eawake_any _ (HLD.out.below HB6.out))
    go_wp2_with fail
    with_reducible refine CW.out.mono ?_
    rintro e w9 ⟨rfl, hb9⟩
    have HB9 := keepd (bCall HB6.out hb9)
    clear hb9 CW
    go_wp2_with fail
    go_ret
    exact ⟨rfl, HB9.out⟩
  have hzt1 := hzt.out
  clear hzt
  subst hzt1
  obtain ⟨⟨l1, t1, ov1, li1⟩, hke⟩ : ∃ r, sigS ⟨x, t, ov, li⟩ f = r := ⟨_, rfl⟩
  obtain ⟨n1, hn1⟩ : ∃ n1, l1.length = n1 := ⟨_, rfl⟩
  have CK := keepd (sig_any A x m c t (t : Int) ov li f V HM.out.symm HRV.out h4 ht rfl hf l1 n1 t1 ov1 li1 hke hn1)
  have HKE := keepd hke
  have HT := keepd (And.intro h4 ht)
  have HN1 := keepd hn1.symm
  have HF := keepd hf
  clear hke hn1 hv h4 ht hf
  go_wp2_with fail
  with_reducible refine CK.out.mono ?_
  rintro e w3 ⟨A3, c3, B3, d3, L3, rfl, hl3, hm3, hr3, hre3, hb3⟩
  go_upto_region 3 with fail
  generalize hV : w3.alloc (.cells #[.slice A3 n1 c3, .int .i64 (t1 : Int), .bool ov1, .bool li1] 30) = V4
  generalize hb6 : w3.heap.size = b6
  have HS6 : Hid (SR 30 V4 b6 [.slice A3 n1 c3, .int .i64 (t1 : Int), .bool ov1, .bool li1]) := by rw [← hV, ← hb6]; exact heap_alloc_new w3 _
  have HBV4 : Hid (Below V.heap.size V V4) := by rw [← hV]; exact bAlloc hb3 _
  have HR3 : Hid (Rd V4 V4.heap.size A3 l1 c3) := by rw [← hV]; exact hr3.at_ (bAlloc (Below.refl _ _) _)
  have HE3 : Hid (RdE V4 B3 L3 d3) := by rw [← hV]; exact hre3.at_ (bAlloc (Below.refl _ _) _)
  have HL3 := keepd (And.intro hl3 hm3)
  have HS54 := keepd (SR.call HS5.out HBV4.out HS5.out.lt)
  have HD4 := keepd (SR.call HDV.out HBV4.out (SR.lt HDV.out))
  have HR54 := keepd (HRV.out.at_ HBV4.out)
  have HB4 := keepd (bCall HBV.out HBV4.out)
  clear hV hb6 hl3 hm3 hr3 hre3 hb3 CK k0 k1 k2 k3 kt HS5 HDV HRV HBV HBV4
  obtain ⟨k0, k1, k2, k3, _, _, _, _, kt⟩ := st_facts HS54.out
  obtain ⟨i0, i1, i2, i3, _, _, _, _, it⟩ := st_facts HS6.out
  by_cases h4 : f = 4
  · subst h4
    have hss : sigS ⟨x, t, ov, li⟩ 4 = ⟨x, t, ov, false⟩ := by unfold sigS stays; simp
    rw [HKE.out] at hss
    simp only [Ed.mk.injEq] at hss
    obtain ⟨rfl, rfl, rfl, rfl⟩ := hss
    obtain rfl : n1 = m := by rw [HN1.out, HM.out]
    have hoo : (ov1 != ov1) = false := by simp
    have CE := keepd (same_any A3 A l1 l1 n1 n1 c3 c (t1 : Int) (t1 : Int) true V4 HN1.out HN1.out HR3.out HR54.out (by simp))
    go_wp2_with fail
    with_reducible refine CE.out.mono ?_
    rintro e w5 ⟨rfl, hb5⟩
    have HS54b := keepd (SR.call HS54.out hb5 HS54.out.lt)
    have HS6b := keepd (SR.call HS6.out hb5 HS6.out.lt)
    have HD4b := keepd (SR.call HD4.out hb5 (SR.lt HD4.out))
    have HR54b := keepd (HR54.out.at_ hb5)
    have HR3b := keepd (HR3.out.at_ hb5)
    have HE3b := keepd (HE3.out.at_ hb5)
    have HB4b := keepd (bCall HB4.out hb5)
    clear hb5 CE k0 k1 k2 k3 kt i0 i1 i2 i3 it HS54 HS6 HD4 HR54 HR3 HE3 HB4
    obtain ⟨HS54, HS6, HD4, HR54, HR3, HE3, HB4⟩ := And.intro HS54b (And.intro HS6b (And.intro HD4b (And.intro HR54b (And.intro HR3b (And.intro HE3b HB4b)))))
    clear HS54b HS6b HD4b HR54b HR3b HE3b HB4b
    obtain ⟨k0, k1, k2, k3, _, _, _, _, kt⟩ := st_facts HS54.out
    obtain ⟨i0, i1, i2, i3, _, _, _, _, it⟩ := st_facts HS6.out
    have KK := keepd fun (W : World) (k : Int) (b : Bool) (h : keyF X 4 = (k, b)) => key_any X 4 k b h W
    obtain ⟨k, b, hkb⟩ : ∃ k b, keyF X 4 = (k, b) := ⟨_, _, rfl⟩
    have CK := keepd (KK.out w5 k b hkb)
    have HKB := keepd hkb
    obtain ⟨⟨r0, r1⟩, r2, _, _, _, _⟩ := DK.facts HD4.out
    clear KK hkb
    go_wp2_with fail
    with_reducible refine CK.out.mono ?_
    rintro e w6 ⟨rfl, hb6⟩
    have HS57 := keepd (SR.call HS54.out hb6 HS54.out.lt)
    have HS67 := keepd (SR.call HS6.out hb6 HS6.out.lt)
    have HD7 := keepd (SR.call HD4.out hb6 (SR.lt HD4.out))
    have HR57 := keepd (HR54.out.at_ hb6)
    have HR37 := keepd (HR3.out.at_ hb6)
    have HE37 := keepd (HE3.out.at_ hb6)
    have HB7 := keepd (bCall HB4.out hb6)
    clear hb6 CK k0 k1 k2 k3 kt i0 i1 i2 i3 it r0 r1 r2 HS54 HS6 HD4 HR54 HR3 HE3 HB4
    obtain ⟨⟨r0, r1⟩, r2, _, _, _, _⟩ := DK.facts HD7.out
    obtain ⟨k0, k1, k2, k3, _, _, _, _, kt⟩ := st_facts HS57.out
    cases b
    · have CW := keepd (eawake_any _ (HLD.out.below HB7.out))
      go_wp2_with fail
      with_reducible refine CW.out.mono ?_
      rintro e w9 ⟨rfl, hb9⟩
      have HB9 := keepd (bCall HB7.out hb9)
      clear hb9 CW
      go_wp2_with fail
      go_ret
      exact ⟨rfl, HB9.out⟩
    cases li
    · obtain ⟨p1, p2, p3⟩ := key_is HKB.out
      obtain ⟨u, hu⟩ : ∃ u : UInt8, k = (u.toNat : Int) := u8_of (by
        rcases p3 with p3 | ⟨i, p3⟩
        · rw [p3]; omega
        · rw [p3]; exact HXB.out i)
      subst hu
      have HKS := keepd (keyE_sig (room := room) (l := l1) (t := t1) (ov := ov1) HF.out p2)
      have CQ := keepd (key_good X room A l1 n1 c t1 ov1 false u w6 HN1.out HR57.out HT.out.2 HT.out.1 l1 n1 t1 ov1 false [sigV ⟨l1, t1, ov1, false⟩ 4] 1 0 false (by rw [HKS.out]; unfold sigE; rw [HKE.out]) HN1.out.symm rfl rfl)
      clear p1 p2 p3
      go_wp2_with fail
      with_reducible refine CQ.out.mono ?_
      rintro e w8 ⟨A8, c8, B8, d8, L8, rfl, hl8, hm8, hr8, hre8, hb8⟩
      go_upto_region 14 with fail
      generalize hV : w8.alloc (.cells #[.slice A8 n1 c8, .int .i64 (t1 : Int), .bool ov1, .bool false] 30) = V9
      generalize hb12 : w8.heap.size = b12
      have HS12 : Hid (SR 30 V9 b12 [.slice A8 n1 c8, .int .i64 (t1 : Int), .bool ov1, .bool false]) := by rw [← hV, ← hb12]; exact heap_alloc_new w8 _
      have HB69 : Hid (Below w6.heap.size w6 V9) := by rw [← hV]; exact bAlloc hb8 _
      have HR8 : Hid (Rd V9 V9.heap.size A8 l1 c8) := by rw [← hV]; exact hr8.at_ (bAlloc (Below.refl _ _) _)
      have HE8 : Hid (RdE V9 B8 L8 d8) := by rw [← hV]; exact hre8.at_ (bAlloc (Below.refl _ _) _)
      have HL8 := keepd (And.intro hl8 hm8)
      have HS69 := keepd (SR.call HS67.out HB69.out HS67.out.lt)
      have HR39 := keepd (HR37.out.at_ HB69.out)
      have HE39 := keepd (HE37.out.at_ HB69.out)
      have HB9' := keepd (bCall HB7.out HB69.out)
      clear hV hb12 hl8 hm8 hr8 hre8 hb8 CQ k0 k1 k2 k3 kt r0 r1 r2
      obtain ⟨k0, k1, k2, k3, _, _, _, _, kt⟩ := st_facts HS12.out
      obtain ⟨i0, i1, i2, i3, _, _, _, _, it⟩ := st_facts HS69.out
      have CE := keepd (esame_any A8 A3 l1 l1 n1 n1 c8 c3 (t1 : Int) (t1 : Int) ov1 ov1 false false true V9 HN1.out HN1.out HR8.out HR39.out (sameS_iff.2 ⟨rfl, rfl, rfl, rfl⟩))
      have CA := keepd fun (W : World) (hb : Below V9.heap.size V9 W) => alike_any B8 B3 L8 L3 1 1 d8 d3 true W HL8.out.2.symm HL3.out.2.symm (HE8.out.at_ hb) (HE39.out.at_ hb) (likeE_iff.2 (by rw [HL8.out.1, HL3.out.1])) (by omega)
      go_wp2_with fail
      with_reducible refine CE.out.mono ?_
      rintro e w10 ⟨rfl, hb10⟩
      have HB10 := keepd hb10
      clear hb10 CE
      go_wp2_with fail
      with_reducible refine (CA.out _ HB10.out).mono ?_
      rintro e w11 ⟨rfl, hb11⟩
      have HB11 := keepd (bCall HB9'.out (HB10.out.trans (hb11.mono HB10.out.size)))
      clear hb11 CA
      have CW := keepd (eawake_any _ (HLD.out.below HB11.out))
      go_wp2_with fail
      with_reducible refine CW.out.mono ?_
      rintro e w9 ⟨rfl, hb9⟩
      have HB9 := keepd (bCall HB11.out hb9)
      clear hb9 CW
      go_wp2_with fail
      go_ret
      exact ⟨rfl, HB9.out⟩
    · have CW := keepd (eawake_any _ (HLD.out.below HB7.out))
      go_wp2_with fail
      with_reducible refine CW.out.mono ?_
      rintro e w9 ⟨rfl, hb9⟩
      have HB9 := keepd (bCall HB7.out hb9)
      clear hb9 CW
      go_wp2_with fail
      go_ret
      exact ⟨rfl, HB9.out⟩
  by_cases h5 : f = 5
  · subst h5
    have hss : sigS ⟨x, t, ov, li⟩ 5 = ⟨x, t, ov, false⟩ := by unfold sigS stays; simp
    rw [HKE.out] at hss
    simp only [Ed.mk.injEq] at hss
    obtain ⟨rfl, rfl, rfl, rfl⟩ := hss
    obtain rfl : n1 = m := by rw [HN1.out, HM.out]
    have hoo : (ov1 != ov1) = false := by simp
    have CE := keepd (same_any A3 A l1 l1 n1 n1 c3 c (t1 : Int) (t1 : Int) true V4 HN1.out HN1.out HR3.out HR54.out (by simp))
    go_wp2_with fail
    with_reducible refine CE.out.mono ?_
    rintro e w5 ⟨rfl, hb5⟩
    have HS54b := keepd (SR.call HS54.out hb5 HS54.out.lt)
    have HS6b := keepd (SR.call HS6.out hb5 HS6.out.lt)
    have HD4b := keepd (SR.call HD4.out hb5 (SR.lt HD4.out))
    have HR54b := keepd (HR54.out.at_ hb5)
    have HR3b := keepd (HR3.out.at_ hb5)
    have HE3b := keepd (HE3.out.at_ hb5)
    have HB4b := keepd (bCall HB4.out hb5)
    clear hb5 CE k0 k1 k2 k3 kt i0 i1 i2 i3 it HS54 HS6 HD4 HR54 HR3 HE3 HB4
    obtain ⟨HS54, HS6, HD4, HR54, HR3, HE3, HB4⟩ := And.intro HS54b (And.intro HS6b (And.intro HD4b (And.intro HR54b (And.intro HR3b (And.intro HE3b HB4b)))))
    clear HS54b HS6b HD4b HR54b HR3b HE3b HB4b
    obtain ⟨k0, k1, k2, k3, _, _, _, _, kt⟩ := st_facts HS54.out
    obtain ⟨i0, i1, i2, i3, _, _, _, _, it⟩ := st_facts HS6.out
    have KK := keepd fun (W : World) (k : Int) (b : Bool) (h : keyF X 5 = (k, b)) => key_any X 5 k b h W
    obtain ⟨k, b, hkb⟩ : ∃ k b, keyF X 5 = (k, b) := ⟨_, _, rfl⟩
    have CK := keepd (KK.out w5 k b hkb)
    have HKB := keepd hkb
    obtain ⟨⟨r0, r1⟩, r2, _, _, _, _⟩ := DK.facts HD4.out
    clear KK hkb
    go_wp2_with fail
    with_reducible refine CK.out.mono ?_
    rintro e w6 ⟨rfl, hb6⟩
    have HS57 := keepd (SR.call HS54.out hb6 HS54.out.lt)
    have HS67 := keepd (SR.call HS6.out hb6 HS6.out.lt)
    have HD7 := keepd (SR.call HD4.out hb6 (SR.lt HD4.out))
    have HR57 := keepd (HR54.out.at_ hb6)
    have HR37 := keepd (HR3.out.at_ hb6)
    have HE37 := keepd (HE3.out.at_ hb6)
    have HB7 := keepd (bCall HB4.out hb6)
    clear hb6 CK k0 k1 k2 k3 kt i0 i1 i2 i3 it r0 r1 r2 HS54 HS6 HD4 HR54 HR3 HE3 HB4
    obtain ⟨⟨r0, r1⟩, r2, _, _, _, _⟩ := DK.facts HD7.out
    obtain ⟨k0, k1, k2, k3, _, _, _, _, kt⟩ := st_facts HS57.out
    cases b
    · have CW := keepd (eawake_any _ (HLD.out.below HB7.out))
      go_wp2_with fail
      with_reducible refine CW.out.mono ?_
      rintro e w9 ⟨rfl, hb9⟩
      have HB9 := keepd (bCall HB7.out hb9)
      clear hb9 CW
      go_wp2_with fail
      go_ret
      exact ⟨rfl, HB9.out⟩
    cases li
    · obtain ⟨p1, p2, p3⟩ := key_is HKB.out
      obtain ⟨u, hu⟩ : ∃ u : UInt8, k = (u.toNat : Int) := u8_of (by
        rcases p3 with p3 | ⟨i, p3⟩
        · rw [p3]; omega
        · rw [p3]; exact HXB.out i)
      subst hu
      have HKS := keepd (keyE_sig (room := room) (l := l1) (t := t1) (ov := ov1) HF.out p2)
      have CQ := keepd (key_good X room A l1 n1 c t1 ov1 false u w6 HN1.out HR57.out HT.out.2 HT.out.1 l1 n1 t1 ov1 false [sigV ⟨l1, t1, ov1, false⟩ 5] 1 0 false (by rw [HKS.out]; unfold sigE; rw [HKE.out]) HN1.out.symm rfl rfl)
      clear p1 p2 p3
      go_wp2_with fail
      with_reducible refine CQ.out.mono ?_
      rintro e w8 ⟨A8, c8, B8, d8, L8, rfl, hl8, hm8, hr8, hre8, hb8⟩
      go_upto_region 14 with fail
      generalize hV : w8.alloc (.cells #[.slice A8 n1 c8, .int .i64 (t1 : Int), .bool ov1, .bool false] 30) = V9
      generalize hb12 : w8.heap.size = b12
      have HS12 : Hid (SR 30 V9 b12 [.slice A8 n1 c8, .int .i64 (t1 : Int), .bool ov1, .bool false]) := by rw [← hV, ← hb12]; exact heap_alloc_new w8 _
      have HB69 : Hid (Below w6.heap.size w6 V9) := by rw [← hV]; exact bAlloc hb8 _
      have HR8 : Hid (Rd V9 V9.heap.size A8 l1 c8) := by rw [← hV]; exact hr8.at_ (bAlloc (Below.refl _ _) _)
      have HE8 : Hid (RdE V9 B8 L8 d8) := by rw [← hV]; exact hre8.at_ (bAlloc (Below.refl _ _) _)
      have HL8 := keepd (And.intro hl8 hm8)
      have HS69 := keepd (SR.call HS67.out HB69.out HS67.out.lt)
      have HR39 := keepd (HR37.out.at_ HB69.out)
      have HE39 := keepd (HE37.out.at_ HB69.out)
      have HB9' := keepd (bCall HB7.out HB69.out)
      clear hV hb12 hl8 hm8 hr8 hre8 hb8 CQ k0 k1 k2 k3 kt r0 r1 r2
      obtain ⟨k0, k1, k2, k3, _, _, _, _, kt⟩ := st_facts HS12.out
      obtain ⟨i0, i1, i2, i3, _, _, _, _, it⟩ := st_facts HS69.out
      have CE := keepd (esame_any A8 A3 l1 l1 n1 n1 c8 c3 (t1 : Int) (t1 : Int) ov1 ov1 false false true V9 HN1.out HN1.out HR8.out HR39.out (sameS_iff.2 ⟨rfl, rfl, rfl, rfl⟩))
      have CA := keepd fun (W : World) (hb : Below V9.heap.size V9 W) => alike_any B8 B3 L8 L3 1 1 d8 d3 true W HL8.out.2.symm HL3.out.2.symm (HE8.out.at_ hb) (HE39.out.at_ hb) (likeE_iff.2 (by rw [HL8.out.1, HL3.out.1])) (by omega)
      go_wp2_with fail
      with_reducible refine CE.out.mono ?_
      rintro e w10 ⟨rfl, hb10⟩
      have HB10 := keepd hb10
      clear hb10 CE
      go_wp2_with fail
      with_reducible refine (CA.out _ HB10.out).mono ?_
      rintro e w11 ⟨rfl, hb11⟩
      have HB11 := keepd (bCall HB9'.out (HB10.out.trans (hb11.mono HB10.out.size)))
      clear hb11 CA
      have CW := keepd (eawake_any _ (HLD.out.below HB11.out))
      go_wp2_with fail
      with_reducible refine CW.out.mono ?_
      rintro e w9 ⟨rfl, hb9⟩
      have HB9 := keepd (bCall HB11.out hb9)
      clear hb9 CW
      go_wp2_with fail
      go_ret
      exact ⟨rfl, HB9.out⟩
    · have CW := keepd (eawake_any _ (HLD.out.below HB7.out))
      go_wp2_with fail
      with_reducible refine CW.out.mono ?_
      rintro e w9 ⟨rfl, hb9⟩
      have HB9 := keepd (bCall HB7.out hb9)
      clear hb9 CW
      go_wp2_with fail
      go_ret
      exact ⟨rfl, HB9.out⟩
  by_cases h6 : f = 6
  · subst h6
    have hss : sigS ⟨x, t, ov, li⟩ 6 = ⟨x, t, ov, false⟩ := by unfold sigS stays; simp
    rw [HKE.out] at hss
    simp only [Ed.mk.injEq] at hss
    obtain ⟨rfl, rfl, rfl, rfl⟩ := hss
    obtain rfl : n1 = m := by rw [HN1.out, HM.out]
    have hoo : (ov1 != ov1) = false := by simp
    have CE := keepd (same_any A3 A l1 l1 n1 n1 c3 c (t1 : Int) (t1 : Int) true V4 HN1.out HN1.out HR3.out HR54.out (by simp))
    go_wp2_with fail
    with_reducible refine CE.out.mono ?_
    rintro e w5 ⟨rfl, hb5⟩
    have HS54b := keepd (SR.call HS54.out hb5 HS54.out.lt)
    have HS6b := keepd (SR.call HS6.out hb5 HS6.out.lt)
    have HD4b := keepd (SR.call HD4.out hb5 (SR.lt HD4.out))
    have HR54b := keepd (HR54.out.at_ hb5)
    have HR3b := keepd (HR3.out.at_ hb5)
    have HE3b := keepd (HE3.out.at_ hb5)
    have HB4b := keepd (bCall HB4.out hb5)
    clear hb5 CE k0 k1 k2 k3 kt i0 i1 i2 i3 it HS54 HS6 HD4 HR54 HR3 HE3 HB4
    obtain ⟨HS54, HS6, HD4, HR54, HR3, HE3, HB4⟩ := And.intro HS54b (And.intro HS6b (And.intro HD4b (And.intro HR54b (And.intro HR3b (And.intro HE3b HB4b)))))
    clear HS54b HS6b HD4b HR54b HR3b HE3b HB4b
    obtain ⟨k0, k1, k2, k3, _, _, _, _, kt⟩ := st_facts HS54.out
    obtain ⟨i0, i1, i2, i3, _, _, _, _, it⟩ := st_facts HS6.out
    have KK := keepd fun (W : World) (k : Int) (b : Bool) (h : keyF X 6 = (k, b)) => key_any X 6 k b h W
    obtain ⟨k, b, hkb⟩ : ∃ k b, keyF X 6 = (k, b) := ⟨_, _, rfl⟩
    have CK := keepd (KK.out w5 k b hkb)
    have HKB := keepd hkb
    obtain ⟨⟨r0, r1⟩, r2, _, _, _, _⟩ := DK.facts HD4.out
    clear KK hkb
    go_wp2_with fail
    with_reducible refine CK.out.mono ?_
    rintro e w6 ⟨rfl, hb6⟩
    have HS57 := keepd (SR.call HS54.out hb6 HS54.out.lt)
    have HS67 := keepd (SR.call HS6.out hb6 HS6.out.lt)
    have HD7 := keepd (SR.call HD4.out hb6 (SR.lt HD4.out))
    have HR57 := keepd (HR54.out.at_ hb6)
    have HR37 := keepd (HR3.out.at_ hb6)
    have HE37 := keepd (HE3.out.at_ hb6)
    have HB7 := keepd (bCall HB4.out hb6)
    clear hb6 CK k0 k1 k2 k3 kt i0 i1 i2 i3 it r0 r1 r2 HS54 HS6 HD4 HR54 HR3 HE3 HB4
    obtain ⟨⟨r0, r1⟩, r2, _, _, _, _⟩ := DK.facts HD7.out
    obtain ⟨k0, k1, k2, k3, _, _, _, _, kt⟩ := st_facts HS57.out
    cases b
    · have CW := keepd (eawake_any _ (HLD.out.below HB7.out))
      go_wp2_with fail
      with_reducible refine CW.out.mono ?_
      rintro e w9 ⟨rfl, hb9⟩
      have HB9 := keepd (bCall HB7.out hb9)
      clear hb9 CW
      go_wp2_with fail
      go_ret
      exact ⟨rfl, HB9.out⟩
    cases li
    · obtain ⟨p1, p2, p3⟩ := key_is HKB.out
      obtain ⟨u, hu⟩ : ∃ u : UInt8, k = (u.toNat : Int) := u8_of (by
        rcases p3 with p3 | ⟨i, p3⟩
        · rw [p3]; omega
        · rw [p3]; exact HXB.out i)
      subst hu
      have HKS := keepd (keyE_sig (room := room) (l := l1) (t := t1) (ov := ov1) HF.out p2)
      have CQ := keepd (key_good X room A l1 n1 c t1 ov1 false u w6 HN1.out HR57.out HT.out.2 HT.out.1 l1 n1 t1 ov1 false [sigV ⟨l1, t1, ov1, false⟩ 6] 1 0 false (by rw [HKS.out]; unfold sigE; rw [HKE.out]) HN1.out.symm rfl rfl)
      clear p1 p2 p3
      go_wp2_with fail
      with_reducible refine CQ.out.mono ?_
      rintro e w8 ⟨A8, c8, B8, d8, L8, rfl, hl8, hm8, hr8, hre8, hb8⟩
      go_upto_region 14 with fail
      generalize hV : w8.alloc (.cells #[.slice A8 n1 c8, .int .i64 (t1 : Int), .bool ov1, .bool false] 30) = V9
      generalize hb12 : w8.heap.size = b12
      have HS12 : Hid (SR 30 V9 b12 [.slice A8 n1 c8, .int .i64 (t1 : Int), .bool ov1, .bool false]) := by rw [← hV, ← hb12]; exact heap_alloc_new w8 _
      have HB69 : Hid (Below w6.heap.size w6 V9) := by rw [← hV]; exact bAlloc hb8 _
      have HR8 : Hid (Rd V9 V9.heap.size A8 l1 c8) := by rw [← hV]; exact hr8.at_ (bAlloc (Below.refl _ _) _)
      have HE8 : Hid (RdE V9 B8 L8 d8) := by rw [← hV]; exact hre8.at_ (bAlloc (Below.refl _ _) _)
      have HL8 := keepd (And.intro hl8 hm8)
      have HS69 := keepd (SR.call HS67.out HB69.out HS67.out.lt)
      have HR39 := keepd (HR37.out.at_ HB69.out)
      have HE39 := keepd (HE37.out.at_ HB69.out)
      have HB9' := keepd (bCall HB7.out HB69.out)
      clear hV hb12 hl8 hm8 hr8 hre8 hb8 CQ k0 k1 k2 k3 kt r0 r1 r2
      obtain ⟨k0, k1, k2, k3, _, _, _, _, kt⟩ := st_facts HS12.out
      obtain ⟨i0, i1, i2, i3, _, _, _, _, it⟩ := st_facts HS69.out
      have CE := keepd (esame_any A8 A3 l1 l1 n1 n1 c8 c3 (t1 : Int) (t1 : Int) ov1 ov1 false false true V9 HN1.out HN1.out HR8.out HR39.out (sameS_iff.2 ⟨rfl, rfl, rfl, rfl⟩))
      have CA := keepd fun (W : World) (hb : Below V9.heap.size V9 W) => alike_any B8 B3 L8 L3 1 1 d8 d3 true W HL8.out.2.symm HL3.out.2.symm (HE8.out.at_ hb) (HE39.out.at_ hb) (likeE_iff.2 (by rw [HL8.out.1, HL3.out.1])) (by omega)
      go_wp2_with fail
      with_reducible refine CE.out.mono ?_
      rintro e w10 ⟨rfl, hb10⟩
      have HB10 := keepd hb10
      clear hb10 CE
      go_wp2_with fail
      with_reducible refine (CA.out _ HB10.out).mono ?_
      rintro e w11 ⟨rfl, hb11⟩
      have HB11 := keepd (bCall HB9'.out (HB10.out.trans (hb11.mono HB10.out.size)))
      clear hb11 CA
      have CW := keepd (eawake_any _ (HLD.out.below HB11.out))
      go_wp2_with fail
      with_reducible refine CW.out.mono ?_
      rintro e w9 ⟨rfl, hb9⟩
      have HB9 := keepd (bCall HB11.out hb9)
      clear hb9 CW
      go_wp2_with fail
      go_ret
      exact ⟨rfl, HB9.out⟩
    · have CW := keepd (eawake_any _ (HLD.out.below HB7.out))
      go_wp2_with fail
      with_reducible refine CW.out.mono ?_
      rintro e w9 ⟨rfl, hb9⟩
      have HB9 := keepd (bCall HB7.out hb9)
      clear hb9 CW
      go_wp2_with fail
      go_ret
      exact ⟨rfl, HB9.out⟩
  have g4 : (f == 4) = false := by simpa using h4
  have g5 : (f == 5) = false := by simpa using h5
  have g6 : (f == 6) = false := by simpa using h6
  have hss : sigS ⟨x, t, ov, li⟩ f = zE := by unfold sigS stays; simp [h4, h5, h6]
  rw [HKE.out] at hss
  simp only [zE, Ed.mk.injEq] at hss
  obtain ⟨rfl, rfl, rfl, rfl⟩ := hss
  obtain rfl : n1 = 0 := HN1.out
  clear h4 h5 h6
  have CE := keepd (esame_any A3 none [] [] 0 0 c3 0 0 0 false false false false true V4 rfl rfl HR3.out (Rd.nil _ _) rfl)
  go_wp2_with fail
  with_reducible refine CE.out.mono ?_
  rintro e w5 ⟨rfl, hb5⟩
  have HS54b := keepd (SR.call HS54.out hb5 HS54.out.lt)
  have HS6b := keepd (SR.call HS6.out hb5 HS6.out.lt)
  have HD4b := keepd (SR.call HD4.out hb5 (SR.lt HD4.out))
  have HR54b := keepd (HR54.out.at_ hb5)
  have HR3b := keepd (HR3.out.at_ hb5)
  have HE3b := keepd (HE3.out.at_ hb5)
  have HB4b := keepd (bCall HB4.out hb5)
  clear hb5 CE k0 k1 k2 k3 kt i0 i1 i2 i3 it HS54 HS6 HD4 HR54 HR3 HE3 HB4
  obtain ⟨HS54, HS6, HD4, HR54, HR3, HE3, HB4⟩ := And.intro HS54b (And.intro HS6b (And.intro HD4b (And.intro HR54b (And.intro HR3b (And.intro HE3b HB4b)))))
  clear HS54b HS6b HD4b HR54b HR3b HE3b HB4b
  obtain ⟨k0, k1, k2, k3, _, _, _, _, kt⟩ := st_facts HS54.out
  obtain ⟨i0, i1, i2, i3, _, _, _, _, it⟩ := st_facts HS6.out
  have KK := keepd fun (W : World) (k : Int) (b : Bool) (h : keyF X f = (k, b)) => key_any X f k b h W
  obtain ⟨k, b, hkb⟩ : ∃ k b, keyF X f = (k, b) := ⟨_, _, rfl⟩
  have CK := keepd (KK.out w5 k b hkb)
  have HKB := keepd hkb
  obtain ⟨⟨r0, r1⟩, r2, _, _, _, _⟩ := DK.facts HD4.out
  clear KK hkb
  go_wp2_with fail
  with_reducible refine CK.out.mono ?_
  rintro e w6 ⟨rfl, hb6⟩
  have HS57 := keepd (SR.call HS54.out hb6 HS54.out.lt)
  have HS67 := keepd (SR.call HS6.out hb6 HS6.out.lt)
  have HD7 := keepd (SR.call HD4.out hb6 (SR.lt HD4.out))
  have HR57 := keepd (HR54.out.at_ hb6)
  have HR37 := keepd (HR3.out.at_ hb6)
  have HE37 := keepd (HE3.out.at_ hb6)
  have HB7 := keepd (bCall HB4.out hb6)
  clear hb6 CK k0 k1 k2 k3 kt i0 i1 i2 i3 it r0 r1 r2 HS54 HS6 HD4 HR54 HR3 HE3 HB4
  obtain ⟨⟨r0, r1⟩, r2, _, _, _, _⟩ := DK.facts HD7.out
  obtain ⟨k0, k1, k2, k3, _, _, _, _, kt⟩ := st_facts HS57.out
  cases b
  · have CW := keepd (eawake_any _ (HLD.out.below HB7.out))
    go_wp2_with fail
    with_reducible refine CW.out.mono ?_
    rintro e w9 ⟨rfl, hb9⟩
    have HB9 := keepd (bCall HB7.out hb9)
    clear hb9 CW
    go_wp2_with fail
    go_ret
    exact ⟨rfl, HB9.out⟩
  cases li
  · obtain ⟨p1, p2, p3⟩ := key_is HKB.out
    obtain ⟨u, hu⟩ : ∃ u : UInt8, k = (u.toNat : Int) := u8_of (by
      rcases p3 with p3 | ⟨i, p3⟩
      · rw [p3]; omega
      · rw [p3]; exact HXB.out i)
    subst hu
    have HKS := keepd (keyE_sig (room := room) (l := x) (t := t) (ov := ov) HF.out p2)
    have CQ := keepd (key_good X room A x m c t ov false u w6 HM.out.symm HR57.out HT.out.2 HT.out.1 [] 0 0 false false [sigV ⟨x, t, ov, false⟩ f] 1 0 false (by rw [HKS.out]; unfold sigE; rw [HKE.out]) rfl rfl rfl)
    clear p1 p2 p3
    go_wp2_with fail
    with_reducible refine CQ.out.mono ?_
    rintro e w8 ⟨A8, c8, B8, d8, L8, rfl, hl8, hm8, hr8, hre8, hb8⟩
    go_upto_region 14 with fail
    generalize hV : w8.alloc (.cells #[.slice A8 0 c8, .int .i64 0, .bool false, .bool false] 30) = V9
    generalize hb12 : w8.heap.size = b12
    have HS12 : Hid (SR 30 V9 b12 [.slice A8 0 c8, .int .i64 0, .bool false, .bool false]) := by rw [← hV, ← hb12]; exact heap_alloc_new w8 _
    have HB69 : Hid (Below w6.heap.size w6 V9) := by rw [← hV]; exact bAlloc hb8 _
    have HR8 : Hid (Rd V9 V9.heap.size A8 [] c8) := by rw [← hV]; exact hr8.at_ (bAlloc (Below.refl _ _) _)
    have HE8 : Hid (RdE V9 B8 L8 d8) := by rw [← hV]; exact hre8.at_ (bAlloc (Below.refl _ _) _)
    have HL8 := keepd (And.intro hl8 hm8)
    have HS69 := keepd (SR.call HS67.out HB69.out HS67.out.lt)
    have HR39 := keepd (HR37.out.at_ HB69.out)
    have HE39 := keepd (HE37.out.at_ HB69.out)
    have HB9' := keepd (bCall HB7.out HB69.out)
    clear hV hb12 hl8 hm8 hr8 hre8 hb8 CQ k0 k1 k2 k3 kt r0 r1 r2
    obtain ⟨k0, k1, k2, k3, _, _, _, _, kt⟩ := st_facts HS12.out
    obtain ⟨i0, i1, i2, i3, _, _, _, _, it⟩ := st_facts HS69.out
    have CE := keepd (esame_any A8 A3 [] [] 0 0 c8 c3 0 0 false false false false true V9 rfl rfl HR8.out HR39.out (sameS_iff.2 ⟨rfl, rfl, rfl, rfl⟩))
    have CA := keepd fun (W : World) (hb : Below V9.heap.size V9 W) => alike_any B8 B3 L8 L3 1 1 d8 d3 true W HL8.out.2.symm HL3.out.2.symm (HE8.out.at_ hb) (HE39.out.at_ hb) (likeE_iff.2 (by rw [HL8.out.1, HL3.out.1])) (by omega)
    go_wp2_with fail
    with_reducible refine CE.out.mono ?_
    rintro e w10 ⟨rfl, hb10⟩
    have HB10 := keepd hb10
    clear hb10 CE
    go_wp2_with fail
    with_reducible refine (CA.out _ HB10.out).mono ?_
    rintro e w11 ⟨rfl, hb11⟩
    have HB11 := keepd (bCall HB9'.out (HB10.out.trans (hb11.mono HB10.out.size)))
    clear hb11 CA
    have CW := keepd (eawake_any _ (HLD.out.below HB11.out))
    go_wp2_with fail
    with_reducible refine CW.out.mono ?_
    rintro e w9 ⟨rfl, hb9⟩
    have HB9 := keepd (bCall HB11.out hb9)
    clear hb9 CW
    go_wp2_with fail
    go_ret
    exact ⟨rfl, HB9.out⟩
  · have CW := keepd (eawake_any _ (HLD.out.below HB7.out))
    go_wp2_with fail
    with_reducible refine CW.out.mono ?_
    rintro e w9 ⟨rfl, hb9⟩
    have HB9 := keepd (bCall HB7.out hb9)
    clear hb9 CW
    go_wp2_with fail
    go_ret
    exact ⟨rfl, HB9.out⟩

end Go.Proofs.YtjhocmeenejjpaaDoor
