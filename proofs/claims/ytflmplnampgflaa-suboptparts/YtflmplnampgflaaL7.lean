/-
  The walk of SuboptParts. No conditions beyond those each theorem states.
-/
import Derived.Test.YtflmplnampgflaaP3
import Derived.Test.YtflmplnampgflaaO16
namespace Go.Proofs.Ytflmplnampgflaa
open Go.RowKit
set_option maxRecDepth 100000

attribute [local go_sem ↓] ex_ld23 ex_st23 ex_al23 ex_bu23 ex_eq23 ex_ne23 ex_ld26 ex_st26 ex_al26 ex_ld23o ex_st23o ex_bu26 ex_bu26k ex_bu26m ex_bu26l ex_bu26v ex_bu26w ex_eq29 ex_ne29
attribute [local go_sem] ptrB_at okPtr_at aggC_at agg32 agg36 isM_at eqV_m isRow_new isRow_new26 World.setRow_alloc_new ptr3_at okPtr3_at cutM_at putM_at isI_at isL_at bK_at bKM_at bKL_at bKVM_at bKV_at isV_at toV_at

theorem may_3n {L : List Tr} (h : L.length ≤ 170) : mayS 3 0 0 zM L = allT L := by
  unfold mayS
  simp [h]
theorem may_2x (X : Mk) : mayS 2 0 253 X [] = true := by
  unfold mayS
  simp
theorem may_1x {z : Int} (h : ¬ z ≤ 31) : mayS 1 z 0 zM [] = false := by
  unfold mayS
  simp
  omega
theorem may_1y {z : Int} (h : 0 ≤ z ∧ z ≤ 31) : mayS 1 z 0 zM [] = true := by
  unfold mayS
  simp [h]

set_option maxHeartbeats 4000000 in
theorem parts_yy (A : Option Addr) (n c : Nat) (X : Mk) (u : UInt8) (N : Nat) (L' : List Tr) (W : World) (hr : RdT W A L' c) (hnc : n ≤ c) (hcm : c ≤ maxLen) (hN : min n 170 = N) (hL : N = L'.length) (hq : u.toNat ≤ 31) (ha : allT L' = true) :
    Calls Try.prog 6 #[.slice A n c, mv X, .int .u8 (u.toNat : Int)] W fun e w' => e = .returned (.bool true) ∧ Below W.heap.size W w' := by
  have H := keepd hr
  have HN := keepd hL
  have HA := keepd ha
  have HCM := keepd hcm
  unfold maxLen at hcm
  have h170 : N ≤ 170 := by omega
  have H170 := keepd h170
  have hw : wrap64 (u.toNat : Int) = (u.toNat : Int) := wrap64_u8 u
  have hw2 : IntKind.i64.wrap (u.toNat : Int) = (u.toNat : Int) := by rw [IntWalk.i64_left]; exact hw
  have hu8 : u8 (u.toNat : Int) = u := u8_of u
  have hu255 := u.toNat_lt
  have CP1 : Hid (∀ w : World, Calls Try.prog 11 #[sv 1 (u.toNat : Int) 0 zM (.slice none 0 0)] w (PutAns w [1, u] 0)) := fun w => by
    have := sput_any 1 (u.toNat : Int) 0 zM none [] 0 0 true _ _ w rfl (by omega) (RdT.nil _) (may_1y (by omega)) rfl rfl
    rw [show putR 1 (u.toNat : Int) 0 zM [] true = [1, u8 (u.toNat : Int)] from rfl, hu8] at this
    exact this
  obtain ⟨P2, hP2⟩ : ∃ P, trimM X = P := ⟨_, rfl⟩
  have hP2l : P2.length ≤ 32 := by rw [← hP2, trimM_len]; exact trimN_le X
  have CP2 : Hid (∀ w : World, Calls Try.prog 11 #[sv 2 0 253 X (.slice none 0 0)] w (PutAns w (253 :: 2 :: P2) 0)) := fun w => by
    have := sput_any 2 0 253 X none [] 0 0 true _ _ w rfl (by omega) (RdT.nil _) (may_2x X) rfl rfl
    rw [show putR 2 0 253 X [] true = 253 :: 2 :: trimM X from rfl, hP2] at this
    exact this
  have CM : Hid (∀ w : World, Calls Try.prog 22 #[mv X] w (GotL w P2)) := fun w => by
    have := mput_any X w
    rw [hP2] at this
    exact this
  have HP2l := keepd hP2l
  clear hP2 hP2l hu8
  obtain ⟨PL, hPL⟩ : ∃ P, liesL L' = P := ⟨_, rfl⟩
  have HPLl : Hid (PL.length ≤ 600) := by show _ ≤ _; rw [← hPL, liesL_len, ← hL]; omega
  have CP3 : Hid (∀ w : World, RdT w A L' c → Calls Try.prog 11 #[sv 3 0 0 zM (.slice A N c)] w (PutAns w (3 :: PL) 0)) := fun w hw => by
    have hm : mayS 3 0 0 zM L' = true := by rw [may_3n (by omega), ha]
    have := sput_any 3 0 0 zM A L' N c true _ _ w hL (by omega) hw hm rfl rfl
    rw [show putR 3 0 0 zM L' true = 3 :: liesL L' from rfl, hPL] at this
    exact this
  obtain ⟨zl, hzl⟩ : ∃ z, PL.length = z := ⟨_, rfl⟩
  have CL : Hid (∀ w : World, RdT w A L' c → Calls Try.prog 21 #[.slice A N c] w fun e w' => ∃ A' c', e = .returned (.tuple #[.slice A' zl c', .int .i64 0]) ∧ Rd w' w'.heap.size A' PL c' ∧ Below w.heap.size w w') := fun w hw => by
    obtain ⟨p1, p2⟩ := put_yes ha
    rw [hPL] at p1
    exact tput_any A L' N c PL zl 0 w hL (by omega) hw p1 hzl p2
  have HZl := keepd hzl
  clear hPL hzl hr hL ha h170
  have t1 : decide ((u.toNat : Int) ≤ 31) = true := decide_eq_true (by omega)
  obtain ⟨qq, hqq⟩ : ∃ q : Int, (u.toNat : Int) = q := ⟨_, rfl⟩
  have HQ := keepd hqq
  rw [hqq] at hw hw2 CP1 t1 ⊢
  clear hqq hq
  go_enter Try.func6, Try.ntmps6
  go_upto_region 1 with fail
  generalize hV : W.alloc (.cells (ms X).toArray 23) = V
  obtain ⟨h1, h2, h3⟩ := one_new _ _ _ _ hV
  obtain ⟨g, hg⟩ : ∃ g, W.heap.size = g := ⟨_, rfl⟩
  rw [hg] at h1
  rw [hg]
  have HG := keepd hg
  have HX := keepd h1
  have HB := keepd h2
  have HRV := keepd (H.out.at_ h2)
  obtain ⟨x4, x5⟩ := MB.facts h1
  clear hV hg h1 h2 h3 H
  by_cases hn : n ≤ 170
  · have hnN : n = N := by omega
    have g1 : decide ((n : Int) > 170) = false := decide_eq_false (by omega)
    subst hnN
    clear hN hn
    go_upto_region 3 with fail
    go_wp2_with fail
    with_reducible refine (CP1.out _).mono ?_
    rintro e w1 ⟨A1, n1, c1, rfl, hn1, hr1, hb⟩
    have hn1' : n1 = 2 := hn1
    subst hn1'
    have HX1 := keepd (SR.call HX.out hb HX.out.lt)
    have HB1 := keepd (bCall HB.out hb)
    have HT1 := keepd (HRV.out.at_ hb)
    have HR1 := keepd hr1
    clear hb hr1 hn1 HX HB HRV x4 x5
    obtain ⟨x4, x5⟩ := MB.facts HX1.out
    go_wp2_with fail
    with_reducible refine (CP2.out _).mono ?_
    rintro e w2 ⟨A2, n2, c2, rfl, hn2, hr2, hb⟩
    have HX2 := keepd (SR.call HX1.out hb HX1.out.lt)
    have HB2 := keepd (bCall HB1.out hb)
    have HT2 := keepd (HT1.out.at_ hb)
    have HR12 := keepd (HR1.out.at_ hb)
    have HR2 := keepd hr2
    have HN2 := keepd hn2
    clear hb hr2 hn2 HX1 HB1 HT1 HR1 x4 x5
    go_wp2_with fail
    with_reducible refine (CP3.out _ HT2.out).mono ?_
    rintro e w3 ⟨A3, n3, c3, rfl, hn3, hr3, hb⟩
    have HX3 := keepd (SR.call HX2.out hb HX2.out.lt)
    have HB3 := keepd (bCall HB2.out hb)
    have HT3 := keepd (HT2.out.at_ hb)
    have HR13 := keepd (HR12.out.at_ hb)
    have HR23 := keepd (HR2.out.at_ hb)
    have HR3 := keepd hr3
    have HN3 := keepd hn3
    clear hb hr3 hn3 HX2 HB2 HT2 HR12 HR2
    go_wp2_with fail
    with_reducible refine (CL.out _ HT3.out).mono ?_
    rintro e w4 ⟨A4, c4, rfl, hr4, hb⟩
    have HX4 := keepd (SR.call HX3.out hb HX3.out.lt)
    have HB4 := keepd (bCall HB3.out hb)
    have HR14 := keepd (HR13.out.at_ hb)
    have HR24 := keepd (HR23.out.at_ hb)
    have HR34 := keepd (HR3.out.at_ hb)
    have HR4 := keepd hr4
    clear hb hr4 HX3 HB3 HT3 HR13 HR23 HR3
    have k1 := conv_str HR14.out
    have hnr := new_rd w4 #[.int .u8 1, .int .u8 qq] [1, u] 2 (by rw [← HQ.out]; rfl) rfl (by omega)
    have k2 := conv_str hnr
    obtain ⟨st, hst⟩ : ∃ s : ByteArray, (⟨[1, u].toArray⟩ : ByteArray) = s := ⟨_, rfl⟩
    rw [hst] at k1 k2
    have k1' : ∀ W : World, W = w4 → (convert 27 9 (.slice A1 2 c1)).run Try.prog w4 = .ok (.string st) w4 := fun _ _ => k1
    have hbA := bAlloc (Below.refl w4.heap.size w4) (.cells #[.int .u8 1, .int .u8 qq] 5)
    have k2' : (convert 27 9 (.slice (some ⟨w4.heap.size, 0, none⟩) 2 2)).run Try.prog (w4.alloc (.cells #[.int .u8 1, .int .u8 qq] 5)) = .ok (.string st) (w4.alloc (.cells #[.int .u8 1, .int .u8 qq] 5)) := k2
    have k1'' : (convert 27 9 (.slice A1 2 c1)).run Try.prog w4 = .ok (.string st) w4 := k1
    clear k1 k2 k1' hnr hst
    go_upto_region 9 with fail
    obtain ⟨w5, hw5⟩ : ∃ W, w4.alloc (.cells #[.int .u8 1, .int .u8 qq] 5) = W := ⟨_, rfl⟩
    rw [hw5] at hbA ⊢
    have HX5 := keepd (SR.call HX4.out hbA HX4.out.lt)
    have HB5 := keepd (bCall HB4.out hbA)
    have HR25 := keepd (HR24.out.at_ hbA)
    have HR35 := keepd (HR34.out.at_ hbA)
    have HR45 := keepd (HR4.out.at_ hbA)
    clear hw5 hbA k1'' k2' HX4 HB4 HR14 HR24 HR34 HR4
    have hbA := bAlloc (Below.refl w5.heap.size w5) (.cells #[.int .u8 253, .int .u8 2] 5)
    have HO := keepd (own_new w5 w5.heap.size #[.int .u8 253, .int .u8 2] [253, 2] 2 rfl rfl (by omega) (Nat.le_refl _))
    have hXn := SR.call HX5.out hbA HX5.out.lt
    obtain ⟨x4, x5⟩ := MB.facts hXn
    clear hXn
    go_wp2_with fail
    with_reducible refine (CM.out _).mono ?_
    rintro e w6 ⟨A6, c6, rfl, hr6, hb⟩
    obtain ⟨p2, hp2⟩ : ∃ p, P2.length = p := ⟨_, rfl⟩
    rw [hp2]
    have HO6 := keepd (HO.out.below hb)
    have hb6 := hbA.trans (hb.mono hbA.size)
    have HB6 := keepd hb6
    have HR6 := keepd hr6
    have HP2 := keepd hp2
    clear hr6 hb hbA x4 x5 HO hp2 hb6
    go_wp2_with (at_builtin; refine wpList_appG _ (by rfl) (.tmp 65) (.tmp 67) rfl w5.heap.size _ [253, 2] rfl HO6.out _ A6 p2 c6 P2 rfl HP2.out.symm HR6.out ?_ HB6.out.size ?_)
    · have := HP2l.out
      simp only [List.length_cons, List.length_nil]
      omega
    intro va w7 ho hg hat
    have hb7 := HB6.out.trans (grown_below HO6.out hg HB6.out.size)
    obtain ⟨A7, c7, rfl, hr7⟩ := ho.rd
    have HX7 := keepd (SR.call HX5.out hb7 HX5.out.lt)
    have HB7 := keepd (bCall HB5.out hb7)
    have HR27 := keepd (HR25.out.at_ hb7)
    have HR37 := keepd (HR35.out.at_ hb7)
    have HR47 := keepd (HR45.out.at_ hb7)
    have HR7 := keepd hr7
    clear ho hg hat hb7 hr7 HX5 HB5 HR25 HR35 HR45 HO6 HB6 HR6
    obtain ⟨n7, hn7⟩ : ∃ n, (253 :: 2 :: P2).length = n := ⟨_, rfl⟩
    have hn7' := hn7
    rw [hn7]
    have CO : Hid (Calls Try.prog 19 #[.slice A2 n2 c2, .slice A7 n7 c7] w7 fun e w' => e = .returned (.bool true) ∧ w7 = w') := by
      have := octets_any A2 A7 (253 :: 2 :: P2) (253 :: 2 :: P2) n2 n7 c2 c7 w7.heap.size w7 HN2.out hn7.symm HR27.out HR7.out
      rw [show ((253 :: 2 :: P2) == (253 :: 2 :: P2)) = true by simp] at this
      exact this
    clear hn7 hn7' HR7
    go_wp2_with fail
    with_reducible refine CO.out.mono ?_
    rintro e w7 ⟨rfl, rfl⟩
    clear CO HR27
    go_upto_region 11 with fail
    have hbA := bAlloc (Below.refl w7.heap.size w7) (.cells #[.int .u8 3] 5)
    have HO := keepd (own_new w7 w7.heap.size #[.int .u8 3] [3] 1 rfl rfl (by omega) (Nat.le_refl _))
    have HR4n := keepd (HR47.out.at_ hbA)
    have HBA := keepd hbA
    clear hbA
    go_wp2_with (at_builtin; refine wpList_appG _ (by rfl) (.tmp 83) (.tmp 84) rfl w7.heap.size _ [3] rfl HO.out _ A4 zl c4 PL rfl HZl.out.symm HR4n.out ?_ HBA.out.size ?_)
    · have := HPLl.out
      simp only [List.length_cons, List.length_nil]
      omega
    intro va w8 ho hg hat
    have hb8 := HBA.out.trans (grown_below HO.out hg HBA.out.size)
    obtain ⟨A8, c8, rfl, hr8⟩ := ho.rd
    have HB8 := keepd (bCall HB7.out hb8)
    have HR38 := keepd (HR37.out.at_ hb8)
    have HR8 := keepd hr8
    clear ho hg hat hb8 hr8 HX7 HB7 HR37 HR47 HO HBA HR4n
    obtain ⟨n8, hn8⟩ : ∃ n, (3 :: PL).length = n := ⟨_, rfl⟩
    rw [hn8]
    have CO2 : Hid (Calls Try.prog 19 #[.slice A3 n3 c3, .slice A8 n8 c8] w8 fun e w' => e = .returned (.bool true) ∧ w8 = w') := by
      have := octets_any A3 A8 (3 :: PL) (3 :: PL) n3 n8 c3 c8 w8.heap.size w8 HN3.out hn8.symm HR38.out HR8.out
      rw [show ((3 :: PL) == (3 :: PL)) = true by simp] at this
      exact this
    clear hn8 HR8 HR38
    go_wp2_with fail
    with_reducible refine CO2.out.mono ?_
    rintro e w8 ⟨rfl, rfl⟩
    clear CO2
    go_wp2_with fail
    with_reducible refine (awake_any _).mono ?_
    rintro e w9 ⟨rfl, hb9⟩
    have HB9 := keepd (bCall HB8.out hb9)
    clear hb9
    go_wp2_with fail
    go_ret
    exact ⟨rfl, HB9.out⟩
  · have hnN : N = 170 := by omega
    subst hnN
    have g1 : decide ((n : Int) > 170) = true := decide_eq_true (by omega)
    have i1 : ¬ (c : Int) < 170 := by omega
    clear hN
    go_upto_region 3 with fail
    clear i1 hn
    go_wp2_with fail
    with_reducible refine (CP1.out _).mono ?_
    rintro e w1 ⟨A1, n1, c1, rfl, hn1, hr1, hb⟩
    have hn1' : n1 = 2 := hn1
    subst hn1'
    have HX1 := keepd (SR.call HX.out hb HX.out.lt)
    have HB1 := keepd (bCall HB.out hb)
    have HT1 := keepd (HRV.out.at_ hb)
    have HR1 := keepd hr1
    clear hb hr1 hn1 HX HB HRV x4 x5
    obtain ⟨x4, x5⟩ := MB.facts HX1.out
    go_wp2_with fail
    with_reducible refine (CP2.out _).mono ?_
    rintro e w2 ⟨A2, n2, c2, rfl, hn2, hr2, hb⟩
    have HX2 := keepd (SR.call HX1.out hb HX1.out.lt)
    have HB2 := keepd (bCall HB1.out hb)
    have HT2 := keepd (HT1.out.at_ hb)
    have HR12 := keepd (HR1.out.at_ hb)
    have HR2 := keepd hr2
    have HN2 := keepd hn2
    clear hb hr2 hn2 HX1 HB1 HT1 HR1 x4 x5
    go_wp2_with fail
    with_reducible refine (CP3.out _ HT2.out).mono ?_
    rintro e w3 ⟨A3, n3, c3, rfl, hn3, hr3, hb⟩
    have HX3 := keepd (SR.call HX2.out hb HX2.out.lt)
    have HB3 := keepd (bCall HB2.out hb)
    have HT3 := keepd (HT2.out.at_ hb)
    have HR13 := keepd (HR12.out.at_ hb)
    have HR23 := keepd (HR2.out.at_ hb)
    have HR3 := keepd hr3
    have HN3 := keepd hn3
    clear hb hr3 hn3 HX2 HB2 HT2 HR12 HR2
    go_wp2_with fail
    with_reducible refine (CL.out _ HT3.out).mono ?_
    rintro e w4 ⟨A4, c4, rfl, hr4, hb⟩
    have HX4 := keepd (SR.call HX3.out hb HX3.out.lt)
    have HB4 := keepd (bCall HB3.out hb)
    have HR14 := keepd (HR13.out.at_ hb)
    have HR24 := keepd (HR23.out.at_ hb)
    have HR34 := keepd (HR3.out.at_ hb)
    have HR4 := keepd hr4
    clear hb hr4 HX3 HB3 HT3 HR13 HR23 HR3
    have k1 := conv_str HR14.out
    have hnr := new_rd w4 #[.int .u8 1, .int .u8 qq] [1, u] 2 (by rw [← HQ.out]; rfl) rfl (by omega)
    have k2 := conv_str hnr
    obtain ⟨st, hst⟩ : ∃ s : ByteArray, (⟨[1, u].toArray⟩ : ByteArray) = s := ⟨_, rfl⟩
    rw [hst] at k1 k2
    have k1' : ∀ W : World, W = w4 → (convert 27 9 (.slice A1 2 c1)).run Try.prog w4 = .ok (.string st) w4 := fun _ _ => k1
    have hbA := bAlloc (Below.refl w4.heap.size w4) (.cells #[.int .u8 1, .int .u8 qq] 5)
    have k2' : (convert 27 9 (.slice (some ⟨w4.heap.size, 0, none⟩) 2 2)).run Try.prog (w4.alloc (.cells #[.int .u8 1, .int .u8 qq] 5)) = .ok (.string st) (w4.alloc (.cells #[.int .u8 1, .int .u8 qq] 5)) := k2
    have k1'' : (convert 27 9 (.slice A1 2 c1)).run Try.prog w4 = .ok (.string st) w4 := k1
    clear k1 k2 k1' hnr hst
    go_upto_region 9 with fail
    obtain ⟨w5, hw5⟩ : ∃ W, w4.alloc (.cells #[.int .u8 1, .int .u8 qq] 5) = W := ⟨_, rfl⟩
    rw [hw5] at hbA ⊢
    have HX5 := keepd (SR.call HX4.out hbA HX4.out.lt)
    have HB5 := keepd (bCall HB4.out hbA)
    have HR25 := keepd (HR24.out.at_ hbA)
    have HR35 := keepd (HR34.out.at_ hbA)
    have HR45 := keepd (HR4.out.at_ hbA)
    clear hw5 hbA k1'' k2' HX4 HB4 HR14 HR24 HR34 HR4
    have hbA := bAlloc (Below.refl w5.heap.size w5) (.cells #[.int .u8 253, .int .u8 2] 5)
    have HO := keepd (own_new w5 w5.heap.size #[.int .u8 253, .int .u8 2] [253, 2] 2 rfl rfl (by omega) (Nat.le_refl _))
    have hXn := SR.call HX5.out hbA HX5.out.lt
    obtain ⟨x4, x5⟩ := MB.facts hXn
    clear hXn
    go_wp2_with fail
    with_reducible refine (CM.out _).mono ?_
    rintro e w6 ⟨A6, c6, rfl, hr6, hb⟩
    obtain ⟨p2, hp2⟩ : ∃ p, P2.length = p := ⟨_, rfl⟩
    rw [hp2]
    have HO6 := keepd (HO.out.below hb)
    have hb6 := hbA.trans (hb.mono hbA.size)
    have HB6 := keepd hb6
    have HR6 := keepd hr6
    have HP2 := keepd hp2
    clear hr6 hb hbA x4 x5 HO hp2 hb6
    go_wp2_with (at_builtin; refine wpList_appG _ (by rfl) (.tmp 65) (.tmp 67) rfl w5.heap.size _ [253, 2] rfl HO6.out _ A6 p2 c6 P2 rfl HP2.out.symm HR6.out ?_ HB6.out.size ?_)
    · have := HP2l.out
      simp only [List.length_cons, List.length_nil]
      omega
    intro va w7 ho hg hat
    have hb7 := HB6.out.trans (grown_below HO6.out hg HB6.out.size)
    obtain ⟨A7, c7, rfl, hr7⟩ := ho.rd
    have HX7 := keepd (SR.call HX5.out hb7 HX5.out.lt)
    have HB7 := keepd (bCall HB5.out hb7)
    have HR27 := keepd (HR25.out.at_ hb7)
    have HR37 := keepd (HR35.out.at_ hb7)
    have HR47 := keepd (HR45.out.at_ hb7)
    have HR7 := keepd hr7
    clear ho hg hat hb7 hr7 HX5 HB5 HR25 HR35 HR45 HO6 HB6 HR6
    obtain ⟨n7, hn7⟩ : ∃ n, (253 :: 2 :: P2).length = n := ⟨_, rfl⟩
    have hn7' := hn7
    rw [hn7]
    have CO : Hid (Calls Try.prog 19 #[.slice A2 n2 c2, .slice A7 n7 c7] w7 fun e w' => e = .returned (.bool true) ∧ w7 = w') := by
      have := octets_any A2 A7 (253 :: 2 :: P2) (253 :: 2 :: P2) n2 n7 c2 c7 w7.heap.size w7 HN2.out hn7.symm HR27.out HR7.out
      rw [show ((253 :: 2 :: P2) == (253 :: 2 :: P2)) = true by simp] at this
      exact this
    clear hn7 hn7' HR7
    go_wp2_with fail
    with_reducible refine CO.out.mono ?_
    rintro e w7 ⟨rfl, rfl⟩
    clear CO HR27
    go_upto_region 11 with fail
    have hbA := bAlloc (Below.refl w7.heap.size w7) (.cells #[.int .u8 3] 5)
    have HO := keepd (own_new w7 w7.heap.size #[.int .u8 3] [3] 1 rfl rfl (by omega) (Nat.le_refl _))
    have HR4n := keepd (HR47.out.at_ hbA)
    have HBA := keepd hbA
    clear hbA
    go_wp2_with (at_builtin; refine wpList_appG _ (by rfl) (.tmp 83) (.tmp 84) rfl w7.heap.size _ [3] rfl HO.out _ A4 zl c4 PL rfl HZl.out.symm HR4n.out ?_ HBA.out.size ?_)
    · have := HPLl.out
      simp only [List.length_cons, List.length_nil]
      omega
    intro va w8 ho hg hat
    have hb8 := HBA.out.trans (grown_below HO.out hg HBA.out.size)
    obtain ⟨A8, c8, rfl, hr8⟩ := ho.rd
    have HB8 := keepd (bCall HB7.out hb8)
    have HR38 := keepd (HR37.out.at_ hb8)
    have HR8 := keepd hr8
    clear ho hg hat hb8 hr8 HX7 HB7 HR37 HR47 HO HBA HR4n
    obtain ⟨n8, hn8⟩ : ∃ n, (3 :: PL).length = n := ⟨_, rfl⟩
    rw [hn8]
    have CO2 : Hid (Calls Try.prog 19 #[.slice A3 n3 c3, .slice A8 n8 c8] w8 fun e w' => e = .returned (.bool true) ∧ w8 = w') := by
      have := octets_any A3 A8 (3 :: PL) (3 :: PL) n3 n8 c3 c8 w8.heap.size w8 HN3.out hn8.symm HR38.out HR8.out
      rw [show ((3 :: PL) == (3 :: PL)) = true by simp] at this
      exact this
    clear hn8 HR8 HR38
    go_wp2_with fail
    with_reducible refine CO2.out.mono ?_
    rintro e w8 ⟨rfl, rfl⟩
    clear CO2
    go_wp2_with fail
    with_reducible refine (awake_any _).mono ?_
    rintro e w9 ⟨rfl, hb9⟩
    have HB9 := keepd (bCall HB8.out hb9)
    clear hb9
    go_wp2_with fail
    go_ret
    exact ⟨rfl, HB9.out⟩

set_option maxHeartbeats 4000000 in
theorem parts_yn (A : Option Addr) (n c : Nat) (X : Mk) (u : UInt8) (N : Nat) (L' : List Tr) (W : World) (hr : RdT W A L' c) (hnc : n ≤ c) (hcm : c ≤ maxLen) (hN : min n 170 = N) (hL : N = L'.length) (hq : u.toNat ≤ 31) (ha : allT L' = false) :
    Calls Try.prog 6 #[.slice A n c, mv X, .int .u8 (u.toNat : Int)] W fun e w' => e = .returned (.bool true) ∧ Below W.heap.size W w' := by
  have H := keepd hr
  have HN := keepd hL
  have HA := keepd ha
  have HCM := keepd hcm
  unfold maxLen at hcm
  have h170 : N ≤ 170 := by omega
  have H170 := keepd h170
  have hw : wrap64 (u.toNat : Int) = (u.toNat : Int) := wrap64_u8 u
  have hw2 : IntKind.i64.wrap (u.toNat : Int) = (u.toNat : Int) := by rw [IntWalk.i64_left]; exact hw
  have hu8 : u8 (u.toNat : Int) = u := u8_of u
  have hu255 := u.toNat_lt
  have CP1 : Hid (∀ w : World, Calls Try.prog 11 #[sv 1 (u.toNat : Int) 0 zM (.slice none 0 0)] w (PutAns w [1, u] 0)) := fun w => by
    have := sput_any 1 (u.toNat : Int) 0 zM none [] 0 0 true _ _ w rfl (by omega) (RdT.nil _) (may_1y (by omega)) rfl rfl
    rw [show putR 1 (u.toNat : Int) 0 zM [] true = [1, u8 (u.toNat : Int)] from rfl, hu8] at this
    exact this
  obtain ⟨P2, hP2⟩ : ∃ P, trimM X = P := ⟨_, rfl⟩
  have hP2l : P2.length ≤ 32 := by rw [← hP2, trimM_len]; exact trimN_le X
  have CP2 : Hid (∀ w : World, Calls Try.prog 11 #[sv 2 0 253 X (.slice none 0 0)] w (PutAns w (253 :: 2 :: P2) 0)) := fun w => by
    have := sput_any 2 0 253 X none [] 0 0 true _ _ w rfl (by omega) (RdT.nil _) (may_2x X) rfl rfl
    rw [show putR 2 0 253 X [] true = 253 :: 2 :: trimM X from rfl, hP2] at this
    exact this
  have CM : Hid (∀ w : World, Calls Try.prog 22 #[mv X] w (GotL w P2)) := fun w => by
    have := mput_any X w
    rw [hP2] at this
    exact this
  have HP2l := keepd hP2l
  clear hP2 hP2l hu8
  obtain ⟨PL, hPL⟩ : ∃ P, liesL L' = P := ⟨_, rfl⟩
  have HPLl : Hid (PL.length ≤ 600) := by show _ ≤ _; rw [← hPL, liesL_len, ← hL]; omega
  have CP3 : Hid (∀ w : World, RdT w A L' c → Calls Try.prog 11 #[sv 3 0 0 zM (.slice A N c)] w (PutAns w [] 1)) := fun w hw => by
    have hm : mayS 3 0 0 zM L' = false := by rw [may_3n (by omega), ha]
    exact sput_any 3 0 0 zM A L' N c false _ _ w hL (by omega) hw hm rfl rfl
  obtain ⟨zl, hzl⟩ : ∃ z, ([] : List UInt8).length = z := ⟨_, rfl⟩
  have CL : Hid (∀ w : World, RdT w A L' c → Calls Try.prog 21 #[.slice A N c] w fun e w' => ∃ A' c', e = .returned (.tuple #[.slice A' zl c', .int .i64 1]) ∧ Rd w' w'.heap.size A' [] c' ∧ Below w.heap.size w w') := fun w hw => by
    obtain ⟨p1, p2⟩ := put_no ha
    exact tput_any A L' N c [] zl 1 w hL (by omega) hw p1 hzl p2
  have HZl := keepd hzl
  clear hPL hzl hr hL ha h170
  have t1 : decide ((u.toNat : Int) ≤ 31) = true := decide_eq_true (by omega)
  obtain ⟨qq, hqq⟩ : ∃ q : Int, (u.toNat : Int) = q := ⟨_, rfl⟩
  have HQ := keepd hqq
  rw [hqq] at hw hw2 CP1 t1 ⊢
  clear hqq hq
  go_enter Try.func6, Try.ntmps6
  go_upto_region 1 with fail
  generalize hV : W.alloc (.cells (ms X).toArray 23) = V
  obtain ⟨h1, h2, h3⟩ := one_new _ _ _ _ hV
  obtain ⟨g, hg⟩ : ∃ g, W.heap.size = g := ⟨_, rfl⟩
  rw [hg] at h1
  rw [hg]
  have HG := keepd hg
  have HX := keepd h1
  have HB := keepd h2
  have HRV := keepd (H.out.at_ h2)
  obtain ⟨x4, x5⟩ := MB.facts h1
  clear hV hg h1 h2 h3 H
  by_cases hn : n ≤ 170
  · have hnN : n = N := by omega
    have g1 : decide ((n : Int) > 170) = false := decide_eq_false (by omega)
    subst hnN
    clear hN hn
    go_upto_region 3 with fail
    go_wp2_with fail
    with_reducible refine (CP1.out _).mono ?_
    rintro e w1 ⟨A1, n1, c1, rfl, hn1, hr1, hb⟩
    have hn1' : n1 = 2 := hn1
    subst hn1'
    have HX1 := keepd (SR.call HX.out hb HX.out.lt)
    have HB1 := keepd (bCall HB.out hb)
    have HT1 := keepd (HRV.out.at_ hb)
    have HR1 := keepd hr1
    clear hb hr1 hn1 HX HB HRV x4 x5
    obtain ⟨x4, x5⟩ := MB.facts HX1.out
    go_wp2_with fail
    with_reducible refine (CP2.out _).mono ?_
    rintro e w2 ⟨A2, n2, c2, rfl, hn2, hr2, hb⟩
    have HX2 := keepd (SR.call HX1.out hb HX1.out.lt)
    have HB2 := keepd (bCall HB1.out hb)
    have HT2 := keepd (HT1.out.at_ hb)
    have HR12 := keepd (HR1.out.at_ hb)
    have HR2 := keepd hr2
    have HN2 := keepd hn2
    clear hb hr2 hn2 HX1 HB1 HT1 HR1 x4 x5
    go_wp2_with fail
    with_reducible refine (CP3.out _ HT2.out).mono ?_
    rintro e w3 ⟨A3, n3, c3, rfl, hn3, hr3, hb⟩
    have HX3 := keepd (SR.call HX2.out hb HX2.out.lt)
    have HB3 := keepd (bCall HB2.out hb)
    have HT3 := keepd (HT2.out.at_ hb)
    have HR13 := keepd (HR12.out.at_ hb)
    have HR23 := keepd (HR2.out.at_ hb)
    have HR3 := keepd hr3
    have HN3 := keepd hn3
    clear hb hr3 hn3 HX2 HB2 HT2 HR12 HR2
    go_wp2_with fail
    with_reducible refine (CL.out _ HT3.out).mono ?_
    rintro e w4 ⟨A4, c4, rfl, hr4, hb⟩
    have HX4 := keepd (SR.call HX3.out hb HX3.out.lt)
    have HB4 := keepd (bCall HB3.out hb)
    have HR14 := keepd (HR13.out.at_ hb)
    have HR24 := keepd (HR23.out.at_ hb)
    have HR34 := keepd (HR3.out.at_ hb)
    have HR4 := keepd hr4
    clear hb hr4 HX3 HB3 HT3 HR13 HR23 HR3
    have k1 := conv_str HR14.out
    have hnr := new_rd w4 #[.int .u8 1, .int .u8 qq] [1, u] 2 (by rw [← HQ.out]; rfl) rfl (by omega)
    have k2 := conv_str hnr
    obtain ⟨st, hst⟩ : ∃ s : ByteArray, (⟨[1, u].toArray⟩ : ByteArray) = s := ⟨_, rfl⟩
    rw [hst] at k1 k2
    have k1' : ∀ W : World, W = w4 → (convert 27 9 (.slice A1 2 c1)).run Try.prog w4 = .ok (.string st) w4 := fun _ _ => k1
    have hbA := bAlloc (Below.refl w4.heap.size w4) (.cells #[.int .u8 1, .int .u8 qq] 5)
    have k2' : (convert 27 9 (.slice (some ⟨w4.heap.size, 0, none⟩) 2 2)).run Try.prog (w4.alloc (.cells #[.int .u8 1, .int .u8 qq] 5)) = .ok (.string st) (w4.alloc (.cells #[.int .u8 1, .int .u8 qq] 5)) := k2
    have k1'' : (convert 27 9 (.slice A1 2 c1)).run Try.prog w4 = .ok (.string st) w4 := k1
    clear k1 k2 k1' hnr hst
    go_upto_region 9 with fail
    obtain ⟨w5, hw5⟩ : ∃ W, w4.alloc (.cells #[.int .u8 1, .int .u8 qq] 5) = W := ⟨_, rfl⟩
    rw [hw5] at hbA ⊢
    have HX5 := keepd (SR.call HX4.out hbA HX4.out.lt)
    have HB5 := keepd (bCall HB4.out hbA)
    have HR25 := keepd (HR24.out.at_ hbA)
    have HR35 := keepd (HR34.out.at_ hbA)
    have HR45 := keepd (HR4.out.at_ hbA)
    clear hw5 hbA k1'' k2' HX4 HB4 HR14 HR24 HR34 HR4
    have hbA := bAlloc (Below.refl w5.heap.size w5) (.cells #[.int .u8 253, .int .u8 2] 5)
    have HO := keepd (own_new w5 w5.heap.size #[.int .u8 253, .int .u8 2] [253, 2] 2 rfl rfl (by omega) (Nat.le_refl _))
    have hXn := SR.call HX5.out hbA HX5.out.lt
    obtain ⟨x4, x5⟩ := MB.facts hXn
    clear hXn
    go_wp2_with fail
    with_reducible refine (CM.out _).mono ?_
    rintro e w6 ⟨A6, c6, rfl, hr6, hb⟩
    obtain ⟨p2, hp2⟩ : ∃ p, P2.length = p := ⟨_, rfl⟩
    rw [hp2]
    have HO6 := keepd (HO.out.below hb)
    have hb6 := hbA.trans (hb.mono hbA.size)
    have HB6 := keepd hb6
    have HR6 := keepd hr6
    have HP2 := keepd hp2
    clear hr6 hb hbA x4 x5 HO hp2 hb6
    go_wp2_with (at_builtin; refine wpList_appG _ (by rfl) (.tmp 65) (.tmp 67) rfl w5.heap.size _ [253, 2] rfl HO6.out _ A6 p2 c6 P2 rfl HP2.out.symm HR6.out ?_ HB6.out.size ?_)
    · have := HP2l.out
      simp only [List.length_cons, List.length_nil]
      omega
    intro va w7 ho hg hat
    have hb7 := HB6.out.trans (grown_below HO6.out hg HB6.out.size)
    obtain ⟨A7, c7, rfl, hr7⟩ := ho.rd
    have HX7 := keepd (SR.call HX5.out hb7 HX5.out.lt)
    have HB7 := keepd (bCall HB5.out hb7)
    have HR27 := keepd (HR25.out.at_ hb7)
    have HR37 := keepd (HR35.out.at_ hb7)
    have HR47 := keepd (HR45.out.at_ hb7)
    have HR7 := keepd hr7
    clear ho hg hat hb7 hr7 HX5 HB5 HR25 HR35 HR45 HO6 HB6 HR6
    obtain ⟨n7, hn7⟩ : ∃ n, (253 :: 2 :: P2).length = n := ⟨_, rfl⟩
    have hn7' := hn7
    rw [hn7]
    have CO : Hid (Calls Try.prog 19 #[.slice A2 n2 c2, .slice A7 n7 c7] w7 fun e w' => e = .returned (.bool true) ∧ w7 = w') := by
      have := octets_any A2 A7 (253 :: 2 :: P2) (253 :: 2 :: P2) n2 n7 c2 c7 w7.heap.size w7 HN2.out hn7.symm HR27.out HR7.out
      rw [show ((253 :: 2 :: P2) == (253 :: 2 :: P2)) = true by simp] at this
      exact this
    clear hn7 hn7' HR7
    go_wp2_with fail
    with_reducible refine CO.out.mono ?_
    rintro e w7 ⟨rfl, rfl⟩
    clear CO HR27
    go_wp2_with fail
    with_reducible refine (awake_any _).mono ?_
    rintro e w9 ⟨rfl, hb9⟩
    have HB9 := keepd (bCall HB7.out hb9)
    clear hb9
    go_wp2_with fail
    go_ret
    exact ⟨rfl, HB9.out⟩
  · have hnN : N = 170 := by omega
    subst hnN
    have g1 : decide ((n : Int) > 170) = true := decide_eq_true (by omega)
    have i1 : ¬ (c : Int) < 170 := by omega
    clear hN
    go_upto_region 3 with fail
    clear i1 hn
    go_wp2_with fail
    with_reducible refine (CP1.out _).mono ?_
    rintro e w1 ⟨A1, n1, c1, rfl, hn1, hr1, hb⟩
    have hn1' : n1 = 2 := hn1
    subst hn1'
    have HX1 := keepd (SR.call HX.out hb HX.out.lt)
    have HB1 := keepd (bCall HB.out hb)
    have HT1 := keepd (HRV.out.at_ hb)
    have HR1 := keepd hr1
    clear hb hr1 hn1 HX HB HRV x4 x5
    obtain ⟨x4, x5⟩ := MB.facts HX1.out
    go_wp2_with fail
    with_reducible refine (CP2.out _).mono ?_
    rintro e w2 ⟨A2, n2, c2, rfl, hn2, hr2, hb⟩
    have HX2 := keepd (SR.call HX1.out hb HX1.out.lt)
    have HB2 := keepd (bCall HB1.out hb)
    have HT2 := keepd (HT1.out.at_ hb)
    have HR12 := keepd (HR1.out.at_ hb)
    have HR2 := keepd hr2
    have HN2 := keepd hn2
    clear hb hr2 hn2 HX1 HB1 HT1 HR1 x4 x5
    go_wp2_with fail
    with_reducible refine (CP3.out _ HT2.out).mono ?_
    rintro e w3 ⟨A3, n3, c3, rfl, hn3, hr3, hb⟩
    have HX3 := keepd (SR.call HX2.out hb HX2.out.lt)
    have HB3 := keepd (bCall HB2.out hb)
    have HT3 := keepd (HT2.out.at_ hb)
    have HR13 := keepd (HR12.out.at_ hb)
    have HR23 := keepd (HR2.out.at_ hb)
    have HR3 := keepd hr3
    have HN3 := keepd hn3
    clear hb hr3 hn3 HX2 HB2 HT2 HR12 HR2
    go_wp2_with fail
    with_reducible refine (CL.out _ HT3.out).mono ?_
    rintro e w4 ⟨A4, c4, rfl, hr4, hb⟩
    have HX4 := keepd (SR.call HX3.out hb HX3.out.lt)
    have HB4 := keepd (bCall HB3.out hb)
    have HR14 := keepd (HR13.out.at_ hb)
    have HR24 := keepd (HR23.out.at_ hb)
    have HR34 := keepd (HR3.out.at_ hb)
    have HR4 := keepd hr4
    clear hb hr4 HX3 HB3 HT3 HR13 HR23 HR3
    have k1 := conv_str HR14.out
    have hnr := new_rd w4 #[.int .u8 1, .int .u8 qq] [1, u] 2 (by rw [← HQ.out]; rfl) rfl (by omega)
    have k2 := conv_str hnr
    obtain ⟨st, hst⟩ : ∃ s : ByteArray, (⟨[1, u].toArray⟩ : ByteArray) = s := ⟨_, rfl⟩
    rw [hst] at k1 k2
    have k1' : ∀ W : World, W = w4 → (convert 27 9 (.slice A1 2 c1)).run Try.prog w4 = .ok (.string st) w4 := fun _ _ => k1
    have hbA := bAlloc (Below.refl w4.heap.size w4) (.cells #[.int .u8 1, .int .u8 qq] 5)
    have k2' : (convert 27 9 (.slice (some ⟨w4.heap.size, 0, none⟩) 2 2)).run Try.prog (w4.alloc (.cells #[.int .u8 1, .int .u8 qq] 5)) = .ok (.string st) (w4.alloc (.cells #[.int .u8 1, .int .u8 qq] 5)) := k2
    have k1'' : (convert 27 9 (.slice A1 2 c1)).run Try.prog w4 = .ok (.string st) w4 := k1
    clear k1 k2 k1' hnr hst
    go_upto_region 9 with fail
    obtain ⟨w5, hw5⟩ : ∃ W, w4.alloc (.cells #[.int .u8 1, .int .u8 qq] 5) = W := ⟨_, rfl⟩
    rw [hw5] at hbA ⊢
    have HX5 := keepd (SR.call HX4.out hbA HX4.out.lt)
    have HB5 := keepd (bCall HB4.out hbA)
    have HR25 := keepd (HR24.out.at_ hbA)
    have HR35 := keepd (HR34.out.at_ hbA)
    have HR45 := keepd (HR4.out.at_ hbA)
    clear hw5 hbA k1'' k2' HX4 HB4 HR14 HR24 HR34 HR4
    have hbA := bAlloc (Below.refl w5.heap.size w5) (.cells #[.int .u8 253, .int .u8 2] 5)
    have HO := keepd (own_new w5 w5.heap.size #[.int .u8 253, .int .u8 2] [253, 2] 2 rfl rfl (by omega) (Nat.le_refl _))
    have hXn := SR.call HX5.out hbA HX5.out.lt
    obtain ⟨x4, x5⟩ := MB.facts hXn
    clear hXn
    go_wp2_with fail
    with_reducible refine (CM.out _).mono ?_
    rintro e w6 ⟨A6, c6, rfl, hr6, hb⟩
    obtain ⟨p2, hp2⟩ : ∃ p, P2.length = p := ⟨_, rfl⟩
    rw [hp2]
    have HO6 := keepd (HO.out.below hb)
    have hb6 := hbA.trans (hb.mono hbA.size)
    have HB6 := keepd hb6
    have HR6 := keepd hr6
    have HP2 := keepd hp2
    clear hr6 hb hbA x4 x5 HO hp2 hb6
    go_wp2_with (at_builtin; refine wpList_appG _ (by rfl) (.tmp 65) (.tmp 67) rfl w5.heap.size _ [253, 2] rfl HO6.out _ A6 p2 c6 P2 rfl HP2.out.symm HR6.out ?_ HB6.out.size ?_)
    · have := HP2l.out
      simp only [List.length_cons, List.length_nil]
      omega
    intro va w7 ho hg hat
    have hb7 := HB6.out.trans (grown_below HO6.out hg HB6.out.size)
    obtain ⟨A7, c7, rfl, hr7⟩ := ho.rd
    have HX7 := keepd (SR.call HX5.out hb7 HX5.out.lt)
    have HB7 := keepd (bCall HB5.out hb7)
    have HR27 := keepd (HR25.out.at_ hb7)
    have HR37 := keepd (HR35.out.at_ hb7)
    have HR47 := keepd (HR45.out.at_ hb7)
    have HR7 := keepd hr7
    clear ho hg hat hb7 hr7 HX5 HB5 HR25 HR35 HR45 HO6 HB6 HR6
    obtain ⟨n7, hn7⟩ : ∃ n, (253 :: 2 :: P2).length = n := ⟨_, rfl⟩
    have hn7' := hn7
    rw [hn7]
    have CO : Hid (Calls Try.prog 19 #[.slice A2 n2 c2, .slice A7 n7 c7] w7 fun e w' => e = .returned (.bool true) ∧ w7 = w') := by
      have := octets_any A2 A7 (253 :: 2 :: P2) (253 :: 2 :: P2) n2 n7 c2 c7 w7.heap.size w7 HN2.out hn7.symm HR27.out HR7.out
      rw [show ((253 :: 2 :: P2) == (253 :: 2 :: P2)) = true by simp] at this
      exact this
    clear hn7 hn7' HR7
    go_wp2_with fail
    with_reducible refine CO.out.mono ?_
    rintro e w7 ⟨rfl, rfl⟩
    clear CO HR27
    go_wp2_with fail
    with_reducible refine (awake_any _).mono ?_
    rintro e w9 ⟨rfl, hb9⟩
    have HB9 := keepd (bCall HB7.out hb9)
    clear hb9
    go_wp2_with fail
    go_ret
    exact ⟨rfl, HB9.out⟩

set_option maxHeartbeats 4000000 in
theorem parts_ny (A : Option Addr) (n c : Nat) (X : Mk) (u : UInt8) (N : Nat) (L' : List Tr) (W : World) (hr : RdT W A L' c) (hnc : n ≤ c) (hcm : c ≤ maxLen) (hN : min n 170 = N) (hL : N = L'.length) (hq : ¬ u.toNat ≤ 31) (ha : allT L' = true) :
    Calls Try.prog 6 #[.slice A n c, mv X, .int .u8 (u.toNat : Int)] W fun e w' => e = .returned (.bool true) ∧ Below W.heap.size W w' := by
  have H := keepd hr
  have HN := keepd hL
  have HA := keepd ha
  have HCM := keepd hcm
  unfold maxLen at hcm
  have h170 : N ≤ 170 := by omega
  have H170 := keepd h170
  have hw : wrap64 (u.toNat : Int) = (u.toNat : Int) := wrap64_u8 u
  have hw2 : IntKind.i64.wrap (u.toNat : Int) = (u.toNat : Int) := by rw [IntWalk.i64_left]; exact hw
  have hu8 : u8 (u.toNat : Int) = u := u8_of u
  have hu255 := u.toNat_lt
  have CP1 : Hid (∀ w : World, Calls Try.prog 11 #[sv 1 (u.toNat : Int) 0 zM (.slice none 0 0)] w (PutAns w [] 1)) := fun w => by
    exact sput_any 1 (u.toNat : Int) 0 zM none [] 0 0 false _ _ w rfl (by omega) (RdT.nil _) (may_1x (by omega)) rfl rfl
  obtain ⟨P2, hP2⟩ : ∃ P, trimM X = P := ⟨_, rfl⟩
  have hP2l : P2.length ≤ 32 := by rw [← hP2, trimM_len]; exact trimN_le X
  have CP2 : Hid (∀ w : World, Calls Try.prog 11 #[sv 2 0 253 X (.slice none 0 0)] w (PutAns w (253 :: 2 :: P2) 0)) := fun w => by
    have := sput_any 2 0 253 X none [] 0 0 true _ _ w rfl (by omega) (RdT.nil _) (may_2x X) rfl rfl
    rw [show putR 2 0 253 X [] true = 253 :: 2 :: trimM X from rfl, hP2] at this
    exact this
  have CM : Hid (∀ w : World, Calls Try.prog 22 #[mv X] w (GotL w P2)) := fun w => by
    have := mput_any X w
    rw [hP2] at this
    exact this
  have HP2l := keepd hP2l
  clear hP2 hP2l hu8
  obtain ⟨PL, hPL⟩ : ∃ P, liesL L' = P := ⟨_, rfl⟩
  have HPLl : Hid (PL.length ≤ 600) := by show _ ≤ _; rw [← hPL, liesL_len, ← hL]; omega
  have CP3 : Hid (∀ w : World, RdT w A L' c → Calls Try.prog 11 #[sv 3 0 0 zM (.slice A N c)] w (PutAns w (3 :: PL) 0)) := fun w hw => by
    have hm : mayS 3 0 0 zM L' = true := by rw [may_3n (by omega), ha]
    have := sput_any 3 0 0 zM A L' N c true _ _ w hL (by omega) hw hm rfl rfl
    rw [show putR 3 0 0 zM L' true = 3 :: liesL L' from rfl, hPL] at this
    exact this
  obtain ⟨zl, hzl⟩ : ∃ z, PL.length = z := ⟨_, rfl⟩
  have CL : Hid (∀ w : World, RdT w A L' c → Calls Try.prog 21 #[.slice A N c] w fun e w' => ∃ A' c', e = .returned (.tuple #[.slice A' zl c', .int .i64 0]) ∧ Rd w' w'.heap.size A' PL c' ∧ Below w.heap.size w w') := fun w hw => by
    obtain ⟨p1, p2⟩ := put_yes ha
    rw [hPL] at p1
    exact tput_any A L' N c PL zl 0 w hL (by omega) hw p1 hzl p2
  have HZl := keepd hzl
  clear hPL hzl hr hL ha h170
  have t1 : decide ((u.toNat : Int) ≤ 31) = false := decide_eq_false (by omega)
  obtain ⟨qq, hqq⟩ : ∃ q : Int, (u.toNat : Int) = q := ⟨_, rfl⟩
  have HQ := keepd hqq
  rw [hqq] at hw hw2 CP1 t1 ⊢
  clear hqq hq
  go_enter Try.func6, Try.ntmps6
  go_upto_region 1 with fail
  generalize hV : W.alloc (.cells (ms X).toArray 23) = V
  obtain ⟨h1, h2, h3⟩ := one_new _ _ _ _ hV
  obtain ⟨g, hg⟩ : ∃ g, W.heap.size = g := ⟨_, rfl⟩
  rw [hg] at h1
  rw [hg]
  have HG := keepd hg
  have HX := keepd h1
  have HB := keepd h2
  have HRV := keepd (H.out.at_ h2)
  obtain ⟨x4, x5⟩ := MB.facts h1
  clear hV hg h1 h2 h3 H
  by_cases hn : n ≤ 170
  · have hnN : n = N := by omega
    have g1 : decide ((n : Int) > 170) = false := decide_eq_false (by omega)
    subst hnN
    clear hN hn
    go_upto_region 3 with fail
    go_wp2_with fail
    with_reducible refine (CP1.out _).mono ?_
    rintro e w1 ⟨A1, n1, c1, rfl, hn1, hr1, hb⟩
    have hn1' : n1 = 0 := hn1
    subst hn1'
    have HX1 := keepd (SR.call HX.out hb HX.out.lt)
    have HB1 := keepd (bCall HB.out hb)
    have HT1 := keepd (HRV.out.at_ hb)
    have HR1 := keepd hr1
    clear hb hr1 hn1 HX HB HRV x4 x5
    obtain ⟨x4, x5⟩ := MB.facts HX1.out
    go_wp2_with fail
    with_reducible refine (CP2.out _).mono ?_
    rintro e w2 ⟨A2, n2, c2, rfl, hn2, hr2, hb⟩
    have HX2 := keepd (SR.call HX1.out hb HX1.out.lt)
    have HB2 := keepd (bCall HB1.out hb)
    have HT2 := keepd (HT1.out.at_ hb)
    have HR12 := keepd (HR1.out.at_ hb)
    have HR2 := keepd hr2
    have HN2 := keepd hn2
    clear hb hr2 hn2 HX1 HB1 HT1 HR1 x4 x5
    go_wp2_with fail
    with_reducible refine (CP3.out _ HT2.out).mono ?_
    rintro e w3 ⟨A3, n3, c3, rfl, hn3, hr3, hb⟩
    have HX3 := keepd (SR.call HX2.out hb HX2.out.lt)
    have HB3 := keepd (bCall HB2.out hb)
    have HT3 := keepd (HT2.out.at_ hb)
    have HR13 := keepd (HR12.out.at_ hb)
    have HR23 := keepd (HR2.out.at_ hb)
    have HR3 := keepd hr3
    have HN3 := keepd hn3
    clear hb hr3 hn3 HX2 HB2 HT2 HR12 HR2
    go_wp2_with fail
    with_reducible refine (CL.out _ HT3.out).mono ?_
    rintro e w4 ⟨A4, c4, rfl, hr4, hb⟩
    have HX4 := keepd (SR.call HX3.out hb HX3.out.lt)
    have HB4 := keepd (bCall HB3.out hb)
    have HR14 := keepd (HR13.out.at_ hb)
    have HR24 := keepd (HR23.out.at_ hb)
    have HR34 := keepd (HR3.out.at_ hb)
    have HR4 := keepd hr4
    clear hb hr4 HX3 HB3 HT3 HR13 HR23 HR3
    go_upto_region 9 with fail
    have HX5 := HX4
    have HB5 := HB4
    have HR25 := HR24
    have HR35 := HR34
    have HR45 := HR4
    clear HX4 HB4 HR14 HR24 HR34 HR4
    have hbA := bAlloc (Below.refl w4.heap.size w4) (.cells #[.int .u8 253, .int .u8 2] 5)
    have HO := keepd (own_new w4 w4.heap.size #[.int .u8 253, .int .u8 2] [253, 2] 2 rfl rfl (by omega) (Nat.le_refl _))
    have hXn := SR.call HX5.out hbA HX5.out.lt
    obtain ⟨x4, x5⟩ := MB.facts hXn
    clear hXn
    go_wp2_with fail
    with_reducible refine (CM.out _).mono ?_
    rintro e w6 ⟨A6, c6, rfl, hr6, hb⟩
    obtain ⟨p2, hp2⟩ : ∃ p, P2.length = p := ⟨_, rfl⟩
    rw [hp2]
    have HO6 := keepd (HO.out.below hb)
    have hb6 := hbA.trans (hb.mono hbA.size)
    have HB6 := keepd hb6
    have HR6 := keepd hr6
    have HP2 := keepd hp2
    clear hr6 hb hbA x4 x5 HO hp2 hb6
    go_wp2_with (at_builtin; refine wpList_appG _ (by rfl) (.tmp 65) (.tmp 67) rfl w4.heap.size _ [253, 2] rfl HO6.out _ A6 p2 c6 P2 rfl HP2.out.symm HR6.out ?_ HB6.out.size ?_)
    · have := HP2l.out
      simp only [List.length_cons, List.length_nil]
      omega
    intro va w7 ho hg hat
    have hb7 := HB6.out.trans (grown_below HO6.out hg HB6.out.size)
    obtain ⟨A7, c7, rfl, hr7⟩ := ho.rd
    have HX7 := keepd (SR.call HX5.out hb7 HX5.out.lt)
    have HB7 := keepd (bCall HB5.out hb7)
    have HR27 := keepd (HR25.out.at_ hb7)
    have HR37 := keepd (HR35.out.at_ hb7)
    have HR47 := keepd (HR45.out.at_ hb7)
    have HR7 := keepd hr7
    clear ho hg hat hb7 hr7 HX5 HB5 HR25 HR35 HR45 HO6 HB6 HR6
    obtain ⟨n7, hn7⟩ : ∃ n, (253 :: 2 :: P2).length = n := ⟨_, rfl⟩
    have hn7' := hn7
    rw [hn7]
    have CO : Hid (Calls Try.prog 19 #[.slice A2 n2 c2, .slice A7 n7 c7] w7 fun e w' => e = .returned (.bool true) ∧ w7 = w') := by
      have := octets_any A2 A7 (253 :: 2 :: P2) (253 :: 2 :: P2) n2 n7 c2 c7 w7.heap.size w7 HN2.out hn7.symm HR27.out HR7.out
      rw [show ((253 :: 2 :: P2) == (253 :: 2 :: P2)) = true by simp] at this
      exact this
    clear hn7 hn7' HR7
    go_wp2_with fail
    with_reducible refine CO.out.mono ?_
    rintro e w7 ⟨rfl, rfl⟩
    clear CO HR27
    go_upto_region 11 with fail
    have hbA := bAlloc (Below.refl w7.heap.size w7) (.cells #[.int .u8 3] 5)
    have HO := keepd (own_new w7 w7.heap.size #[.int .u8 3] [3] 1 rfl rfl (by omega) (Nat.le_refl _))
    have HR4n := keepd (HR47.out.at_ hbA)
    have HBA := keepd hbA
    clear hbA
    go_wp2_with (at_builtin; refine wpList_appG _ (by rfl) (.tmp 83) (.tmp 84) rfl w7.heap.size _ [3] rfl HO.out _ A4 zl c4 PL rfl HZl.out.symm HR4n.out ?_ HBA.out.size ?_)
    · have := HPLl.out
      simp only [List.length_cons, List.length_nil]
      omega
    intro va w8 ho hg hat
    have hb8 := HBA.out.trans (grown_below HO.out hg HBA.out.size)
    obtain ⟨A8, c8, rfl, hr8⟩ := ho.rd
    have HB8 := keepd (bCall HB7.out hb8)
    have HR38 := keepd (HR37.out.at_ hb8)
    have HR8 := keepd hr8
    clear ho hg hat hb8 hr8 HX7 HB7 HR37 HR47 HO HBA HR4n
    obtain ⟨n8, hn8⟩ : ∃ n, (3 :: PL).length = n := ⟨_, rfl⟩
    rw [hn8]
    have CO2 : Hid (Calls Try.prog 19 #[.slice A3 n3 c3, .slice A8 n8 c8] w8 fun e w' => e = .returned (.bool true) ∧ w8 = w') := by
      have := octets_any A3 A8 (3 :: PL) (3 :: PL) n3 n8 c3 c8 w8.heap.size w8 HN3.out hn8.symm HR38.out HR8.out
      rw [show ((3 :: PL) == (3 :: PL)) = true by simp] at this
      exact this
    clear hn8 HR8 HR38
    go_wp2_with fail
    with_reducible refine CO2.out.mono ?_
    rintro e w8 ⟨rfl, rfl⟩
    clear CO2
    go_wp2_with fail
    with_reducible refine (awake_any _).mono ?_
    rintro e w9 ⟨rfl, hb9⟩
    have HB9 := keepd (bCall HB8.out hb9)
    clear hb9
    go_wp2_with fail
    go_ret
    exact ⟨rfl, HB9.out⟩
  · have hnN : N = 170 := by omega
    subst hnN
    have g1 : decide ((n : Int) > 170) = true := decide_eq_true (by omega)
    have i1 : ¬ (c : Int) < 170 := by omega
    clear hN
    go_upto_region 3 with fail
    clear i1 hn
    go_wp2_with fail
    with_reducible refine (CP1.out _).mono ?_
    rintro e w1 ⟨A1, n1, c1, rfl, hn1, hr1, hb⟩
    have hn1' : n1 = 0 := hn1
    subst hn1'
    have HX1 := keepd (SR.call HX.out hb HX.out.lt)
    have HB1 := keepd (bCall HB.out hb)
    have HT1 := keepd (HRV.out.at_ hb)
    have HR1 := keepd hr1
    clear hb hr1 hn1 HX HB HRV x4 x5
    obtain ⟨x4, x5⟩ := MB.facts HX1.out
    go_wp2_with fail
    with_reducible refine (CP2.out _).mono ?_
    rintro e w2 ⟨A2, n2, c2, rfl, hn2, hr2, hb⟩
    have HX2 := keepd (SR.call HX1.out hb HX1.out.lt)
    have HB2 := keepd (bCall HB1.out hb)
    have HT2 := keepd (HT1.out.at_ hb)
    have HR12 := keepd (HR1.out.at_ hb)
    have HR2 := keepd hr2
    have HN2 := keepd hn2
    clear hb hr2 hn2 HX1 HB1 HT1 HR1 x4 x5
    go_wp2_with fail
    with_reducible refine (CP3.out _ HT2.out).mono ?_
    rintro e w3 ⟨A3, n3, c3, rfl, hn3, hr3, hb⟩
    have HX3 := keepd (SR.call HX2.out hb HX2.out.lt)
    have HB3 := keepd (bCall HB2.out hb)
    have HT3 := keepd (HT2.out.at_ hb)
    have HR13 := keepd (HR12.out.at_ hb)
    have HR23 := keepd (HR2.out.at_ hb)
    have HR3 := keepd hr3
    have HN3 := keepd hn3
    clear hb hr3 hn3 HX2 HB2 HT2 HR12 HR2
    go_wp2_with fail
    with_reducible refine (CL.out _ HT3.out).mono ?_
    rintro e w4 ⟨A4, c4, rfl, hr4, hb⟩
    have HX4 := keepd (SR.call HX3.out hb HX3.out.lt)
    have HB4 := keepd (bCall HB3.out hb)
    have HR14 := keepd (HR13.out.at_ hb)
    have HR24 := keepd (HR23.out.at_ hb)
    have HR34 := keepd (HR3.out.at_ hb)
    have HR4 := keepd hr4
    clear hb hr4 HX3 HB3 HT3 HR13 HR23 HR3
    go_upto_region 9 with fail
    have HX5 := HX4
    have HB5 := HB4
    have HR25 := HR24
    have HR35 := HR34
    have HR45 := HR4
    clear HX4 HB4 HR14 HR24 HR34 HR4
    have hbA := bAlloc (Below.refl w4.heap.size w4) (.cells #[.int .u8 253, .int .u8 2] 5)
    have HO := keepd (own_new w4 w4.heap.size #[.int .u8 253, .int .u8 2] [253, 2] 2 rfl rfl (by omega) (Nat.le_refl _))
    have hXn := SR.call HX5.out hbA HX5.out.lt
    obtain ⟨x4, x5⟩ := MB.facts hXn
    clear hXn
    go_wp2_with fail
    with_reducible refine (CM.out _).mono ?_
    rintro e w6 ⟨A6, c6, rfl, hr6, hb⟩
    obtain ⟨p2, hp2⟩ : ∃ p, P2.length = p := ⟨_, rfl⟩
    rw [hp2]
    have HO6 := keepd (HO.out.below hb)
    have hb6 := hbA.trans (hb.mono hbA.size)
    have HB6 := keepd hb6
    have HR6 := keepd hr6
    have HP2 := keepd hp2
    clear hr6 hb hbA x4 x5 HO hp2 hb6
    go_wp2_with (at_builtin; refine wpList_appG _ (by rfl) (.tmp 65) (.tmp 67) rfl w4.heap.size _ [253, 2] rfl HO6.out _ A6 p2 c6 P2 rfl HP2.out.symm HR6.out ?_ HB6.out.size ?_)
    · have := HP2l.out
      simp only [List.length_cons, List.length_nil]
      omega
    intro va w7 ho hg hat
    have hb7 := HB6.out.trans (grown_below HO6.out hg HB6.out.size)
    obtain ⟨A7, c7, rfl, hr7⟩ := ho.rd
    have HX7 := keepd (SR.call HX5.out hb7 HX5.out.lt)
    have HB7 := keepd (bCall HB5.out hb7)
    have HR27 := keepd (HR25.out.at_ hb7)
    have HR37 := keepd (HR35.out.at_ hb7)
    have HR47 := keepd (HR45.out.at_ hb7)
    have HR7 := keepd hr7
    clear ho hg hat hb7 hr7 HX5 HB5 HR25 HR35 HR45 HO6 HB6 HR6
    obtain ⟨n7, hn7⟩ : ∃ n, (253 :: 2 :: P2).length = n := ⟨_, rfl⟩
    have hn7' := hn7
    rw [hn7]
    have CO : Hid (Calls Try.prog 19 #[.slice A2 n2 c2, .slice A7 n7 c7] w7 fun e w' => e = .returned (.bool true) ∧ w7 = w') := by
      have := octets_any A2 A7 (253 :: 2 :: P2) (253 :: 2 :: P2) n2 n7 c2 c7 w7.heap.size w7 HN2.out hn7.symm HR27.out HR7.out
      rw [show ((253 :: 2 :: P2) == (253 :: 2 :: P2)) = true by simp] at this
      exact this
    clear hn7 hn7' HR7
    go_wp2_with fail
    with_reducible refine CO.out.mono ?_
    rintro e w7 ⟨rfl, rfl⟩
    clear CO HR27
    go_upto_region 11 with fail
    have hbA := bAlloc (Below.refl w7.heap.size w7) (.cells #[.int .u8 3] 5)
    have HO := keepd (own_new w7 w7.heap.size #[.int .u8 3] [3] 1 rfl rfl (by omega) (Nat.le_refl _))
    have HR4n := keepd (HR47.out.at_ hbA)
    have HBA := keepd hbA
    clear hbA
    go_wp2_with (at_builtin; refine wpList_appG _ (by rfl) (.tmp 83) (.tmp 84) rfl w7.heap.size _ [3] rfl HO.out _ A4 zl c4 PL rfl HZl.out.symm HR4n.out ?_ HBA.out.size ?_)
    · have := HPLl.out
      simp only [List.length_cons, List.length_nil]
      omega
    intro va w8 ho hg hat
    have hb8 := HBA.out.trans (grown_below HO.out hg HBA.out.size)
    obtain ⟨A8, c8, rfl, hr8⟩ := ho.rd
    have HB8 := keepd (bCall HB7.out hb8)
    have HR38 := keepd (HR37.out.at_ hb8)
    have HR8 := keepd hr8
    clear ho hg hat hb8 hr8 HX7 HB7 HR37 HR47 HO HBA HR4n
    obtain ⟨n8, hn8⟩ : ∃ n, (3 :: PL).length = n := ⟨_, rfl⟩
    rw [hn8]
    have CO2 : Hid (Calls Try.prog 19 #[.slice A3 n3 c3, .slice A8 n8 c8] w8 fun e w' => e = .returned (.bool true) ∧ w8 = w') := by
      have := octets_any A3 A8 (3 :: PL) (3 :: PL) n3 n8 c3 c8 w8.heap.size w8 HN3.out hn8.symm HR38.out HR8.out
      rw [show ((3 :: PL) == (3 :: PL)) = true by simp] at this
      exact this
    clear hn8 HR8 HR38
    go_wp2_with fail
    with_reducible refine CO2.out.mono ?_
    rintro e w8 ⟨rfl, rfl⟩
    clear CO2
    go_wp2_with fail
    with_reducible refine (awake_any _).mono ?_
    rintro e w9 ⟨rfl, hb9⟩
    have HB9 := keepd (bCall HB8.out hb9)
    clear hb9
    go_wp2_with fail
    go_ret
    exact ⟨rfl, HB9.out⟩

set_option maxHeartbeats 4000000 in
theorem parts_nn (A : Option Addr) (n c : Nat) (X : Mk) (u : UInt8) (N : Nat) (L' : List Tr) (W : World) (hr : RdT W A L' c) (hnc : n ≤ c) (hcm : c ≤ maxLen) (hN : min n 170 = N) (hL : N = L'.length) (hq : ¬ u.toNat ≤ 31) (ha : allT L' = false) :
    Calls Try.prog 6 #[.slice A n c, mv X, .int .u8 (u.toNat : Int)] W fun e w' => e = .returned (.bool true) ∧ Below W.heap.size W w' := by
  have H := keepd hr
  have HN := keepd hL
  have HA := keepd ha
  have HCM := keepd hcm
  unfold maxLen at hcm
  have h170 : N ≤ 170 := by omega
  have H170 := keepd h170
  have hw : wrap64 (u.toNat : Int) = (u.toNat : Int) := wrap64_u8 u
  have hw2 : IntKind.i64.wrap (u.toNat : Int) = (u.toNat : Int) := by rw [IntWalk.i64_left]; exact hw
  have hu8 : u8 (u.toNat : Int) = u := u8_of u
  have hu255 := u.toNat_lt
  have CP1 : Hid (∀ w : World, Calls Try.prog 11 #[sv 1 (u.toNat : Int) 0 zM (.slice none 0 0)] w (PutAns w [] 1)) := fun w => by
    exact sput_any 1 (u.toNat : Int) 0 zM none [] 0 0 false _ _ w rfl (by omega) (RdT.nil _) (may_1x (by omega)) rfl rfl
  obtain ⟨P2, hP2⟩ : ∃ P, trimM X = P := ⟨_, rfl⟩
  have hP2l : P2.length ≤ 32 := by rw [← hP2, trimM_len]; exact trimN_le X
  have CP2 : Hid (∀ w : World, Calls Try.prog 11 #[sv 2 0 253 X (.slice none 0 0)] w (PutAns w (253 :: 2 :: P2) 0)) := fun w => by
    have := sput_any 2 0 253 X none [] 0 0 true _ _ w rfl (by omega) (RdT.nil _) (may_2x X) rfl rfl
    rw [show putR 2 0 253 X [] true = 253 :: 2 :: trimM X from rfl, hP2] at this
    exact this
  have CM : Hid (∀ w : World, Calls Try.prog 22 #[mv X] w (GotL w P2)) := fun w => by
    have := mput_any X w
    rw [hP2] at this
    exact this
  have HP2l := keepd hP2l
  clear hP2 hP2l hu8
  obtain ⟨PL, hPL⟩ : ∃ P, liesL L' = P := ⟨_, rfl⟩
  have HPLl : Hid (PL.length ≤ 600) := by show _ ≤ _; rw [← hPL, liesL_len, ← hL]; omega
  have CP3 : Hid (∀ w : World, RdT w A L' c → Calls Try.prog 11 #[sv 3 0 0 zM (.slice A N c)] w (PutAns w [] 1)) := fun w hw => by
    have hm : mayS 3 0 0 zM L' = false := by rw [may_3n (by omega), ha]
    exact sput_any 3 0 0 zM A L' N c false _ _ w hL (by omega) hw hm rfl rfl
  obtain ⟨zl, hzl⟩ : ∃ z, ([] : List UInt8).length = z := ⟨_, rfl⟩
  have CL : Hid (∀ w : World, RdT w A L' c → Calls Try.prog 21 #[.slice A N c] w fun e w' => ∃ A' c', e = .returned (.tuple #[.slice A' zl c', .int .i64 1]) ∧ Rd w' w'.heap.size A' [] c' ∧ Below w.heap.size w w') := fun w hw => by
    obtain ⟨p1, p2⟩ := put_no ha
    exact tput_any A L' N c [] zl 1 w hL (by omega) hw p1 hzl p2
  have HZl := keepd hzl
  clear hPL hzl hr hL ha h170
  have t1 : decide ((u.toNat : Int) ≤ 31) = false := decide_eq_false (by omega)
  obtain ⟨qq, hqq⟩ : ∃ q : Int, (u.toNat : Int) = q := ⟨_, rfl⟩
  have HQ := keepd hqq
  rw [hqq] at hw hw2 CP1 t1 ⊢
  clear hqq hq
  go_enter Try.func6, Try.ntmps6
  go_upto_region 1 with fail
  generalize hV : W.alloc (.cells (ms X).toArray 23) = V
  obtain ⟨h1, h2, h3⟩ := one_new _ _ _ _ hV
  obtain ⟨g, hg⟩ : ∃ g, W.heap.size = g := ⟨_, rfl⟩
  rw [hg] at h1
  rw [hg]
  have HG := keepd hg
  have HX := keepd h1
  have HB := keepd h2
  have HRV := keepd (H.out.at_ h2)
  obtain ⟨x4, x5⟩ := MB.facts h1
  clear hV hg h1 h2 h3 H
  by_cases hn : n ≤ 170
  · have hnN : n = N := by omega
    have g1 : decide ((n : Int) > 170) = false := decide_eq_false (by omega)
    subst hnN
    clear hN hn
    go_upto_region 3 with fail
    go_wp2_with fail
    with_reducible refine (CP1.out _).mono ?_
    rintro e w1 ⟨A1, n1, c1, rfl, hn1, hr1, hb⟩
    have hn1' : n1 = 0 := hn1
    subst hn1'
    have HX1 := keepd (SR.call HX.out hb HX.out.lt)
    have HB1 := keepd (bCall HB.out hb)
    have HT1 := keepd (HRV.out.at_ hb)
    have HR1 := keepd hr1
    clear hb hr1 hn1 HX HB HRV x4 x5
    obtain ⟨x4, x5⟩ := MB.facts HX1.out
    go_wp2_with fail
    with_reducible refine (CP2.out _).mono ?_
    rintro e w2 ⟨A2, n2, c2, rfl, hn2, hr2, hb⟩
    have HX2 := keepd (SR.call HX1.out hb HX1.out.lt)
    have HB2 := keepd (bCall HB1.out hb)
    have HT2 := keepd (HT1.out.at_ hb)
    have HR12 := keepd (HR1.out.at_ hb)
    have HR2 := keepd hr2
    have HN2 := keepd hn2
    clear hb hr2 hn2 HX1 HB1 HT1 HR1 x4 x5
    go_wp2_with fail
    with_reducible refine (CP3.out _ HT2.out).mono ?_
    rintro e w3 ⟨A3, n3, c3, rfl, hn3, hr3, hb⟩
    have HX3 := keepd (SR.call HX2.out hb HX2.out.lt)
    have HB3 := keepd (bCall HB2.out hb)
    have HT3 := keepd (HT2.out.at_ hb)
    have HR13 := keepd (HR12.out.at_ hb)
    have HR23 := keepd (HR2.out.at_ hb)
    have HR3 := keepd hr3
    have HN3 := keepd hn3
    clear hb hr3 hn3 HX2 HB2 HT2 HR12 HR2
    go_wp2_with fail
    with_reducible refine (CL.out _ HT3.out).mono ?_
    rintro e w4 ⟨A4, c4, rfl, hr4, hb⟩
    have HX4 := keepd (SR.call HX3.out hb HX3.out.lt)
    have HB4 := keepd (bCall HB3.out hb)
    have HR14 := keepd (HR13.out.at_ hb)
    have HR24 := keepd (HR23.out.at_ hb)
    have HR34 := keepd (HR3.out.at_ hb)
    have HR4 := keepd hr4
    clear hb hr4 HX3 HB3 HT3 HR13 HR23 HR3
    go_upto_region 9 with fail
    have HX5 := HX4
    have HB5 := HB4
    have HR25 := HR24
    have HR35 := HR34
    have HR45 := HR4
    clear HX4 HB4 HR14 HR24 HR34 HR4
    have hbA := bAlloc (Below.refl w4.heap.size w4) (.cells #[.int .u8 253, .int .u8 2] 5)
    have HO := keepd (own_new w4 w4.heap.size #[.int .u8 253, .int .u8 2] [253, 2] 2 rfl rfl (by omega) (Nat.le_refl _))
    have hXn := SR.call HX5.out hbA HX5.out.lt
    obtain ⟨x4, x5⟩ := MB.facts hXn
    clear hXn
    go_wp2_with fail
    with_reducible refine (CM.out _).mono ?_
    rintro e w6 ⟨A6, c6, rfl, hr6, hb⟩
    obtain ⟨p2, hp2⟩ : ∃ p, P2.length = p := ⟨_, rfl⟩
    rw [hp2]
    have HO6 := keepd (HO.out.below hb)
    have hb6 := hbA.trans (hb.mono hbA.size)
    have HB6 := keepd hb6
    have HR6 := keepd hr6
    have HP2 := keepd hp2
    clear hr6 hb hbA x4 x5 HO hp2 hb6
    go_wp2_with (at_builtin; refine wpList_appG _ (by rfl) (.tmp 65) (.tmp 67) rfl w4.heap.size _ [253, 2] rfl HO6.out _ A6 p2 c6 P2 rfl HP2.out.symm HR6.out ?_ HB6.out.size ?_)
    · have := HP2l.out
      simp only [List.length_cons, List.length_nil]
      omega
    intro va w7 ho hg hat
    have hb7 := HB6.out.trans (grown_below HO6.out hg HB6.out.size)
    obtain ⟨A7, c7, rfl, hr7⟩ := ho.rd
    have HX7 := keepd (SR.call HX5.out hb7 HX5.out.lt)
    have HB7 := keepd (bCall HB5.out hb7)
    have HR27 := keepd (HR25.out.at_ hb7)
    have HR37 := keepd (HR35.out.at_ hb7)
    have HR47 := keepd (HR45.out.at_ hb7)
    have HR7 := keepd hr7
    clear ho hg hat hb7 hr7 HX5 HB5 HR25 HR35 HR45 HO6 HB6 HR6
    obtain ⟨n7, hn7⟩ : ∃ n, (253 :: 2 :: P2).length = n := ⟨_, rfl⟩
    have hn7' := hn7
    rw [hn7]
    have CO : Hid (Calls Try.prog 19 #[.slice A2 n2 c2, .slice A7 n7 c7] w7 fun e w' => e = .returned (.bool true) ∧ w7 = w') := by
      have := octets_any A2 A7 (253 :: 2 :: P2) (253 :: 2 :: P2) n2 n7 c2 c7 w7.heap.size w7 HN2.out hn7.symm HR27.out HR7.out
      rw [show ((253 :: 2 :: P2) == (253 :: 2 :: P2)) = true by simp] at this
      exact this
    clear hn7 hn7' HR7
    go_wp2_with fail
    with_reducible refine CO.out.mono ?_
    rintro e w7 ⟨rfl, rfl⟩
    clear CO HR27
    go_wp2_with fail
    with_reducible refine (awake_any _).mono ?_
    rintro e w9 ⟨rfl, hb9⟩
    have HB9 := keepd (bCall HB7.out hb9)
    clear hb9
    go_wp2_with fail
    go_ret
    exact ⟨rfl, HB9.out⟩
  · have hnN : N = 170 := by omega
    subst hnN
    have g1 : decide ((n : Int) > 170) = true := decide_eq_true (by omega)
    have i1 : ¬ (c : Int) < 170 := by omega
    clear hN
    go_upto_region 3 with fail
    clear i1 hn
    go_wp2_with fail
    with_reducible refine (CP1.out _).mono ?_
    rintro e w1 ⟨A1, n1, c1, rfl, hn1, hr1, hb⟩
    have hn1' : n1 = 0 := hn1
    subst hn1'
    have HX1 := keepd (SR.call HX.out hb HX.out.lt)
    have HB1 := keepd (bCall HB.out hb)
    have HT1 := keepd (HRV.out.at_ hb)
    have HR1 := keepd hr1
    clear hb hr1 hn1 HX HB HRV x4 x5
    obtain ⟨x4, x5⟩ := MB.facts HX1.out
    go_wp2_with fail
    with_reducible refine (CP2.out _).mono ?_
    rintro e w2 ⟨A2, n2, c2, rfl, hn2, hr2, hb⟩
    have HX2 := keepd (SR.call HX1.out hb HX1.out.lt)
    have HB2 := keepd (bCall HB1.out hb)
    have HT2 := keepd (HT1.out.at_ hb)
    have HR12 := keepd (HR1.out.at_ hb)
    have HR2 := keepd hr2
    have HN2 := keepd hn2
    clear hb hr2 hn2 HX1 HB1 HT1 HR1 x4 x5
    go_wp2_with fail
    with_reducible refine (CP3.out _ HT2.out).mono ?_
    rintro e w3 ⟨A3, n3, c3, rfl, hn3, hr3, hb⟩
    have HX3 := keepd (SR.call HX2.out hb HX2.out.lt)
    have HB3 := keepd (bCall HB2.out hb)
    have HT3 := keepd (HT2.out.at_ hb)
    have HR13 := keepd (HR12.out.at_ hb)
    have HR23 := keepd (HR2.out.at_ hb)
    have HR3 := keepd hr3
    have HN3 := keepd hn3
    clear hb hr3 hn3 HX2 HB2 HT2 HR12 HR2
    go_wp2_with fail
    with_reducible refine (CL.out _ HT3.out).mono ?_
    rintro e w4 ⟨A4, c4, rfl, hr4, hb⟩
    have HX4 := keepd (SR.call HX3.out hb HX3.out.lt)
    have HB4 := keepd (bCall HB3.out hb)
    have HR14 := keepd (HR13.out.at_ hb)
    have HR24 := keepd (HR23.out.at_ hb)
    have HR34 := keepd (HR3.out.at_ hb)
    have HR4 := keepd hr4
    clear hb hr4 HX3 HB3 HT3 HR13 HR23 HR3
    go_upto_region 9 with fail
    have HX5 := HX4
    have HB5 := HB4
    have HR25 := HR24
    have HR35 := HR34
    have HR45 := HR4
    clear HX4 HB4 HR14 HR24 HR34 HR4
    have hbA := bAlloc (Below.refl w4.heap.size w4) (.cells #[.int .u8 253, .int .u8 2] 5)
    have HO := keepd (own_new w4 w4.heap.size #[.int .u8 253, .int .u8 2] [253, 2] 2 rfl rfl (by omega) (Nat.le_refl _))
    have hXn := SR.call HX5.out hbA HX5.out.lt
    obtain ⟨x4, x5⟩ := MB.facts hXn
    clear hXn
    go_wp2_with fail
    with_reducible refine (CM.out _).mono ?_
    rintro e w6 ⟨A6, c6, rfl, hr6, hb⟩
    obtain ⟨p2, hp2⟩ : ∃ p, P2.length = p := ⟨_, rfl⟩
    rw [hp2]
    have HO6 := keepd (HO.out.below hb)
    have hb6 := hbA.trans (hb.mono hbA.size)
    have HB6 := keepd hb6
    have HR6 := keepd hr6
    have HP2 := keepd hp2
    clear hr6 hb hbA x4 x5 HO hp2 hb6
    go_wp2_with (at_builtin; refine wpList_appG _ (by rfl) (.tmp 65) (.tmp 67) rfl w4.heap.size _ [253, 2] rfl HO6.out _ A6 p2 c6 P2 rfl HP2.out.symm HR6.out ?_ HB6.out.size ?_)
    · have := HP2l.out
      simp only [List.length_cons, List.length_nil]
      omega
    intro va w7 ho hg hat
    have hb7 := HB6.out.trans (grown_below HO6.out hg HB6.out.size)
    obtain ⟨A7, c7, rfl, hr7⟩ := ho.rd
    have HX7 := keepd (SR.call HX5.out hb7 HX5.out.lt)
    have HB7 := keepd (bCall HB5.out hb7)
    have HR27 := keepd (HR25.out.at_ hb7)
    have HR37 := keepd (HR35.out.at_ hb7)
    have HR47 := keepd (HR45.out.at_ hb7)
    have HR7 := keepd hr7
    clear ho hg hat hb7 hr7 HX5 HB5 HR25 HR35 HR45 HO6 HB6 HR6
    obtain ⟨n7, hn7⟩ : ∃ n, (253 :: 2 :: P2).length = n := ⟨_, rfl⟩
    have hn7' := hn7
    rw [hn7]
    have CO : Hid (Calls Try.prog 19 #[.slice A2 n2 c2, .slice A7 n7 c7] w7 fun e w' => e = .returned (.bool true) ∧ w7 = w') := by
      have := octets_any A2 A7 (253 :: 2 :: P2) (253 :: 2 :: P2) n2 n7 c2 c7 w7.heap.size w7 HN2.out hn7.symm HR27.out HR7.out
      rw [show ((253 :: 2 :: P2) == (253 :: 2 :: P2)) = true by simp] at this
      exact this
    clear hn7 hn7' HR7
    go_wp2_with fail
    with_reducible refine CO.out.mono ?_
    rintro e w7 ⟨rfl, rfl⟩
    clear CO HR27
    go_wp2_with fail
    with_reducible refine (awake_any _).mono ?_
    rintro e w9 ⟨rfl, hb9⟩
    have HB9 := keepd (bCall HB7.out hb9)
    clear hb9
    go_wp2_with fail
    go_ret
    exact ⟨rfl, HB9.out⟩

theorem parts_law (L : List Tr) (A : Option Addr) (c : Nat) (X : Mk) (u : UInt8) (W : World) (hr : RdT W A L c) :
    Calls Try.prog 6 #[.slice A L.length c, mv X, .int .u8 (u.toNat : Int)] W fun e w' => e = .returned (.bool true) ∧ Below W.heap.size W w' := by
  have h1 := hr.take 170
  have h2 : min L.length 170 = (L.take 170).length := by rw [List.length_take]; omega
  by_cases hq : u.toNat ≤ 31
  · cases ha : allT (L.take 170)
    · exact parts_yn A _ c X u _ _ W h1 hr.1 hr.2.1 h2 rfl hq ha
    · exact parts_yy A _ c X u _ _ W h1 hr.1 hr.2.1 h2 rfl hq ha
  · cases ha : allT (L.take 170)
    · exact parts_nn A _ c X u _ _ W h1 hr.1 hr.2.1 h2 rfl hq ha
    · exact parts_ny A _ c X u _ _ W h1 hr.1 hr.2.1 h2 rfl hq ha

end Go.Proofs.Ytflmplnampgflaa
