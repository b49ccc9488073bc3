/-
  EditorOne's walk. No conditions beyond those each theorem states.
-/
import Derived.Test.YtjhocmeenejjpaaDoorD3
namespace Go.Proofs.YtjhocmeenejjpaaDoor
open Go.RowKit
set_option maxRecDepth 100000

attribute [local go_sem ↓] ex_ld25 ex_st25 ex_al25 ex_bu25 ex_ix25 ex_eq25 ex_ne25 ex_eq23 ex_ne23 ex_ld25o ex_st65 ex_al65 ex_bu65 ex_bu65s ex_ld25d
attribute [local go_sem] ptrB_at okPtr_at aggC_at agg62 agg69 isC_at isT_at eqV_t eqV_c isRow_new isRow_new65 World.setRow_alloc_new ptr4_at okPtr4_at cutT_at isI_at isS_at bW_at bWs_at ptrD_at okPtrD_at cutD_at

theorem rd0 {w : World} {B : Option Addr} {L : List EvM} {v : Ev} {d : Nat} (h : RdE w B L d) (h1 : L.map EvM.abs = [v]) : ∃ b off, B = some ⟨b, off, none⟩ ∧ w.cell? ⟨b, off, none⟩ = some (.int .i64 v.k) := by
  have hl : L.length = 1 := by have := congrArg List.length h1; simpa using this
  obtain ⟨b, off, e, _, c0, _⟩ := h.at (k := 0) (by omega)
  refine ⟨b, off, e, ?_⟩
  rw [Nat.zero_mul, Nat.add_zero] at c0
  rw [c0]
  have : (L.map EvM.abs)[0]? = some v := by rw [h1]; rfl
  rw [List.getElem?_map, List.getElem?_eq_getElem (by omega)] at this
  simp only [Option.map_some, Option.some.injEq] at this
  rw [← this]
  rfl

set_option maxHeartbeats 16000000 in
theorem one_law (X : Tb) (room : Int) (A : Option Addr) (l : List UInt8) (c : Nat) (z : Int) (ov li : Bool) (u : UInt8) (w : World) (hL : Laid w) (hr : Rd w w.heap.size A l c) :
    Calls Tryd.prog 5 #[.agg (dk X room A l.length c z ov li).toArray, .int .u8 (u.toNat : Int)] w fun e w' => e = .returned (.bool true) ∧ Below w.heap.size w w' := by
  obtain ⟨n, hn⟩ : ∃ n, n = l.length := ⟨_, rfl⟩
  rw [← hn]
  have HR0 := keepd hr
  have HN := keepd hn
  have HLD := keepd hL
  obtain ⟨m, hm⟩ : ∃ m, (fewL l).length = m := ⟨_, rfl⟩
  have HM := keepd hm
  have HLE : Hid (m ≤ 4100) := by show m ≤ 4100; rw [← hm]; exact (few_le l).1
  clear hn hr hm hL
  go_enter Tryd.func5, Tryd.ntmps5
  go_upto_region 1 with fail
  generalize hV : w.alloc (.cells (dk X room A n c z ov li).toArray 32) = V0
  obtain ⟨HD0, HB0⟩ := desk_new _ _ _ hV
  obtain ⟨⟨r0, r1⟩, r2, r3, r4, r5, r6⟩ := DK.facts HD0.out
  have CF := keepd (one_any A l n c m z ov li V0 HN.out (HR0.out.at_ HB0.out) HM.out)
  clear hV
  go_wp2_with fail
  with_reducible refine CF.out.mono ?_
  rintro e w1 ⟨rfl, hb1⟩
  have HB1 := keepd hb1
  clear hb1 CF r0 r1 r2 r3 r4 r5 r6
  go_upto_region 2 with fail
  generalize hV : w1.alloc (.cells #[.slice A m c, .int .i64 z, .bool ov, .bool li] 30) = V
  generalize hb7 : w1.heap.size = b5
  have HS5 : Hid (SR 30 V b5 [.slice A m c, .int .i64 z, .bool ov, .bool li]) := by rw [← hV, ← hb7]; exact heap_alloc_new w1 _
  have HBV : Hid (Below w.heap.size w V) := by rw [← hV]; exact bAlloc (bCall HB0.out HB1.out) _
  have HDV : Hid (DK V w.heap.size X room A n c z ov li) := by rw [← hV]; exact (SR.call HD0.out HB1.out (SR.lt HD0.out)).alloc _
  have HBG : Hid (w.heap.size < b5) := by show w.heap.size < b5; rw [← hb7]; exact Nat.lt_of_lt_of_le (SR.lt HD0.out) HB1.out.size
  clear hV hb7 HD0 HB0 HB1
  have HRV := keepd (HR0.out.few.at_ HBV.out)
  generalize fewL l = x at *
  clear HR0 HN
  obtain ⟨k0, k1, k2, k3, _, _, _, _, kt⟩ := st_facts HS5.out
  obtain ⟨⟨r0, r1⟩, r2, _, _, _, _⟩ := DK.facts HDV.out
  cases hv : mayV m z
  case false =>
    have CK := keepd (key_bad X room A x m c z ov li u V HM.out.symm HRV.out (by have := HLE.out; omega) hv)
    go_wp2_with fail
    with_reducible refine CK.out.mono ?_
    rintro e w3 ⟨A3, c3, B3, d3, L3, rfl, hl3, hm3, hr3, hre3, hb3⟩
    go_upto_region 3 with fail
    generalize hV : w3.alloc (.cells #[.slice A3 m c3, .int .i64 z, .bool ov, .bool li] 30) = V4
    generalize hb6 : w3.heap.size = b6
    have HS6 : Hid (SR 30 V4 b6 [.slice A3 m c3, .int .i64 z, .bool ov, .bool li]) := by rw [← hV, ← hb6]; exact heap_alloc_new w3 _
    have HBV4 : Hid (Below V.heap.size V V4) := by rw [← hV]; exact bAlloc hb3 _
    have HR3 : Hid (Rd V4 V4.heap.size A3 x c3) := by rw [← hV]; exact hr3.at_ (bAlloc (Below.refl _ _) _)
    have HE3 : Hid (RdE V4 B3 L3 d3) := by rw [← hV]; exact hre3.at_ (bAlloc (Below.refl _ _) _)
    have HL3 := keepd (And.intro hl3 hm3)
    have HS54 := keepd (SR.call HS5.out HBV4.out HS5.out.lt)
    have HD4 := keepd (SR.call HDV.out HBV4.out (SR.lt HDV.out))
    have HR54 := keepd (HRV.out.at_ HBV4.out)
    have HB4 := keepd (bCall HBV.out HBV4.out)
    clear hV hb6 hl3 hm3 hr3 hre3 hb3 CK k0 k1 k2 k3 kt r0 r1 r2 HS5 HDV HRV HBV HBV4
    obtain ⟨k0, k1, k2, k3, _, _, _, _, kt⟩ := st_facts HS54.out
    obtain ⟨i0, i1, i2, i3, _, _, _, _, it⟩ := st_facts HS6.out
    have CC := keepd (echeck_bad A m c z ov li V4 hv)
    clear hv
    go_wp2_with fail
    with_reducible refine CC.out.mono ?_
    rintro e w4 ⟨rfl, hb4⟩
    have HS55 := keepd (SR.call HS54.out hb4 HS54.out.lt)
    have HS66 := keepd (SR.call HS6.out hb4 HS6.out.lt)
    have HD5 := keepd (SR.call HD4.out hb4 (SR.lt HD4.out))
    have HR55 := keepd (HR54.out.at_ hb4)
    have HR33 := keepd (HR3.out.at_ hb4)
    have HE33 := keepd (HE3.out.at_ hb4)
    have HB5 := keepd (bCall HB4.out hb4)
    clear hb4 CC k0 k1 k2 k3 kt i0 i1 i2 i3 it HS54 HS6 HD4 HR54 HR3 HE3 HB4
    obtain ⟨k0, k1, k2, k3, _, _, _, _, kt⟩ := st_facts HS55.out
    obtain ⟨i0, i1, i2, i3, _, _, _, _, it⟩ := st_facts HS66.out
    have CE := keepd (esame_any A3 A x x m m c3 c z z ov ov li li true w4 HM.out.symm HM.out.symm HR33.out HR55.out (sameS_iff.2 ⟨rfl, rfl, rfl, rfl⟩))
    go_wp2_with fail
    with_reducible refine CE.out.mono ?_
    rintro e w5 ⟨rfl, hb5⟩
    have HB6 := keepd (bCall HB5.out hb5)
    clear hb5 CE
    have CW := keepd (eawake_any _ (HLD.out.below HB6.out))
    go_wp2_with fail
    with_reducible refine CW.out.mono ?_
    rintro e w9 ⟨rfl, hb9⟩
    have HB9 := keepd (bCall HB6.out hb9)
    clear hb9 CW
    go_wp2_with fail
    go_ret
    exact ⟨rfl, HB9.out⟩
  obtain ⟨h4, t, rfl, ht⟩ := mayV_inv hv
  obtain ⟨⟨⟨l1, t1, ov1, li1⟩, es, be⟩, hke⟩ : ∃ r, keyE X room ⟨x, t, ov, li⟩ u = r := ⟨_, rfl⟩
  obtain ⟨n1, hn1⟩ : ∃ n1, l1.length = n1 := ⟨_, rfl⟩
  obtain ⟨m1, hm1⟩ : ∃ m1, es.length = m1 := ⟨_, rfl⟩
  obtain ⟨bell, hbell⟩ : ∃ b, decide (0 < be) = b := ⟨_, rfl⟩
  have hok : Ed.ok ⟨x, t, ov, li⟩ := ⟨by rw [HM.out]; exact ht, by rw [HM.out]; exact h4⟩
  have hok1 := keyE_ok hok X room u
  have hone := keyE_one hok X room u
  rw [hke] at hok1 hone
  unfold OneOK at hone
  have hok1' : t1 ≤ n1 ∧ n1 ≤ 4096 := by rw [← hn1]; exact hok1
  have CK := keepd (key_good X room A x m c t ov li u V HM.out.symm HRV.out ht h4 l1 n1 t1 ov1 li1 es m1 be bell hke hn1 hm1 hbell)
  have HONE := keepd hone
  have HOK1 := keepd hok1'
  have HT := keepd (And.intro h4 ht)
  have HN1 := keepd hn1.symm
  have HM1 := keepd hm1
  have HBELL := keepd hbell
  clear hke hok hok1 hone hok1' hn1 hm1 hbell hv h4 ht
  go_wp2_with fail
  with_reducible refine CK.out.mono ?_
  rintro e w3 ⟨A3, c3, B3, d3, L3, rfl, hl3, hm3, hr3, hre3, hb3⟩
  go_upto_region 3 with fail
  generalize hV : w3.alloc (.cells #[.slice A3 n1 c3, .int .i64 (t1 : Int), .bool ov1, .bool li1] 30) = V4
  generalize hb6 : w3.heap.size = b6
  have HS6 : Hid (SR 30 V4 b6 [.slice A3 n1 c3, .int .i64 (t1 : Int), .bool ov1, .bool li1]) := by rw [← hV, ← hb6]; exact heap_alloc_new w3 _
  have HBV4 : Hid (Below V.heap.size V V4) := by rw [← hV]; exact bAlloc hb3 _
  have HR3 : Hid (Rd V4 V4.heap.size A3 l1 c3) := by rw [← hV]; exact hr3.at_ (bAlloc (Below.refl _ _) _)
  have HE3 : Hid (RdE V4 B3 L3 d3) := by rw [← hV]; exact hre3.at_ (bAlloc (Below.refl _ _) _)
  have HL3 := keepd (And.intro hl3 hm3)
  have HS54 := keepd (SR.call HS5.out HBV4.out HS5.out.lt)
  have HD4 := keepd (SR.call HDV.out HBV4.out (SR.lt HDV.out))
  have HR54 := keepd (HRV.out.at_ HBV4.out)
  have HB4 := keepd (bCall HBV.out HBV4.out)
  clear hV hb6 hl3 hm3 hr3 hre3 hb3 CK k0 k1 k2 k3 kt r0 r1 r2 HS5 HDV HRV HBV HBV4
  obtain ⟨k0, k1, k2, k3, _, _, _, _, kt⟩ := st_facts HS54.out
  obtain ⟨i0, i1, i2, i3, _, _, _, _, it⟩ := st_facts HS6.out
  have CC := keepd (echeck_ok A m c t ov li V4 HT.out.1 HT.out.2)
  go_wp2_with fail
  with_reducible refine CC.out.mono ?_
  rintro e w4 ⟨rfl, hb4⟩
  have HS55 := keepd (SR.call HS54.out hb4 HS54.out.lt)
  have HS66 := keepd (SR.call HS6.out hb4 HS6.out.lt)
  have HD5 := keepd (SR.call HD4.out hb4 (SR.lt HD4.out))
  have HR55 := keepd (HR54.out.at_ hb4)
  have HR33 := keepd (HR3.out.at_ hb4)
  have HE33 := keepd (HE3.out.at_ hb4)
  have HB5 := keepd (bCall HB4.out hb4)
  clear hb4 CC k0 k1 k2 k3 kt i0 i1 i2 i3 it HS54 HS6 HD4 HR54 HR3 HE3 HB4
  obtain ⟨k0, k1, k2, k3, _, _, _, _, kt⟩ := st_facts HS55.out
  obtain ⟨i0, i1, i2, i3, _, _, _, _, it⟩ := st_facts HS66.out
  have CC := keepd (echeck_ok A3 n1 c3 t1 ov1 li1 w4 HOK1.out.2 HOK1.out.1)
  obtain ⟨⟨r0, r1⟩, r2, _, _, _, _⟩ := DK.facts HD5.out
  rcases HONE.out with ⟨q1, q2, q3⟩ | ⟨q1, q2, q3⟩ | ⟨q1, v, q2, q3, q4⟩
  · skip
    subst q1 q2
    obtain rfl : bell = true := HBELL.out.symm
    obtain rfl : m1 = 0 := HM1.out.symm
    simp only [Ed.mk.injEq] at q3
    obtain ⟨rfl, rfl, rfl, rfl⟩ := q3
    obtain rfl : n1 = m := by rw [HN1.out, HM.out]
    have z1 : ¬ (n1 : Int) > (n1 : Int) := by omega
    have z2 : ¬ (n1 : Int) < (n1 : Int) := by omega
    go_wp2_with fail
    with_reducible refine CC.out.mono ?_
    rintro e w6 ⟨rfl, hb6⟩
    have HS57 := keepd (SR.call HS55.out hb6 HS55.out.lt)
    have HS67 := keepd (SR.call HS66.out hb6 HS66.out.lt)
    have HD7 := keepd (SR.call HD5.out hb6 (SR.lt HD5.out))
    have HR57 := keepd (HR55.out.at_ hb6)
    have HR37 := keepd (HR33.out.at_ hb6)
    have HE37 := keepd (HE33.out.at_ hb6)
    have HB7 := keepd (bCall HB5.out hb6)
    clear hb6 CC k0 k1 k2 k3 kt i0 i1 i2 i3 it r0 r1 r2 HS55 HS66 HD5 HR55 HR33 HE33 HB5
    obtain ⟨⟨r0, r1⟩, r2, _, _, _, _⟩ := DK.facts HD7.out
    obtain ⟨k0, k1, k2, k3, f0, f1, f2, f3, kt⟩ := st_facts HS57.out
    obtain ⟨i0, i1, i2, i3, _, _, _, _, it⟩ := st_facts HS67.out
    go_upto_region 11 with fail
    generalize hV : w6.setCell ⟨b5, 3, none⟩ (.bool false) = V8
    have hne : b5 ≠ b6 ∨ b5 = b6 := by omega
    have HS58 : Hid (SR 30 V8 b5 [.slice A n1 c, .int .i64 (t1 : Int), .bool ov1, .bool false]) := by rw [← hV]; exact HS57.out.set 3 _
    have HS68 : Hid (SR 30 V8 b6 [.slice A3 n1 c3, .int .i64 (t1 : Int), .bool ov1, .bool false]) := by
      rw [← hV]
      by_cases hb : b6 = b5
      · subst hb
        have e := HS67.out.cell 3
        have e2 := HS57.out.cell 3
        exact HS67.out.set 3 _
      · exact HS67.out.far hb _
    have HB8 : Hid (Below w.heap.size w V8) := by rw [← hV]; exact bSet HB7.out (Nat.le_of_lt HBG.out) _
    have HR58 : Hid (Rd V8 V8.heap.size A l1 c) := by rw [← hV]; exact HR57.out.setSt HS57.out (by rw [set1_size]; exact Nat.le_refl _) fun k hk => Below.heap_setCell _ ⟨b5, 3, none⟩ _ k hk
    have HR38 : Hid (Rd V8 V8.heap.size A3 l1 c3) := by rw [← hV]; exact HR37.out.setSt HS57.out (by rw [set1_size]; exact Nat.le_refl _) fun k hk => Below.heap_setCell _ ⟨b5, 3, none⟩ _ k hk
    clear hV hne k0 k1 k2 k3 kt f0 f1 f2 f3 i0 i1 i2 i3 it r0 r1 r2 z1 z2
    obtain ⟨k0, k1, k2, k3, _, _, _, _, kt⟩ := st_facts HS58.out
    obtain ⟨i0, i1, i2, i3, _, _, _, _, it⟩ := st_facts HS68.out
    have CE := keepd (esame_any A3 A l1 l1 n1 n1 c3 c (t1 : Int) (t1 : Int) ov1 ov1 false false true V8 HN1.out HN1.out HR38.out HR58.out (sameS_iff.2 ⟨rfl, rfl, rfl, rfl⟩))
    go_wp2_with fail
    with_reducible refine CE.out.mono ?_
    rintro e w9 ⟨rfl, hb9'⟩
    have HB9' := keepd (bCall HB8.out hb9')
    clear hb9' CE
    have CW := keepd (eawake_any _ (HLD.out.below HB9'.out))
    go_wp2_with fail
    with_reducible refine CW.out.mono ?_
    rintro e w9 ⟨rfl, hb9⟩
    have HB9 := keepd (bCall HB9'.out hb9)
    clear hb9 CW
    go_wp2_with fail
    go_ret
    exact ⟨rfl, HB9.out⟩
  · skip
    subst q1 q2
    obtain rfl : bell = false := HBELL.out.symm
    obtain rfl : m1 = 0 := HM1.out.symm
    have hlen : (¬ (n1 : Int) > (m : Int) ∧ ¬ (m : Int) < (n1 : Int)) ∨ ((n1 : Int) > (m : Int) ∧ (m : Int) < (n1 : Int) ∧ ¬ (n1 : Int) > room ∧ ¬ room < (n1 : Int) ∧ (n1 : Int) = (m : Int) + 1) := by
      have h1 := HN1.out
      have h2 := HM.out
      rcases q3 with q3 | ⟨q3, q5⟩
      · refine .inl ⟨?_, ?_⟩ <;> (simp only at q3; omega)
      · refine .inr ⟨?_, ?_, ?_, ?_, ?_⟩ <;> (simp only at q3 q5; omega)
    have hw : IntKind.i64.wrap ((m : Int) + 1) = (m : Int) + 1 := by rw [IntKind.wrap_i64]; have := HLE.out; omega
    rcases hlen with ⟨z1, z2⟩ | ⟨z1, z2, z3, z4, z5⟩
    · clear hw
      go_wp2_with fail
      with_reducible refine CC.out.mono ?_
      rintro e w6 ⟨rfl, hb6⟩
      have HS57 := keepd (SR.call HS55.out hb6 HS55.out.lt)
      have HS67 := keepd (SR.call HS66.out hb6 HS66.out.lt)
      have HD7 := keepd (SR.call HD5.out hb6 (SR.lt HD5.out))
      have HR57 := keepd (HR55.out.at_ hb6)
      have HR37 := keepd (HR33.out.at_ hb6)
      have HE37 := keepd (HE33.out.at_ hb6)
      have HB7 := keepd (bCall HB5.out hb6)
      clear hb6 CC k0 k1 k2 k3 kt i0 i1 i2 i3 it r0 r1 r2 HS55 HS66 HD5 HR55 HR33 HE33 HB5
      obtain ⟨⟨r0, r1⟩, r2, _, _, _, _⟩ := DK.facts HD7.out
      obtain ⟨k0, k1, k2, k3, f0, f1, f2, f3, kt⟩ := st_facts HS57.out
      obtain ⟨i0, i1, i2, i3, _, _, _, _, it⟩ := st_facts HS67.out
      have CW := keepd (eawake_any _ (HLD.out.below HB7.out))
      go_wp2_with fail
      with_reducible refine CW.out.mono ?_
      rintro e w9 ⟨rfl, hb9⟩
      have HB9 := keepd (bCall HB7.out hb9)
      clear hb9 CW
      go_wp2_with fail
      go_ret
      exact ⟨rfl, HB9.out⟩
    · have z6 : ((n1 : Int) != (m : Int) + 1) = false := by simp [z5]
      go_wp2_with fail
      with_reducible refine CC.out.mono ?_
      rintro e w6 ⟨rfl, hb6⟩
      have HS57 := keepd (SR.call HS55.out hb6 HS55.out.lt)
      have HS67 := keepd (SR.call HS66.out hb6 HS66.out.lt)
      have HD7 := keepd (SR.call HD5.out hb6 (SR.lt HD5.out))
      have HR57 := keepd (HR55.out.at_ hb6)
      have HR37 := keepd (HR33.out.at_ hb6)
      have HE37 := keepd (HE33.out.at_ hb6)
      have HB7 := keepd (bCall HB5.out hb6)
      clear hb6 CC k0 k1 k2 k3 kt i0 i1 i2 i3 it r0 r1 r2 HS55 HS66 HD5 HR55 HR33 HE33 HB5
      obtain ⟨⟨r0, r1⟩, r2, _, _, _, _⟩ := DK.facts HD7.out
      obtain ⟨k0, k1, k2, k3, f0, f1, f2, f3, kt⟩ := st_facts HS57.out
      obtain ⟨i0, i1, i2, i3, _, _, _, _, it⟩ := st_facts HS67.out
      have CW := keepd (eawake_any _ (HLD.out.below HB7.out))
      go_wp2_with fail
      with_reducible refine CW.out.mono ?_
      rintro e w9 ⟨rfl, hb9⟩
      have HB9 := keepd (bCall HB7.out hb9)
      clear hb9 CW
      go_wp2_with fail
      go_ret
      exact ⟨rfl, HB9.out⟩
  · skip
    subst q1 q2
    obtain rfl : bell = false := HBELL.out.symm
    obtain rfl : m1 = 1 := HM1.out.symm
    have hlen : (¬ (n1 : Int) > (m : Int) ∧ ¬ (m : Int) < (n1 : Int)) ∨ ((n1 : Int) > (m : Int) ∧ (m : Int) < (n1 : Int) ∧ ¬ (n1 : Int) > room ∧ ¬ room < (n1 : Int) ∧ (n1 : Int) = (m : Int) + 1) := by
      have h1 := HN1.out
      have h2 := HM.out
      rcases q3 with q3 | ⟨q3, q5⟩
      · refine .inl ⟨?_, ?_⟩ <;> (simp only at q3; omega)
      · refine .inr ⟨?_, ?_, ?_, ?_, ?_⟩ <;> (simp only at q3 q5; omega)
    have hw : IntKind.i64.wrap ((m : Int) + 1) = (m : Int) + 1 := by rw [IntKind.wrap_i64]; have := HLE.out; omega
    obtain ⟨eb, eo, rfl, ec⟩ := rd0 HE33.out HL3.out.1
    have hd1 : 1 ≤ d3 := by have := HE33.out.1; rw [HL3.out.2] at this; exact this
    have hd2 := HE33.out.2.1
    unfold maxLen at hd2
    rcases hlen with ⟨z1, z2⟩ | ⟨z1, z2, z3, z4, z5⟩
    · clear hw ec
      go_wp2_with fail
      with_reducible refine CC.out.mono ?_
      rintro e w6 ⟨rfl, hb6⟩
      have HS57 := keepd (SR.call HS55.out hb6 HS55.out.lt)
      have HS67 := keepd (SR.call HS66.out hb6 HS66.out.lt)
      have HD7 := keepd (SR.call HD5.out hb6 (SR.lt HD5.out))
      have HR57 := keepd (HR55.out.at_ hb6)
      have HR37 := keepd (HR33.out.at_ hb6)
      have HE37 := keepd (HE33.out.at_ hb6)
      have HB7 := keepd (bCall HB5.out hb6)
      clear hb6 CC k0 k1 k2 k3 kt i0 i1 i2 i3 it r0 r1 r2 HS55 HS66 HD5 HR55 HR33 HE33 HB5
      obtain ⟨⟨r0, r1⟩, r2, _, _, _, _⟩ := DK.facts HD7.out
      obtain ⟨k0, k1, k2, k3, f0, f1, f2, f3, kt⟩ := st_facts HS57.out
      obtain ⟨i0, i1, i2, i3, _, _, _, _, it⟩ := st_facts HS67.out
      obtain ⟨eb', eo', he, ec⟩ := rd0 HE37.out HL3.out.1
      cases he
      by_cases h3 : v.k = 3
      · have y0 : (v.k != 3) = false := by simpa using h3
        have CW := keepd (eawake_any _ (HLD.out.below HB7.out))
        go_wp2_with fail
        with_reducible refine CW.out.mono ?_
        rintro e w9 ⟨rfl, hb9⟩
        have HB9 := keepd (bCall HB7.out hb9)
        clear hb9 CW
        go_wp2_with fail
        go_ret
        exact ⟨rfl, HB9.out⟩
      · have y0 : (v.k != 3) = true := by simpa using h3
        have hz : (⟨l1, t1, ov1, li1⟩ : Ed) = zE := by rcases q4 with q4 | q4; exact absurd q4 h3; exact q4
        simp only [zE, Ed.mk.injEq] at hz
        obtain ⟨rfl, rfl, rfl, rfl⟩ := hz
        obtain rfl : n1 = 0 := HN1.out
        have CE := keepd (esame_any A3 none [] [] 0 0 c3 0 0 0 false false false false true w6 rfl rfl HR37.out (Rd.nil _ _) rfl)
        go_wp2_with fail
        with_reducible refine CE.out.mono ?_
        rintro e w8 ⟨rfl, hb8⟩
        have HB8 := keepd (bCall HB7.out hb8)
        clear hb8 CE
        have CW := keepd (eawake_any _ (HLD.out.below HB8.out))
        go_wp2_with fail
        with_reducible refine CW.out.mono ?_
        rintro e w9 ⟨rfl, hb9⟩
        have HB9 := keepd (bCall HB8.out hb9)
        clear hb9 CW
        go_wp2_with fail
        go_ret
        exact ⟨rfl, HB9.out⟩
    · have z6 : ((n1 : Int) != (m : Int) + 1) = false := by simp [z5]
      clear ec
      go_wp2_with fail
      with_reducible refine CC.out.mono ?_
      rintro e w6 ⟨rfl, hb6⟩
      have HS57 := keepd (SR.call HS55.out hb6 HS55.out.lt)
      have HS67 := keepd (SR.call HS66.out hb6 HS66.out.lt)
      have HD7 := keepd (SR.call HD5.out hb6 (SR.lt HD5.out))
      have HR57 := keepd (HR55.out.at_ hb6)
      have HR37 := keepd (HR33.out.at_ hb6)
      have HE37 := keepd (HE33.out.at_ hb6)
      have HB7 := keepd (bCall HB5.out hb6)
      clear hb6 CC k0 k1 k2 k3 kt i0 i1 i2 i3 it r0 r1 r2 HS55 HS66 HD5 HR55 HR33 HE33 HB5
      obtain ⟨⟨r0, r1⟩, r2, _, _, _, _⟩ := DK.facts HD7.out
      obtain ⟨k0, k1, k2, k3, f0, f1, f2, f3, kt⟩ := st_facts HS57.out
      obtain ⟨i0, i1, i2, i3, _, _, _, _, it⟩ := st_facts HS67.out
      obtain ⟨eb', eo', he, ec⟩ := rd0 HE37.out HL3.out.1
      cases he
      by_cases h3 : v.k = 3
      · have y0 : (v.k != 3) = false := by simpa using h3
        have CW := keepd (eawake_any _ (HLD.out.below HB7.out))
        go_wp2_with fail
        with_reducible refine CW.out.mono ?_
        rintro e w9 ⟨rfl, hb9⟩
        have HB9 := keepd (bCall HB7.out hb9)
        clear hb9 CW
        go_wp2_with fail
        go_ret
        exact ⟨rfl, HB9.out⟩
      · have y0 : (v.k != 3) = true := by simpa using h3
        have hz : (⟨l1, t1, ov1, li1⟩ : Ed) = zE := by rcases q4 with q4 | q4; exact absurd q4 h3; exact q4
        simp only [zE, Ed.mk.injEq] at hz
        obtain ⟨rfl, rfl, rfl, rfl⟩ := hz
        obtain rfl : n1 = 0 := HN1.out
        exfalso
        omega

end Go.Proofs.YtjhocmeenejjpaaDoor
