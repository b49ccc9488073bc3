/-
  EditorTells' walk. No conditions beyond those each theorem states.
-/
import Derived.Test.YtjhocmeenejjpaaDoorRD
import Derived.Test.YtjhocmeenejjpaaDoorRC
namespace Go.Proofs.YtjhocmeenejjpaaDoor
open Go.RowKit
set_option maxRecDepth 100000

attribute [local go_sem ↓] ex_ld25 ex_st25 ex_al25 ex_bu25 ex_ix25 ex_eq25 ex_ne25 ex_eq23 ex_ne23 ex_ld25o ex_st65 ex_al65 ex_bu65 ex_bu65s ex_ld25d
attribute [local go_sem] ptrB_at okPtr_at aggC_at agg62 agg69 isC_at isT_at eqV_t eqV_c isRow_new isRow_new65 World.setRow_alloc_new ptr4_at okPtr4_at cutT_at isI_at isS_at bW_at bWs_at ptrD_at okPtrD_at cutD_at

theorem st_gr {V : World} {g : Nat} {a b x y : Value} (h : SR 30 V g [a, b, x, y]) : (∀ q : Gr V, q.W.cell? ⟨g, 0, none⟩ = some a) ∧ (∀ q : Gr V, q.W.cell? ⟨g, 1, none⟩ = some b) ∧ (∀ q : Gr V, q.W.cell? ⟨g, 2, none⟩ = some x) ∧ (∀ q : Gr V, q.W.cell? ⟨g, 3, none⟩ = some y) :=
  ⟨fun q => (SR.call h q.h h.lt).cell 0, fun q => (SR.call h q.h h.lt).cell 1, fun q => (SR.call h q.h h.lt).cell 2, fun q => (SR.call h q.h h.lt).cell 3⟩

set_option maxHeartbeats 32000000 in
theorem tells_law (X : Tb) (room : Int) (A : Option Addr) (l : List UInt8) (c : Nat) (z : Int) (ov li : Bool) (K : Option Addr) (us : List UInt8) (d : Nat) (f : Int) (w : World) (hL : Laid w) (hr : Rd w w.heap.size A l c) (hu : Rd w w.heap.size K us d) :
    Calls Tryd.prog 3 #[.agg (dk X room A l.length c z ov li).toArray, .slice K us.length d, .int .i64 f] w fun e w' => e = .returned (.bool true) ∧ Below w.heap.size w w' := by
  obtain ⟨n, hn⟩ : ∃ n, n = l.length := ⟨_, rfl⟩
  obtain ⟨k', hk'⟩ : ∃ n1, n1 = us.length := ⟨_, rfl⟩
  rw [← hn, ← hk']
  have HR0 := keepd hr
  have HU0 := keepd hu
  have HN := keepd hn
  have HLD := keepd hL
  obtain ⟨m, hm⟩ : ∃ m, (fewL l).length = m := ⟨_, rfl⟩
  obtain ⟨k, hk⟩ : ∃ m, (fewK us).length = m := ⟨_, rfl⟩
  have HM := keepd hm
  have CK1 := keepd fun W => keys_any K us k' d k W hk' (by rw [hk']; exact hu.1) hk
  have HK := keepd hk.symm
  have HLE : Hid (m ≤ 4100 ∧ k ≤ 200) := ⟨by rw [← hm]; exact (few_le l).1, by rw [← hk]; exact fewK_le _⟩
  clear hn hr hm hu hL hk hk'
  go_enter Tryd.func3, Tryd.ntmps3
  go_upto_region 1 with fail
  generalize hV : w.alloc (.cells (dk X room A n c z ov li).toArray 32) = V0
  obtain ⟨HD, HB0⟩ := desk_new _ _ _ hV
  obtain ⟨⟨r0, r1⟩, r2, r3, r4, r5, r6⟩ := DK.facts HD.out
  have CF := keepd (one_any A l n c m z ov li V0 HN.out (HR0.out.at_ HB0.out) HM.out)
  clear hV
  go_wp2_with fail
  with_reducible refine CF.out.mono ?_
  rintro e w1 ⟨rfl, hb1⟩
  have HB1 := keepd hb1
  clear hb1 CF r0 r1 r2 r3 r4 r5 r6
  go_wp2_with fail
  with_reducible refine (CK1.out _).mono ?_
  rintro e w2 ⟨rfl, rfl⟩
  go_upto_region 2 with fail
  generalize hV : w2.alloc (.cells #[.slice A m c, .int .i64 z, .bool ov, .bool li] 30) = V
  generalize hb7 : w2.heap.size = b7
  have HS7 : Hid (SR 30 V b7 [.slice A m c, .int .i64 z, .bool ov, .bool li]) := by rw [← hV, ← hb7]; exact heap_alloc_new w2 _
  have HB : Hid (Below w.heap.size w V) := by rw [← hV]; exact bAlloc (bCall HB0.out HB1.out) _
  replace HD : Hid (DK V w.heap.size X room A n c z ov li) := by rw [← hV]; exact (SR.call HD.out HB1.out (SR.lt HD.out)).alloc _
  clear hV hb7 HB0 HB1 CK1
  have HRV := keepd (HR0.out.few.at_ HB.out)
  have HUV : Hid (Rd V V.heap.size K (fewK us) d) := (HU0.out.take 200).at_ HB.out
  generalize fewL l = x at *
  generalize fewK us = xs at *
  clear HR0 HU0 HN
  obtain ⟨⟨r0, r1⟩, r2, _, _, _, _⟩ := DK.facts HD.out
  obtain ⟨k0, k1, k2, k3, _, _, _, _, kt⟩ := st_facts HS7.out
  cases hmv : mayV m z
  case false =>
    have CC := keepd (play_bad X room A x m c z ov li K k d V HM.out.symm HRV.out (by have := HLE.out; omega) hmv)
    go_wp2_with fail
    with_reducible refine CC.out.mono ?_
    rintro e wx ⟨A2, c2, B2, d2, L2, rfl, hl, hm, hr, hre, hb⟩
    go_upto_region 3 with fail
    generalize hV : wx.alloc (.cells #[.slice A2 m c2, .int .i64 z, .bool ov, .bool li] 30) = V2
    generalize hbb : wx.heap.size = b2
    have HS2 : Hid (SR 30 V2 b2 [.slice A2 m c2, .int .i64 z, .bool ov, .bool li]) := by rw [← hV, ← hbb]; exact heap_alloc_new wx _
    have HBn : Hid (Below V.heap.size V V2) := by rw [← hV]; exact bAlloc hb _
    have HR2 : Hid (Rd V2 V2.heap.size A2 x c2) := by rw [← hV]; exact hr.at_ (bAlloc (Below.refl _ _) _)
    have HE2 : Hid (RdE V2 B2 L2 d2) := by rw [← hV]; exact hre.at_ (bAlloc (Below.refl _ _) _)
    have HL2 := keepd (And.intro hl hm)
    clear hV hbb hl hm hr hre hb CC r0 r1 r2 k0 k1 k2 k3 kt
    replace HD := keepd (SR.call HD.out HBn.out (SR.lt HD.out))
    replace HS7 := keepd (SR.call HS7.out HBn.out (SR.lt HS7.out))
    replace HRV := keepd (HRV.out.at_ HBn.out)
    replace HUV := keepd (HUV.out.at_ HBn.out)
    replace HB := keepd (bCall HB.out HBn.out)
    clear HBn
    obtain ⟨⟨r0, r1⟩, r2, _, _, _, _⟩ := DK.facts HD.out
    obtain ⟨k0, k1, k2, k3, _, _, _, _, kt⟩ := st_facts HS7.out
    have CC := keepd (sig_bad A x m c z ov li f V2 HM.out.symm HRV.out (by have := HLE.out; omega) hmv)
    go_wp2_with fail
    with_reducible refine CC.out.mono ?_
    rintro e wx ⟨A3, c3, B3, d3, L3, rfl, hl, hm, hr, hre, hb⟩
    go_upto_region 4 with fail
    generalize hV : wx.alloc (.cells #[.slice A3 m c3, .int .i64 z, .bool ov, .bool li] 30) = V3
    generalize hbb : wx.heap.size = b3
    have HS3 : Hid (SR 30 V3 b3 [.slice A3 m c3, .int .i64 z, .bool ov, .bool li]) := by rw [← hV, ← hbb]; exact heap_alloc_new wx _
    have HBn : Hid (Below V2.heap.size V2 V3) := by rw [← hV]; exact bAlloc hb _
    have HR3 : Hid (Rd V3 V3.heap.size A3 x c3) := by rw [← hV]; exact hr.at_ (bAlloc (Below.refl _ _) _)
    have HE3 : Hid (RdE V3 B3 L3 d3) := by rw [← hV]; exact hre.at_ (bAlloc (Below.refl _ _) _)
    have HL3 := keepd (And.intro hl hm)
    clear hV hbb hl hm hr hre hb CC r0 r1 r2 k0 k1 k2 k3 kt
    replace HD := keepd (SR.call HD.out HBn.out (SR.lt HD.out))
    replace HS7 := keepd (SR.call HS7.out HBn.out (SR.lt HS7.out))
    replace HRV := keepd (HRV.out.at_ HBn.out)
    replace HUV := keepd (HUV.out.at_ HBn.out)
    replace HB := keepd (bCall HB.out HBn.out)
    replace HS2 := keepd (SR.call HS2.out HBn.out (SR.lt HS2.out))
    replace HR2 := keepd (HR2.out.at_ HBn.out)
    replace HE2 := keepd (HE2.out.at_ HBn.out)
    clear HBn
    obtain ⟨⟨r0, r1⟩, r2, _, _, _, _⟩ := DK.facts HD.out
    obtain ⟨k0, k1, k2, k3, _, _, _, _, kt⟩ := st_facts HS7.out
    obtain ⟨a0, a1, a2, a3⟩ := st_gr HS7.out
    have CC := keepd fun y : Gr V3 => echeck_any A m c z ov li false y.W hmv
    have CM := keepd fun y : Gr V3 => ermay_any A m c z ov li false y.W hmv
    clear k0 k1 k2 k3 kt
    go_wp2_with fail
    refine wp_region_gr (by kernel_rfl) (by kernel_rfl) ?_
    repeat
      refine wpQuiet_step (fun K hK => ?_)
      first
        | (refine gr_want (by rfl) ?_
           go_simp
           first
             | (refine hK _ ?_; clear hK K)
             | (apply Exists.intro
                refine ⟨fun _ => ?_, hK _ ?_⟩
                (first | (go_at_call 13; exact Gr.call (CC.out _)) | (go_at_call 14; exact Gr.call (CM.out _)))
                clear hK K))
        | (refine gr_skip (by rfl) ?_
           go_simp
           refine hK _ ?_
           clear hK K)
    refine wpQuiet_nil ?_
    intro y4
    obtain ⟨w4, hw4⟩ : ∃ w4, y4.W = w4 := ⟨_, rfl⟩
    have hb4 := y4.h
    rw [hw4] at hb4 ⊢
    replace HD := keepd (SR.call HD.out hb4 (SR.lt HD.out))
    replace HS7 := keepd (SR.call HS7.out hb4 (SR.lt HS7.out))
    replace HRV := keepd (HRV.out.at_ hb4)
    replace HUV := keepd (HUV.out.at_ hb4)
    replace HB := keepd (bCall HB.out hb4)
    replace HS2 := keepd (SR.call HS2.out hb4 (SR.lt HS2.out))
    replace HR2 := keepd (HR2.out.at_ hb4)
    replace HE2 := keepd (HE2.out.at_ hb4)
    replace HS3 := keepd (SR.call HS3.out hb4 (SR.lt HS3.out))
    replace HR3 := keepd (HR3.out.at_ hb4)
    replace HE3 := keepd (HE3.out.at_ hb4)
    clear hb4 hw4 CC CM r0 r1 r2 a0 a1 a2 a3
    obtain ⟨⟨r0, r1⟩, r2, _, _, _, _⟩ := DK.facts HD.out
    obtain ⟨k0, k1, k2, k3, _, _, _, _, kt⟩ := st_facts HS7.out
    have CM := keepd (ermay_any A m c z ov li false w4 hmv)
    go_wp2_with fail
    with_reducible refine CM.out.mono ?_
    rintro e w5 ⟨rfl, hb5⟩
    replace HD := keepd (SR.call HD.out hb5 (SR.lt HD.out))
    replace HS7 := keepd (SR.call HS7.out hb5 (SR.lt HS7.out))
    replace HRV := keepd (HRV.out.at_ hb5)
    replace HUV := keepd (HUV.out.at_ hb5)
    replace HB := keepd (bCall HB.out hb5)
    replace HS2 := keepd (SR.call HS2.out hb5 (SR.lt HS2.out))
    replace HR2 := keepd (HR2.out.at_ hb5)
    replace HE2 := keepd (HE2.out.at_ hb5)
    replace HS3 := keepd (SR.call HS3.out hb5 (SR.lt HS3.out))
    replace HR3 := keepd (HR3.out.at_ hb5)
    replace HE3 := keepd (HE3.out.at_ hb5)
    clear hb5 CM r0 r1 r2 k0 k1 k2 k3 kt
    obtain ⟨⟨r0, r1⟩, r2, _, _, _, _⟩ := DK.facts HD.out
    obtain ⟨k0, k1, k2, k3, _, _, _, _, kt⟩ := st_facts HS7.out
    have CC := keepd (key_bad X room A x m c z ov li 97 w5 HM.out.symm HRV.out (by have := HLE.out; omega) hmv)
    have CC1 := CC.out
    rw [show (((97 : UInt8).toNat : Nat) : Int) = 97 from rfl] at CC1
    replace CC := keepd CC1
    clear CC1
    go_wp2_with fail
    with_reducible refine CC.out.mono ?_
    rintro e wx ⟨A4, c4, B4, d4, L4, rfl, hl, hm, hr, hre, hb⟩
    go_upto_region 8 with fail
    generalize hV : wx.alloc (.cells #[.slice A4 m c4, .int .i64 z, .bool ov, .bool li] 30) = V4
    generalize hbb : wx.heap.size = b4
    have HS4 : Hid (SR 30 V4 b4 [.slice A4 m c4, .int .i64 z, .bool ov, .bool li]) := by rw [← hV, ← hbb]; exact heap_alloc_new wx _
    have HBn : Hid (Below w5.heap.size w5 V4) := by rw [← hV]; exact bAlloc hb _
    have HR4 : Hid (Rd V4 V4.heap.size A4 x c4) := by rw [← hV]; exact hr.at_ (bAlloc (Below.refl _ _) _)
    have HE4 : Hid (RdE V4 B4 L4 d4) := by rw [← hV]; exact hre.at_ (bAlloc (Below.refl _ _) _)
    have HL4 := keepd (And.intro hl hm)
    clear hV hbb hl hm hr hre hb CC r0 r1 r2 k0 k1 k2 k3 kt
    replace HD := keepd (SR.call HD.out HBn.out (SR.lt HD.out))
    replace HS7 := keepd (SR.call HS7.out HBn.out (SR.lt HS7.out))
    replace HRV := keepd (HRV.out.at_ HBn.out)
    replace HUV := keepd (HUV.out.at_ HBn.out)
    replace HB := keepd (bCall HB.out HBn.out)
    replace HS2 := keepd (SR.call HS2.out HBn.out (SR.lt HS2.out))
    replace HR2 := keepd (HR2.out.at_ HBn.out)
    replace HE2 := keepd (HE2.out.at_ HBn.out)
    replace HS3 := keepd (SR.call HS3.out HBn.out (SR.lt HS3.out))
    replace HR3 := keepd (HR3.out.at_ HBn.out)
    replace HE3 := keepd (HE3.out.at_ HBn.out)
    clear HBn
    obtain ⟨⟨r0, r1⟩, r2, _, _, _, _⟩ := DK.facts HD.out
    obtain ⟨k0, k1, k2, k3, _, _, _, _, kt⟩ := st_facts HS7.out
    obtain ⟨i0, i1, i2, i3, _, _, _, _, it⟩ := st_facts HS2.out
    obtain ⟨j0, j1, j2, j3, _, _, _, _, jt⟩ := st_facts HS3.out
    obtain ⟨p0, p1, p2, p3, _, _, _, _, pt⟩ := st_facts HS4.out
    have CE2 := keepd (esame_any A2 A x x m m c2 c z z ov ov li li true V4 HM.out.symm HM.out.symm HR2.out HRV.out (sameS_iff.2 ⟨rfl, rfl, rfl, rfl⟩))
    have CE3 := keepd fun (W : World) (hb : Below V4.heap.size V4 W) => esame_any A3 A x x m m c3 c z z ov ov li li true W HM.out.symm HM.out.symm (HR3.out.at_ hb) (HRV.out.at_ hb) (sameS_iff.2 ⟨rfl, rfl, rfl, rfl⟩)
    have CE4 := keepd fun (W : World) (hb : Below V4.heap.size V4 W) => esame_any A4 A x x m m c4 c z z ov ov li li true W HM.out.symm HM.out.symm (HR4.out.at_ hb) (HRV.out.at_ hb) (sameS_iff.2 ⟨rfl, rfl, rfl, rfl⟩)
    clear r0 r1 r2
    go_wp2_with fail
    with_reducible refine CE2.out.mono ?_
    rintro e w6 ⟨rfl, hb6⟩
    have HB6 := keepd hb6
    obtain ⟨k0, k1, k2, k3, _, _, _, _, kt⟩ := st_facts (SR.call HS7.out hb6 HS7.out.lt)
    obtain ⟨j0, j1, j2, j3, _, _, _, _, jt⟩ := st_facts (SR.call HS3.out hb6 HS3.out.lt)
    obtain ⟨p0, p1, p2, p3, _, _, _, _, pt⟩ := st_facts (SR.call HS4.out hb6 HS4.out.lt)
    clear hb6 CE2
    go_wp2_with fail
    with_reducible refine (CE3.out _ HB6.out).mono ?_
    rintro e w7 ⟨rfl, hb7⟩
    have HB7 := keepd (bCall HB6.out hb7)
    obtain ⟨k0, k1, k2, k3, _, _, _, _, kt⟩ := st_facts (SR.call HS7.out HB7.out HS7.out.lt)
    obtain ⟨p0, p1, p2, p3, _, _, _, _, pt⟩ := st_facts (SR.call HS4.out HB7.out HS4.out.lt)
    clear hb7 CE3
    go_wp2_with fail
    with_reducible refine (CE4.out _ HB7.out).mono ?_
    rintro e w8 ⟨rfl, hb8⟩
    have HB8 := keepd (bCall HB.out (bCall HB7.out hb8))
    clear hb8 CE4
    have CW := keepd (eawake_any _ (HLD.out.below HB8.out))
    go_wp2_with fail
    with_reducible refine CW.out.mono ?_
    rintro e w9 ⟨rfl, hb9⟩
    have HB9 := keepd (bCall HB8.out hb9)
    clear hb9 CW
    go_wp2_with fail
    go_ret
    exact ⟨rfl, HB9.out⟩
  obtain ⟨h4, t, hzt, ht⟩ := mayV_inv hmv
  subst hzt
  have HT := keepd (And.intro h4 ht)
  obtain ⟨⟨⟨l1, t1, ov1, li1⟩, es1, be1⟩, hpl⟩ : ∃ r, playE X room ⟨⟨x, t, ov, li⟩, [], 0⟩ xs = r := ⟨_, rfl⟩
  obtain ⟨n1, hn1⟩ : ∃ n, l1.length = n := ⟨_, rfl⟩
  obtain ⟨m1, hm1⟩ : ∃ n, es1.length = n := ⟨_, rfl⟩
  have HN1 := keepd hn1.symm
  have HM1 := keepd hm1
  have HPL := keepd hpl
  have HFW : Hid (m1 ≤ 200) := by
    have := playE_few X room xs ⟨⟨x, t, ov, li⟩, [], 0⟩
    rw [hpl] at this
    simp only [List.length_nil] at this
    have h2 := HLE.out
    have h3 := HK.out
    show m1 ≤ 200
    omega
  clear hpl hn1 hm1 h4 ht
  cases hf : isSig f
  case false =>
    have CC := keepd (play_any X room A x m c t ov li K xs k d V HM.out.symm HRV.out HT.out.2 HT.out.1 HK.out HUV.out (by have := HLE.out; omega) l1 n1 t1 ov1 li1 es1 m1 be1 HPL.out HN1.out.symm HM1.out)
    go_wp2_with fail
    with_reducible refine CC.out.mono ?_
    rintro e wx ⟨A2, c2, B2, d2, L2, rfl, hl, hm, hr, hre, hb⟩
    go_upto_region 3 with fail
    generalize hV : wx.alloc (.cells #[.slice A2 n1 c2, .int .i64 (t1 : Int), .bool ov1, .bool li1] 30) = V2
    generalize hbb : wx.heap.size = b2
    have HS2 : Hid (SR 30 V2 b2 [.slice A2 n1 c2, .int .i64 (t1 : Int), .bool ov1, .bool li1]) := by rw [← hV, ← hbb]; exact heap_alloc_new wx _
    have HBn : Hid (Below V.heap.size V V2) := by rw [← hV]; exact bAlloc hb _
    have HR2 : Hid (Rd V2 V2.heap.size A2 l1 c2) := by rw [← hV]; exact hr.at_ (bAlloc (Below.refl _ _) _)
    have HE2 : Hid (RdE V2 B2 L2 d2) := by rw [← hV]; exact hre.at_ (bAlloc (Below.refl _ _) _)
    have HL2 := keepd (And.intro hl hm)
    clear hV hbb hl hm hr hre hb CC r0 r1 r2 k0 k1 k2 k3 kt
    replace HD := keepd (SR.call HD.out HBn.out (SR.lt HD.out))
    replace HS7 := keepd (SR.call HS7.out HBn.out (SR.lt HS7.out))
    replace HRV := keepd (HRV.out.at_ HBn.out)
    replace HUV := keepd (HUV.out.at_ HBn.out)
    replace HB := keepd (bCall HB.out HBn.out)
    clear HBn
    obtain ⟨⟨r0, r1⟩, r2, _, _, _, _⟩ := DK.facts HD.out
    obtain ⟨k0, k1, k2, k3, _, _, _, _, kt⟩ := st_facts HS7.out
    have CC := keepd (sig_not A x m c t (t : Int) ov li f V2 HM.out.symm HRV.out HT.out.1 HT.out.2 rfl hf)
    go_wp2_with fail
    with_reducible refine CC.out.mono ?_
    rintro e wx ⟨A3, c3, B3, d3, L3, rfl, hl, hm, hr, hre, hb⟩
    go_upto_region 4 with fail
    generalize hV : wx.alloc (.cells #[.slice A3 m c3, .int .i64 (t : Int), .bool ov, .bool li] 30) = V3
    generalize hbb : wx.heap.size = b3
    have HS3 : Hid (SR 30 V3 b3 [.slice A3 m c3, .int .i64 (t : Int), .bool ov, .bool li]) := by rw [← hV, ← hbb]; exact heap_alloc_new wx _
    have HBn : Hid (Below V2.heap.size V2 V3) := by rw [← hV]; exact bAlloc hb _
    have HR3 : Hid (Rd V3 V3.heap.size A3 x c3) := by rw [← hV]; exact hr.at_ (bAlloc (Below.refl _ _) _)
    have HE3 : Hid (RdE V3 B3 L3 d3) := by rw [← hV]; exact hre.at_ (bAlloc (Below.refl _ _) _)
    have HL3 := keepd (And.intro hl hm)
    clear hV hbb hl hm hr hre hb CC r0 r1 r2 k0 k1 k2 k3 kt
    replace HD := keepd (SR.call HD.out HBn.out (SR.lt HD.out))
    replace HS7 := keepd (SR.call HS7.out HBn.out (SR.lt HS7.out))
    replace HRV := keepd (HRV.out.at_ HBn.out)
    replace HUV := keepd (HUV.out.at_ HBn.out)
    replace HB := keepd (bCall HB.out HBn.out)
    replace HS2 := keepd (SR.call HS2.out HBn.out (SR.lt HS2.out))
    replace HR2 := keepd (HR2.out.at_ HBn.out)
    replace HE2 := keepd (HE2.out.at_ HBn.out)
    clear HBn
    obtain ⟨⟨r0, r1⟩, r2, _, _, _, _⟩ := DK.facts HD.out
    obtain ⟨k0, k1, k2, k3, _, _, _, _, kt⟩ := st_facts HS7.out
    obtain ⟨a0, a1, a2, a3⟩ := st_gr HS7.out
    have CC := keepd fun y : Gr V3 => echeck_any A m c (t : Int) ov li true y.W hmv
    have CM := keepd fun y : Gr V3 => ermay_any A m c (t : Int) ov li true y.W hmv
    clear k0 k1 k2 k3 kt
    go_wp2_with fail
    refine wp_region_gr (by kernel_rfl) (by kernel_rfl) ?_
    repeat
      refine wpQuiet_step (fun K hK => ?_)
      first
        | (refine gr_want (by rfl) ?_
           go_simp
           first
             | (refine hK _ ?_; clear hK K)
             | (apply Exists.intro
                refine ⟨fun _ => ?_, hK _ ?_⟩
                (first | (go_at_call 13; exact Gr.call (CC.out _)) | (go_at_call 14; exact Gr.call (CM.out _)))
                clear hK K))
        | (refine gr_skip (by rfl) ?_
           go_simp
           refine hK _ ?_
           clear hK K)
    refine wpQuiet_nil ?_
    intro y4
    obtain ⟨w4, hw4⟩ : ∃ w4, y4.W = w4 := ⟨_, rfl⟩
    have hb4 := y4.h
    rw [hw4] at hb4 ⊢
    replace HD := keepd (SR.call HD.out hb4 (SR.lt HD.out))
    replace HS7 := keepd (SR.call HS7.out hb4 (SR.lt HS7.out))
    replace HRV := keepd (HRV.out.at_ hb4)
    replace HUV := keepd (HUV.out.at_ hb4)
    replace HB := keepd (bCall HB.out hb4)
    replace HS2 := keepd (SR.call HS2.out hb4 (SR.lt HS2.out))
    replace HR2 := keepd (HR2.out.at_ hb4)
    replace HE2 := keepd (HE2.out.at_ hb4)
    replace HS3 := keepd (SR.call HS3.out hb4 (SR.lt HS3.out))
    replace HR3 := keepd (HR3.out.at_ hb4)
    replace HE3 := keepd (HE3.out.at_ hb4)
    clear hb4 hw4 CC CM r0 r1 r2 a0 a1 a2 a3
    obtain ⟨⟨r0, r1⟩, r2, _, _, _, _⟩ := DK.facts HD.out
    obtain ⟨k0, k1, k2, k3, _, _, _, _, kt⟩ := st_facts HS7.out
    have CM := keepd (ermay_any A m c (t : Int) ov li true w4 hmv)
    go_wp2_with fail
    with_reducible refine CM.out.mono ?_
    rintro e w5 ⟨rfl, hb5⟩
    replace HD := keepd (SR.call HD.out hb5 (SR.lt HD.out))
    replace HS7 := keepd (SR.call HS7.out hb5 (SR.lt HS7.out))
    replace HRV := keepd (HRV.out.at_ hb5)
    replace HUV := keepd (HUV.out.at_ hb5)
    replace HB := keepd (bCall HB.out hb5)
    replace HS2 := keepd (SR.call HS2.out hb5 (SR.lt HS2.out))
    replace HR2 := keepd (HR2.out.at_ hb5)
    replace HE2 := keepd (HE2.out.at_ hb5)
    replace HS3 := keepd (SR.call HS3.out hb5 (SR.lt HS3.out))
    replace HR3 := keepd (HR3.out.at_ hb5)
    replace HE3 := keepd (HE3.out.at_ hb5)
    clear hb5 CM r0 r1 r2 k0 k1 k2 k3 kt
    obtain ⟨⟨r0, r1⟩, r2, _, _, _, _⟩ := DK.facts HD.out
    obtain ⟨k0, k1, k2, k3, _, _, _, _, kt⟩ := st_facts HS7.out
    have CC := keepd (rplay_any X room A x m c t ov li K xs k d w5 HM.out.symm HRV.out HT.out.2 HT.out.1 HK.out HUV.out (by have := HLE.out; omega) l1 n1 t1 ov1 li1 es1 m1 be1 HPL.out HN1.out.symm HM1.out)
    go_wp2_with fail
    with_reducible refine CC.out.mono ?_
    rintro e wx ⟨A5, c5, B5, d5, L5, rfl, hl, hm, hr, hre, hb⟩
    go_upto_region 10 with fail
    generalize hV : wx.alloc (.cells #[.slice A5 n1 c5, .int .i64 (t1 : Int), .bool ov1, .bool li1] 30) = V5
    generalize hbb : wx.heap.size = b5
    have HS5 : Hid (SR 30 V5 b5 [.slice A5 n1 c5, .int .i64 (t1 : Int), .bool ov1, .bool li1]) := by rw [← hV, ← hbb]; exact heap_alloc_new wx _
    have HBn : Hid (Below w5.heap.size w5 V5) := by rw [← hV]; exact bAlloc hb _
    have HR5 : Hid (Rd V5 V5.heap.size A5 l1 c5) := by rw [← hV]; exact hr.at_ (bAlloc (Below.refl _ _) _)
    have HE5 : Hid (RdE V5 B5 L5 d5) := by rw [← hV]; exact hre.at_ (bAlloc (Below.refl _ _) _)
    have HL5 := keepd (And.intro hl hm)
    clear hV hbb hl hm hr hre hb CC r0 r1 r2 k0 k1 k2 k3 kt
    replace HD := keepd (SR.call HD.out HBn.out (SR.lt HD.out))
    replace HS7 := keepd (SR.call HS7.out HBn.out (SR.lt HS7.out))
    replace HRV := keepd (HRV.out.at_ HBn.out)
    replace HUV := keepd (HUV.out.at_ HBn.out)
    replace HB := keepd (bCall HB.out HBn.out)
    replace HS2 := keepd (SR.call HS2.out HBn.out (SR.lt HS2.out))
    replace HR2 := keepd (HR2.out.at_ HBn.out)
    replace HE2 := keepd (HE2.out.at_ HBn.out)
    replace HS3 := keepd (SR.call HS3.out HBn.out (SR.lt HS3.out))
    replace HR3 := keepd (HR3.out.at_ HBn.out)
    replace HE3 := keepd (HE3.out.at_ HBn.out)
    clear HBn
    obtain ⟨⟨r0, r1⟩, r2, _, _, _, _⟩ := DK.facts HD.out
    obtain ⟨k0, k1, k2, k3, _, _, _, _, kt⟩ := st_facts HS7.out
    obtain ⟨a0, a1, a2, a3⟩ := st_gr HS7.out
    obtain ⟨p0, p1, p2, p3⟩ := st_gr HS2.out
    obtain ⟨q0, q1, q2, q3⟩ := st_gr HS5.out
    obtain ⟨s, hs⟩ : ∃ s, sameS l1 (t1 : Int) ov1 li1 x (t : Int) ov li = s := ⟨_, rfl⟩
    obtain ⟨g, hg⟩ : ∃ g, likeE es1 [] = g := ⟨_, rfl⟩
    have D1 := keepd fun y : Gr V5 => ersame_any A2 A5 l1 l1 n1 n1 c2 c5 (t1 : Int) (t1 : Int) ov1 ov1 li1 li1 true y.W HN1.out HN1.out (HR2.out.at_ y.h) (HR5.out.at_ y.h) (sameS_iff.2 ⟨rfl, rfl, rfl, rfl⟩)
    have D2 := keepd fun y : Gr V5 => ralike_any B2 B5 L2 L5 m1 m1 d2 d5 true y.W HL2.out.2.symm HL5.out.2.symm (HE2.out.at_ y.h) (HE5.out.at_ y.h) (likeE_iff.2 (by rw [HL2.out.1, HL5.out.1])) (by have := HFW.out; omega)
    have D3 := keepd fun y : Gr V5 => esame_any A2 A l1 x n1 m c2 c (t1 : Int) (t : Int) ov1 ov li1 li s y.W HN1.out HM.out.symm (HR2.out.at_ y.h) (HRV.out.at_ y.h) hs
    have D4 := keepd fun y : Gr V5 => ersame_any A2 A l1 x n1 m c2 c (t1 : Int) (t : Int) ov1 ov li1 li s y.W HN1.out HM.out.symm (HR2.out.at_ y.h) (HRV.out.at_ y.h) hs
    have D5 := keepd fun y : Gr V5 => alike_any B2 B3 L2 L3 m1 0 d2 d3 g y.W HL2.out.2.symm HL3.out.2.symm (HE2.out.at_ y.h) (HE3.out.at_ y.h) (by rw [HL2.out.1, HL3.out.1]; exact hg) (by have := HFW.out; omega)
    have D6 := keepd fun y : Gr V5 => ralike_any B2 B3 L2 L3 m1 0 d2 d3 g y.W HL2.out.2.symm HL3.out.2.symm (HE2.out.at_ y.h) (HE3.out.at_ y.h) (by rw [HL2.out.1, HL3.out.1]; exact hg) (by have := HFW.out; omega)
    have hss : (s != s) = false := by simp
    have hgg : (g != g) = false := by simp
    have hbb : ((be1 : Int) != (be1 : Int)) = false := by simp
    clear hs hg k0 k1 k2 k3 kt
    go_wp2_with fail
    refine wp_region_gr (by kernel_rfl) (by kernel_rfl) ?_
    repeat
      refine wpQuiet_step (fun K hK => ?_)
      first
        | (refine gr_want (by rfl) ?_
           go_simp
           first
             | (refine hK _ ?_; clear hK K)
             | (apply Exists.intro
                refine ⟨fun _ => ?_, hK _ ?_⟩
                (first | (go_at_call 19; with_reducible exact Gr.call (D1.out _)) | (go_at_call 20; with_reducible exact Gr.call (D2.out _)) | (go_at_call 16; with_reducible exact Gr.call (D3.out _)) | (go_at_call 19; with_reducible exact Gr.call (D4.out _)) | (go_at_call 21; with_reducible exact Gr.call (D5.out _)) | (go_at_call 20; with_reducible exact Gr.call (D6.out _)))
                clear hK K))
        | (refine gr_skip (by rfl) ?_
           go_simp
           refine hK _ ?_
           clear hK K)
    refine wpQuiet_nil ?_
    intro y4
    obtain ⟨w6, hw6⟩ : ∃ w4, y4.W = w4 := ⟨_, rfl⟩
    have hb6 := y4.h
    rw [hw6] at hb6 ⊢
    replace HS7 := keepd (SR.call HS7.out hb6 (SR.lt HS7.out))
    replace HRV := keepd (HRV.out.at_ hb6)
    replace HB := keepd (bCall HB.out hb6)
    replace HS3 := keepd (SR.call HS3.out hb6 (SR.lt HS3.out))
    replace HR3 := keepd (HR3.out.at_ hb6)
    replace HE3 := keepd (HE3.out.at_ hb6)
    clear hb6 hw6 D1 D2 D3 D4 D5 D6 r0 r1 r2 a0 a1 a2 a3 p0 p1 p2 p3 q0 q1 q2 q3 HS2 HR2 HE2 HS5 HR5 HE5 HD HUV
    obtain ⟨k0, k1, k2, k3, _, _, _, _, kt⟩ := st_facts HS7.out
    obtain ⟨j0, j1, j2, j3, _, _, _, _, jt⟩ := st_facts HS3.out
    have CE := keepd (esame_any A3 A x x m m c3 c (t : Int) (t : Int) ov ov li li true w6 HM.out.symm HM.out.symm HR3.out HRV.out (sameS_iff.2 ⟨rfl, rfl, rfl, rfl⟩))
    by_cases g1 : f < 1
    · have g2 : ¬ 1 ≤ f := by omega
      go_wp2_with fail
      with_reducible refine CE.out.mono ?_
      rintro e w7 ⟨rfl, hb7⟩
      have HB7 := keepd (bCall HB.out hb7)
      clear hb7 CE
      have CW := keepd (eawake_any _ (HLD.out.below HB7.out))
      go_wp2_with fail
      with_reducible refine CW.out.mono ?_
      rintro e w9 ⟨rfl, hb9⟩
      have HB9 := keepd (bCall HB7.out hb9)
      clear hb9 CW
      go_wp2_with fail
      go_ret
      exact ⟨rfl, HB9.out⟩
    · have g2 : 1 ≤ f := by omega
      have g3 : f > 9 := by
        by_cases h : 9 < f
        · exact h
        · exfalso
          have : isSig f = true := by unfold isSig; simp; omega
          rw [hf] at this
          cases this
      have g4 : 9 < f := g3
      go_wp2_with fail
      with_reducible refine CE.out.mono ?_
      rintro e w7 ⟨rfl, hb7⟩
      have HB7 := keepd (bCall HB.out hb7)
      clear hb7 CE
      have CW := keepd (eawake_any _ (HLD.out.below HB7.out))
      go_wp2_with fail
      with_reducible refine CW.out.mono ?_
      rintro e w9 ⟨rfl, hb9⟩
      have HB9 := keepd (bCall HB7.out hb9)
      clear hb9 CW
      go_wp2_with fail
      go_ret
      exact ⟨rfl, HB9.out⟩
  obtain ⟨⟨l3, t3, ov3, li3⟩, hsg⟩ : ∃ r, sigS ⟨x, t, ov, li⟩ f = r := ⟨_, rfl⟩
  obtain ⟨n3, hn3⟩ : ∃ n, l3.length = n := ⟨_, rfl⟩
  have HSG := keepd hsg
  have HN3 := keepd hn3.symm
  clear hsg hn3
  have CC := keepd (play_any X room A x m c t ov li K xs k d V HM.out.symm HRV.out HT.out.2 HT.out.1 HK.out HUV.out (by have := HLE.out; omega) l1 n1 t1 ov1 li1 es1 m1 be1 HPL.out HN1.out.symm HM1.out)
  go_wp2_with fail
  with_reducible refine CC.out.mono ?_
  rintro e wx ⟨A2, c2, B2, d2, L2, rfl, hl, hm, hr, hre, hb⟩
  go_upto_region 3 with fail
  generalize hV : wx.alloc (.cells #[.slice A2 n1 c2, .int .i64 (t1 : Int), .bool ov1, .bool li1] 30) = V2
  generalize hbb : wx.heap.size = b2
  have HS2 : Hid (SR 30 V2 b2 [.slice A2 n1 c2, .int .i64 (t1 : Int), .bool ov1, .bool li1]) := by rw [← hV, ← hbb]; exact heap_alloc_new wx _
  have HBn : Hid (Below V.heap.size V V2) := by rw [← hV]; exact bAlloc hb _
  have HR2 : Hid (Rd V2 V2.heap.size A2 l1 c2) := by rw [← hV]; exact hr.at_ (bAlloc (Below.refl _ _) _)
  have HE2 : Hid (RdE V2 B2 L2 d2) := by rw [← hV]; exact hre.at_ (bAlloc (Below.refl _ _) _)
  have HL2 := keepd (And.intro hl hm)
  clear hV hbb hl hm hr hre hb CC r0 r1 r2 k0 k1 k2 k3 kt
  replace HD := keepd (SR.call HD.out HBn.out (SR.lt HD.out))
  replace HS7 := keepd (SR.call HS7.out HBn.out (SR.lt HS7.out))
  replace HRV := keepd (HRV.out.at_ HBn.out)
  replace HUV := keepd (HUV.out.at_ HBn.out)
  replace HB := keepd (bCall HB.out HBn.out)
  clear HBn
  obtain ⟨⟨r0, r1⟩, r2, _, _, _, _⟩ := DK.facts HD.out
  obtain ⟨k0, k1, k2, k3, _, _, _, _, kt⟩ := st_facts HS7.out
  have CC := keepd (sig_any A x m c t (t : Int) ov li f V2 HM.out.symm HRV.out HT.out.1 HT.out.2 rfl hf l3 n3 t3 ov3 li3 HSG.out HN3.out.symm)
  go_wp2_with fail
  with_reducible refine CC.out.mono ?_
  rintro e wx ⟨A3, c3, B3, d3, L3, rfl, hl, hm, hr, hre, hb⟩
  go_upto_region 4 with fail
  generalize hV : wx.alloc (.cells #[.slice A3 n3 c3, .int .i64 (t3 : Int), .bool ov3, .bool li3] 30) = V3
  generalize hbb : wx.heap.size = b3
  have HS3 : Hid (SR 30 V3 b3 [.slice A3 n3 c3, .int .i64 (t3 : Int), .bool ov3, .bool li3]) := by rw [← hV, ← hbb]; exact heap_alloc_new wx _
  have HBn : Hid (Below V2.heap.size V2 V3) := by rw [← hV]; exact bAlloc hb _
  have HR3 : Hid (Rd V3 V3.heap.size A3 l3 c3) := by rw [← hV]; exact hr.at_ (bAlloc (Below.refl _ _) _)
  have HE3 : Hid (RdE V3 B3 L3 d3) := by rw [← hV]; exact hre.at_ (bAlloc (Below.refl _ _) _)
  have HL3 := keepd (And.intro hl hm)
  clear hV hbb hl hm hr hre hb CC r0 r1 r2 k0 k1 k2 k3 kt
  replace HD := keepd (SR.call HD.out HBn.out (SR.lt HD.out))
  replace HS7 := keepd (SR.call HS7.out HBn.out (SR.lt HS7.out))
  replace HRV := keepd (HRV.out.at_ HBn.out)
  replace HUV := keepd (HUV.out.at_ HBn.out)
  replace HB := keepd (bCall HB.out HBn.out)
  replace HS2 := keepd (SR.call HS2.out HBn.out (SR.lt HS2.out))
  replace HR2 := keepd (HR2.out.at_ HBn.out)
  replace HE2 := keepd (HE2.out.at_ HBn.out)
  clear HBn
  obtain ⟨⟨r0, r1⟩, r2, _, _, _, _⟩ := DK.facts HD.out
  obtain ⟨k0, k1, k2, k3, _, _, _, _, kt⟩ := st_facts HS7.out
  obtain ⟨a0, a1, a2, a3⟩ := st_gr HS7.out
  have CC := keepd fun y : Gr V3 => echeck_any A m c (t : Int) ov li true y.W hmv
  have CM := keepd fun y : Gr V3 => ermay_any A m c (t : Int) ov li true y.W hmv
  clear k0 k1 k2 k3 kt
  go_wp2_with fail
  refine wp_region_gr (by kernel_rfl) (by kernel_rfl) ?_
  repeat
    refine wpQuiet_step (fun K hK => ?_)
    first
      | (refine gr_want (by rfl) ?_
         go_simp
         first
           | (refine hK _ ?_; clear hK K)
           | (apply Exists.intro
              refine ⟨fun _ => ?_, hK _ ?_⟩
              (first | (go_at_call 13; exact Gr.call (CC.out _)) | (go_at_call 14; exact Gr.call (CM.out _)))
              clear hK K))
      | (refine gr_skip (by rfl) ?_
         go_simp
         refine hK _ ?_
         clear hK K)
  refine wpQuiet_nil ?_
  intro y4
  obtain ⟨w4, hw4⟩ : ∃ w4, y4.W = w4 := ⟨_, rfl⟩
  have hb4 := y4.h
  rw [hw4] at hb4 ⊢
  replace HD := keepd (SR.call HD.out hb4 (SR.lt HD.out))
  replace HS7 := keepd (SR.call HS7.out hb4 (SR.lt HS7.out))
  replace HRV := keepd (HRV.out.at_ hb4)
  replace HUV := keepd (HUV.out.at_ hb4)
  replace HB := keepd (bCall HB.out hb4)
  replace HS2 := keepd (SR.call HS2.out hb4 (SR.lt HS2.out))
  replace HR2 := keepd (HR2.out.at_ hb4)
  replace HE2 := keepd (HE2.out.at_ hb4)
  replace HS3 := keepd (SR.call HS3.out hb4 (SR.lt HS3.out))
  replace HR3 := keepd (HR3.out.at_ hb4)
  replace HE3 := keepd (HE3.out.at_ hb4)
  clear hb4 hw4 CC CM r0 r1 r2 a0 a1 a2 a3
  obtain ⟨⟨r0, r1⟩, r2, _, _, _, _⟩ := DK.facts HD.out
  obtain ⟨k0, k1, k2, k3, _, _, _, _, kt⟩ := st_facts HS7.out
  have CM := keepd (ermay_any A m c (t : Int) ov li true w4 hmv)
  go_wp2_with fail
  with_reducible refine CM.out.mono ?_
  rintro e w5 ⟨rfl, hb5⟩
  replace HD := keepd (SR.call HD.out hb5 (SR.lt HD.out))
  replace HS7 := keepd (SR.call HS7.out hb5 (SR.lt HS7.out))
  replace HRV := keepd (HRV.out.at_ hb5)
  replace HUV := keepd (HUV.out.at_ hb5)
  replace HB := keepd (bCall HB.out hb5)
  replace HS2 := keepd (SR.call HS2.out hb5 (SR.lt HS2.out))
  replace HR2 := keepd (HR2.out.at_ hb5)
  replace HE2 := keepd (HE2.out.at_ hb5)
  replace HS3 := keepd (SR.call HS3.out hb5 (SR.lt HS3.out))
  replace HR3 := keepd (HR3.out.at_ hb5)
  replace HE3 := keepd (HE3.out.at_ hb5)
  clear hb5 CM r0 r1 r2 k0 k1 k2 k3 kt
  obtain ⟨⟨r0, r1⟩, r2, _, _, _, _⟩ := DK.facts HD.out
  obtain ⟨k0, k1, k2, k3, _, _, _, _, kt⟩ := st_facts HS7.out
  have CC := keepd (rplay_any X room A x m c t ov li K xs k d w5 HM.out.symm HRV.out HT.out.2 HT.out.1 HK.out HUV.out (by have := HLE.out; omega) l1 n1 t1 ov1 li1 es1 m1 be1 HPL.out HN1.out.symm HM1.out)
  go_wp2_with fail
  with_reducible refine CC.out.mono ?_
  rintro e wx ⟨A5, c5, B5, d5, L5, rfl, hl, hm, hr, hre, hb⟩
  go_upto_region 10 with fail
  generalize hV : wx.alloc (.cells #[.slice A5 n1 c5, .int .i64 (t1 : Int), .bool ov1, .bool li1] 30) = V5
  generalize hbb : wx.heap.size = b5
  have HS5 : Hid (SR 30 V5 b5 [.slice A5 n1 c5, .int .i64 (t1 : Int), .bool ov1, .bool li1]) := by rw [← hV, ← hbb]; exact heap_alloc_new wx _
  have HBn : Hid (Below w5.heap.size w5 V5) := by rw [← hV]; exact bAlloc hb _
  have HR5 : Hid (Rd V5 V5.heap.size A5 l1 c5) := by rw [← hV]; exact hr.at_ (bAlloc (Below.refl _ _) _)
  have HE5 : Hid (RdE V5 B5 L5 d5) := by rw [← hV]; exact hre.at_ (bAlloc (Below.refl _ _) _)
  have HL5 := keepd (And.intro hl hm)
  clear hV hbb hl hm hr hre hb CC r0 r1 r2 k0 k1 k2 k3 kt
  replace HD := keepd (SR.call HD.out HBn.out (SR.lt HD.out))
  replace HS7 := keepd (SR.call HS7.out HBn.out (SR.lt HS7.out))
  replace HRV := keepd (HRV.out.at_ HBn.out)
  replace HUV := keepd (HUV.out.at_ HBn.out)
  replace HB := keepd (bCall HB.out HBn.out)
  replace HS2 := keepd (SR.call HS2.out HBn.out (SR.lt HS2.out))
  replace HR2 := keepd (HR2.out.at_ HBn.out)
  replace HE2 := keepd (HE2.out.at_ HBn.out)
  replace HS3 := keepd (SR.call HS3.out HBn.out (SR.lt HS3.out))
  replace HR3 := keepd (HR3.out.at_ HBn.out)
  replace HE3 := keepd (HE3.out.at_ HBn.out)
  clear HBn
  obtain ⟨⟨r0, r1⟩, r2, _, _, _, _⟩ := DK.facts HD.out
  obtain ⟨k0, k1, k2, k3, _, _, _, _, kt⟩ := st_facts HS7.out
  obtain ⟨a0, a1, a2, a3⟩ := st_gr HS7.out
  obtain ⟨p0, p1, p2, p3⟩ := st_gr HS2.out
  obtain ⟨q0, q1, q2, q3⟩ := st_gr HS5.out
  obtain ⟨s, hs⟩ : ∃ s, sameS l1 (t1 : Int) ov1 li1 x (t : Int) ov li = s := ⟨_, rfl⟩
  obtain ⟨g, hg⟩ : ∃ g, likeE es1 [sigV ⟨x, t, ov, li⟩ f] = g := ⟨_, rfl⟩
  have D1 := keepd fun y : Gr V5 => ersame_any A2 A5 l1 l1 n1 n1 c2 c5 (t1 : Int) (t1 : Int) ov1 ov1 li1 li1 true y.W HN1.out HN1.out (HR2.out.at_ y.h) (HR5.out.at_ y.h) (sameS_iff.2 ⟨rfl, rfl, rfl, rfl⟩)
  have D2 := keepd fun y : Gr V5 => ralike_any B2 B5 L2 L5 m1 m1 d2 d5 true y.W HL2.out.2.symm HL5.out.2.symm (HE2.out.at_ y.h) (HE5.out.at_ y.h) (likeE_iff.2 (by rw [HL2.out.1, HL5.out.1])) (by have := HFW.out; omega)
  have D3 := keepd fun y : Gr V5 => esame_any A2 A l1 x n1 m c2 c (t1 : Int) (t : Int) ov1 ov li1 li s y.W HN1.out HM.out.symm (HR2.out.at_ y.h) (HRV.out.at_ y.h) hs
  have D4 := keepd fun y : Gr V5 => ersame_any A2 A l1 x n1 m c2 c (t1 : Int) (t : Int) ov1 ov li1 li s y.W HN1.out HM.out.symm (HR2.out.at_ y.h) (HRV.out.at_ y.h) hs
  have D5 := keepd fun y : Gr V5 => alike_any B2 B3 L2 L3 m1 1 d2 d3 g y.W HL2.out.2.symm HL3.out.2.symm (HE2.out.at_ y.h) (HE3.out.at_ y.h) (by rw [HL2.out.1, HL3.out.1]; exact hg) (by have := HFW.out; omega)
  have D6 := keepd fun y : Gr V5 => ralike_any B2 B3 L2 L3 m1 1 d2 d3 g y.W HL2.out.2.symm HL3.out.2.symm (HE2.out.at_ y.h) (HE3.out.at_ y.h) (by rw [HL2.out.1, HL3.out.1]; exact hg) (by have := HFW.out; omega)
  have hss : (s != s) = false := by simp
  have hgg : (g != g) = false := by simp
  have hbb : ((be1 : Int) != (be1 : Int)) = false := by simp
  clear hs hg k0 k1 k2 k3 kt
  go_wp2_with fail
  refine wp_region_gr (by kernel_rfl) (by kernel_rfl) ?_
  repeat
    refine wpQuiet_step (fun K hK => ?_)
    first
      | (refine gr_want (by rfl) ?_
         go_simp
         first
           | (refine hK _ ?_; clear hK K)
           | (apply Exists.intro
              refine ⟨fun _ => ?_, hK _ ?_⟩
              (first | (go_at_call 19; with_reducible exact Gr.call (D1.out _)) | (go_at_call 20; with_reducible exact Gr.call (D2.out _)) | (go_at_call 16; with_reducible exact Gr.call (D3.out _)) | (go_at_call 19; with_reducible exact Gr.call (D4.out _)) | (go_at_call 21; with_reducible exact Gr.call (D5.out _)) | (go_at_call 20; with_reducible exact Gr.call (D6.out _)))
              clear hK K))
      | (refine gr_skip (by rfl) ?_
         go_simp
         refine hK _ ?_
         clear hK K)
  refine wpQuiet_nil ?_
  intro y4
  obtain ⟨w6, hw6⟩ : ∃ w4, y4.W = w4 := ⟨_, rfl⟩
  have hb6 := y4.h
  rw [hw6] at hb6 ⊢
  replace HS7 := keepd (SR.call HS7.out hb6 (SR.lt HS7.out))
  replace HRV := keepd (HRV.out.at_ hb6)
  replace HB := keepd (bCall HB.out hb6)
  replace HS3 := keepd (SR.call HS3.out hb6 (SR.lt HS3.out))
  replace HR3 := keepd (HR3.out.at_ hb6)
  replace HE3 := keepd (HE3.out.at_ hb6)
  clear hb6 hw6 D1 D2 D3 D4 D5 D6 r0 r1 r2 a0 a1 a2 a3 p0 p1 p2 p3 q0 q1 q2 q3 HS2 HR2 HE2 HS5 HR5 HE5 HD HUV
  obtain ⟨k0, k1, k2, k3, _, _, _, _, kt⟩ := st_facts HS7.out
  obtain ⟨j0, j1, j2, j3, _, _, _, _, jt⟩ := st_facts HS3.out
  have hfb := isSig_bounds hf
  have g1 : ¬ f < 1 := by omega
  have g2 : ¬ f > 9 := by omega
  have g3 : ¬ 9 < f := by omega
  have CR := keepd (rsig_any A x m c t ov li f w6 HM.out.symm HRV.out HT.out.1 l3 n3 t3 ov3 li3 HSG.out HN3.out.symm)
  clear hfb hf
  go_wp2_with fail
  with_reducible refine CR.out.mono ?_
  rintro e wx ⟨A8, c8, B8, d8, L8, rfl, hl, hm, hr, hre, hb⟩
  go_upto_region 15 with fail
  generalize hV : wx.alloc (.cells #[.slice A8 n3 c8, .int .i64 (t3 : Int), .bool ov3, .bool li3] 30) = V8
  generalize hbb8 : wx.heap.size = b8
  have HS8 : Hid (SR 30 V8 b8 [.slice A8 n3 c8, .int .i64 (t3 : Int), .bool ov3, .bool li3]) := by rw [← hV, ← hbb8]; exact heap_alloc_new wx _
  have HBn : Hid (Below w6.heap.size w6 V8) := by rw [← hV]; exact bAlloc hb _
  have HR8 : Hid (Rd V8 V8.heap.size A8 l3 c8) := by rw [← hV]; exact hr.at_ (bAlloc (Below.refl _ _) _)
  have HE8 : Hid (RdE V8 B8 L8 d8) := by rw [← hV]; exact hre.at_ (bAlloc (Below.refl _ _) _)
  have HL8 := keepd (And.intro hl hm)
  clear hV hbb8 hl hm hr hre hb CR k0 k1 k2 k3 kt j0 j1 j2 j3 jt
  replace HB := keepd (bCall HB.out HBn.out)
  replace HS3 := keepd (SR.call HS3.out HBn.out (SR.lt HS3.out))
  replace HR3 := keepd (HR3.out.at_ HBn.out)
  replace HE3 := keepd (HE3.out.at_ HBn.out)
  clear HBn
  obtain ⟨k0, k1, k2, k3, _, _, _, _, kt⟩ := st_facts HS8.out
  obtain ⟨j0, j1, j2, j3, _, _, _, _, jt⟩ := st_facts HS3.out
  have CE := keepd (ersame_any A3 A8 l3 l3 n3 n3 c3 c8 (t3 : Int) (t3 : Int) ov3 ov3 li3 li3 true V8 HN3.out HN3.out HR3.out HR8.out (sameS_iff.2 ⟨rfl, rfl, rfl, rfl⟩))
  have CA := keepd fun (W : World) (hb : Below V8.heap.size V8 W) => ralike_any B3 B8 L3 L8 1 1 d3 d8 true W HL3.out.2.symm HL8.out.2.symm (HE3.out.at_ hb) (HE8.out.at_ hb) (likeE_iff.2 (by rw [HL3.out.1, HL8.out.1])) (by omega)
  go_wp2_with fail
  with_reducible refine CE.out.mono ?_
  rintro e w7 ⟨rfl, hb7⟩
  have HB7 := keepd hb7
  clear hb7 CE
  go_wp2_with fail
  with_reducible refine (CA.out _ HB7.out).mono ?_
  rintro e w8 ⟨rfl, hb8⟩
  have HB8 := keepd (bCall HB.out (bCall HB7.out hb8))
  clear hb8 CA
  have CW := keepd (eawake_any _ (HLD.out.below HB8.out))
  go_wp2_with fail
  with_reducible refine CW.out.mono ?_
  rintro e w9 ⟨rfl, hb9⟩
  have HB9 := keepd (bCall HB8.out hb9)
  clear hb9 CW
  go_wp2_with fail
  go_ret
  exact ⟨rfl, HB9.out⟩

end Go.Proofs.YtjhocmeenejjpaaDoor
