/-
  LineTells' walk. No conditions beyond those each theorem states.
-/
import Derived.Test.YtbkpihegagflaaaR4
namespace Go.Proofs.Ytbkpihegagflaaa
open Go.RowKit
set_option maxRecDepth 100000

set_option maxHeartbeats 8000000 in
theorem tells_law (A : Option Addr) (l : List UInt8) (c : Nat) (z : Int) (u : UInt8) (room : Int) (over : Bool) (f : Int) (w : World) (hr : Rd w w.heap.size A l c) :
    Calls Try.prog 3 #[.agg #[.slice A l.length c, .int .i64 z], .agg #[.int .u8 (u.toNat : Int), .int .i64 room, .bool over], .int .i64 f] w fun e w' => e = .returned (.bool true) ∧ Below w.heap.size w w' := by
  obtain ⟨n, hn⟩ : ∃ n, n = l.length := ⟨_, rfl⟩
  rw [← hn]
  have HN := keepd hn
  have HR0 := keepd hr
  obtain ⟨m, hm⟩ : ∃ m, (fewL l).length = m := ⟨_, rfl⟩
  have HM := keepd hm
  have hm1 : m ≤ 4100 := by rw [← hm]; exact (few_le l).1
  clear hn hr hm
  go_enter Try.func3, Try.ntmps3
  go_upto_region 1 with fail
  generalize hV : (w.alloc (.cells #[.slice A n c, .int .i64 z] 24)).alloc (.cells #[.int .u8 (u.toNat : Int), .int .i64 room, .bool over] 26) = V
  obtain ⟨H, HK, HB⟩ := key_new _ _ _ _ _ _ _ hV
  obtain ⟨k0, k1, k2, k3, kt⟩ := line_facts H.out
  have CF := keepd (few_any A l n c m z V HN.out (HR0.out.at_ HB.out) HM.out)
  clear hV
  go_wp2_with fail
  with_reducible refine CF.out.mono ?_
  rintro e w1 ⟨rfl, hb1⟩
  have H1 := keepd (SR.call H.out hb1 H.out.lt)
  have HK1 := keepd (SR.call HK.out hb1 HK.out.lt)
  have HB1 := keepd (bCall HB.out hb1)
  obtain ⟨k0, k1, k2, k3, kt⟩ := line_facts H1.out
  clear hb1 CF H HB
  go_upto_region 2 with fail
  generalize hV : (w1.setCell ⟨w.heap.size, 0, none⟩ (.slice A m c)).setCell ⟨w.heap.size, 1, none⟩ (.int .i64 z) = V
  have HK2 := keepd (key_far HK1.out (Nat.succ_ne_self _) hV)
  obtain ⟨H, HB⟩ := few_set (Nat.le_refl _) H1.out HB1.out _ hV
  have HR := keepd (HR0.out.few.at_ HB.out)
  have HR0x := keepd HR0.out.few
  generalize fewL l = x at *
  obtain ⟨k0, k1, k2, k3, kt⟩ := line_facts H.out
  clear hV H1 HB1 HR0 HN
  obtain ⟨c0, c1, c2'⟩ := key_facts HK2.out
  cases hv : mayV m z
  · have HT := keepd fun (W : World) (hb : Below V.heap.size V W) => ty_bad A x m c z room over u W HM.out.symm (HR.out.at_ hb) (by omega) hv
    have HD := keepd fun (W : World) (hb : Below V.heap.size V W) => do_bad A x m c z f W HM.out.symm (HR.out.at_ hb) (by omega) hv
    go_wp2_with fail
    with_reducible refine (HT.out _ (Below.refl _ _)).mono ?_
    rintro e w3 ⟨⟨Aa, ca, rfl, ho⟩, hb3⟩
    have Qa0 := keepd ho.rdOf
    clear ho HT k0 k1 k2 k3 kt c0 c1 c2'
    go_upto_region 3 with fail
    generalize hV4 : w3.alloc (.cells #[.slice Aa m ca, .int .i64 z] 24) = V4
    obtain ⟨Ha, HBV, _⟩ := line_new1 _ _ _ _ hV4
    have hb4 := bCall hb3 HBV.out
    have Qa := keepd (Qa0.out.at_ HBV.out)
    replace H := keepd (SR.call H.out hb4 H.out.lt)
    replace HK2 := keepd (SR.call HK2.out hb4 HK2.out.lt)
    replace HR := keepd (HR.out.at_ hb4)
    replace HB := keepd (bCall HB.out hb4)
    have HD4 := keepd (HD.out _ hb4)
    obtain ⟨k0, k1, _, _, _⟩ := line_facts H.out
    clear hV4 hb3 hb4 HBV Qa0 HD
    go_wp2_with fail
    with_reducible refine HD4.out.mono ?_
    rintro e w5 ⟨⟨Ab, cb, rfl, ho⟩, hb5⟩
    have Qb0 := keepd ho.rdOf
    clear ho HD4 k0 k1
    go_upto_region 4 with fail
    generalize hV6 : w5.alloc (.cells #[.slice Ab m cb, .int .i64 z] 24) = V6
    obtain ⟨Hb, HBV, _⟩ := line_new1 _ _ _ _ hV6
    have hb6 := bCall hb5 HBV.out
    have Qb := keepd (Qb0.out.at_ HBV.out)
    replace H := keepd (SR.call H.out hb6 H.out.lt)
    replace HK2 := keepd (SR.call HK2.out hb6 HK2.out.lt)
    replace HR := keepd (HR.out.at_ hb6)
    replace HB := keepd (bCall HB.out hb6)
    replace Ha := keepd (SR.call Ha.out hb6 Ha.out.lt)
    replace Qa := keepd (Qa.out.at_ hb6)
    obtain ⟨g0, g1⟩ := H.out.gr
    clear hV6 hb5 hb6 HBV Qb0
    have CC := keepd fun y : Gr V6 => check_bad A m c z y.W hv
    have CM := keepd fun y : Gr V6 => rmay_any A m c z false y.W hv
    go_wp2_with fail
    refine wp_region_gr (by kernel_rfl) (by kernel_rfl) ?_
    repeat
      refine wpQuiet_step (fun K hK => ?_)
      first
        | (refine gr_want (by rfl) ?_
           go_simp
           first
             | (refine hK _ ?_; clear hK K)
             | (apply Exists.intro
                refine ⟨fun _ => ?_, hK _ ?_⟩
                (first | (go_at_call 13; exact Gr.call (CC.out _)) | (go_at_call 14; exact Gr.call (CM.out _)))
                clear hK K))
        | (refine gr_skip (by rfl) ?_
           go_simp
           refine hK _ ?_
           clear hK K)
    refine wpQuiet_nil ?_
    intro y9
    replace H := keepd (SR.call H.out y9.h H.out.lt)
    replace HK2 := keepd (SR.call HK2.out y9.h HK2.out.lt)
    replace HR := keepd (HR.out.at_ y9.h)
    replace HB := keepd (bCall HB.out y9.h)
    replace Ha := keepd (SR.call Ha.out y9.h Ha.out.lt)
    replace Qa := keepd (Qa.out.at_ y9.h)
    replace Hb := keepd (SR.call Hb.out y9.h Hb.out.lt)
    replace Qb := keepd (Qb.out.at_ y9.h)
    obtain ⟨w7, hw7⟩ : ∃ w7, y9.W = w7 := ⟨_, rfl⟩
    rw [hw7] at H HK2 HR HB Ha Qa Hb Qb
    rw [hw7]
    clear hw7 g0 g1 CC CM
    obtain ⟨k0, k1, _, _, _⟩ := line_facts H.out
    obtain ⟨a0, a1, _, _, _⟩ := line_facts Ha.out
    obtain ⟨b0, b1, _, _, _⟩ := line_facts Hb.out
    have CX := keepd (rmay_any A m c z false w7 hv)
    go_wp2_with fail
    with_reducible refine CX.out.mono ?_
    rintro e wx0 ⟨rfl, hb8⟩
    replace H := keepd (SR.call H.out hb8 H.out.lt)
    replace HK2 := keepd (SR.call HK2.out hb8 HK2.out.lt)
    replace HR := keepd (HR.out.at_ hb8)
    replace HB := keepd (bCall HB.out hb8)
    replace Ha := keepd (SR.call Ha.out hb8 Ha.out.lt)
    replace Qa := keepd (Qa.out.at_ hb8)
    replace Hb := keepd (SR.call Hb.out hb8 Hb.out.lt)
    replace Qb := keepd (Qb.out.at_ hb8)
    clear hb8 CX k0 k1 a0 a1 b0 b1
    obtain ⟨k0, k1, _, _, _⟩ := line_facts H.out
    obtain ⟨a0, a1, _, _, _⟩ := line_facts Ha.out
    obtain ⟨b0, b1, _, _, _⟩ := line_facts Hb.out
    have CX := keepd (same_any Aa A x x m m ca c z z true wx0 HM.out.symm HM.out.symm Qa.out HR.out (by simp))
    go_wp2_with fail
    with_reducible refine CX.out.mono ?_
    rintro e wx1 ⟨rfl, hb8⟩
    replace H := keepd (SR.call H.out hb8 H.out.lt)
    replace HK2 := keepd (SR.call HK2.out hb8 HK2.out.lt)
    replace HR := keepd (HR.out.at_ hb8)
    replace HB := keepd (bCall HB.out hb8)
    replace Ha := keepd (SR.call Ha.out hb8 Ha.out.lt)
    replace Qa := keepd (Qa.out.at_ hb8)
    replace Hb := keepd (SR.call Hb.out hb8 Hb.out.lt)
    replace Qb := keepd (Qb.out.at_ hb8)
    clear hb8 CX k0 k1 a0 a1 b0 b1
    obtain ⟨k0, k1, _, _, _⟩ := line_facts H.out
    obtain ⟨a0, a1, _, _, _⟩ := line_facts Ha.out
    obtain ⟨b0, b1, _, _, _⟩ := line_facts Hb.out
    have CX := keepd (same_any Ab A x x m m cb c z z true wx1 HM.out.symm HM.out.symm Qb.out HR.out (by simp))
    go_wp2_with fail
    with_reducible refine CX.out.mono ?_
    rintro e wx2 ⟨rfl, hb8⟩
    replace H := keepd (SR.call H.out hb8 H.out.lt)
    replace HK2 := keepd (SR.call HK2.out hb8 HK2.out.lt)
    replace HR := keepd (HR.out.at_ hb8)
    replace HB := keepd (bCall HB.out hb8)
    replace Ha := keepd (SR.call Ha.out hb8 Ha.out.lt)
    replace Qa := keepd (Qa.out.at_ hb8)
    replace Hb := keepd (SR.call Hb.out hb8 Hb.out.lt)
    replace Qb := keepd (Qb.out.at_ hb8)
    clear hb8 CX k0 k1 a0 a1 b0 b1
    obtain ⟨k0, k1, _, _, _⟩ := line_facts H.out
    obtain ⟨a0, a1, _, _, _⟩ := line_facts Ha.out
    obtain ⟨b0, b1, _, _, _⟩ := line_facts Hb.out
    have CX := keepd (back_bad A m c z wx2 hv)
    go_wp2_with fail
    with_reducible refine CX.out.mono ?_
    rintro e wx3 ⟨rfl, hb8⟩
    replace H := keepd (SR.call H.out hb8 H.out.lt)
    replace HK2 := keepd (SR.call HK2.out hb8 HK2.out.lt)
    replace HR := keepd (HR.out.at_ hb8)
    replace HB := keepd (bCall HB.out hb8)
    replace Ha := keepd (SR.call Ha.out hb8 Ha.out.lt)
    replace Qa := keepd (Qa.out.at_ hb8)
    replace Hb := keepd (SR.call Hb.out hb8 Hb.out.lt)
    replace Qb := keepd (Qb.out.at_ hb8)
    clear hb8 CX k0 k1 a0 a1 b0 b1
    obtain ⟨k0, k1, _, _, _⟩ := line_facts H.out
    obtain ⟨a0, a1, _, _, _⟩ := line_facts Ha.out
    obtain ⟨b0, b1, _, _, _⟩ := line_facts Hb.out
    have CX := keepd (on_bad A m c z wx3 hv)
    go_wp2_with fail
    with_reducible refine CX.out.mono ?_
    rintro e wx4 ⟨rfl, hb8⟩
    replace H := keepd (SR.call H.out hb8 H.out.lt)
    replace HK2 := keepd (SR.call HK2.out hb8 HK2.out.lt)
    replace HR := keepd (HR.out.at_ hb8)
    replace HB := keepd (bCall HB.out hb8)
    replace Ha := keepd (SR.call Ha.out hb8 Ha.out.lt)
    replace Qa := keepd (Qa.out.at_ hb8)
    replace Hb := keepd (SR.call Hb.out hb8 Hb.out.lt)
    replace Qb := keepd (Qb.out.at_ hb8)
    clear hb8 CX k0 k1 a0 a1 b0 b1
    go_wp2_with fail
    with_reducible refine (awake_any _).mono ?_
    rintro e wz ⟨rfl, hbz⟩
    have HBz := keepd (bCall HB.out hbz)
    clear hbz
    go_wp2_with fail
    go_ret
    exact ⟨rfl, HBz.out⟩
  · obtain ⟨h4, t, rfl, ht⟩ := mayV_inv hv
    obtain ⟨ya, sa, hta⟩ : ∃ ya sa, tyR x t room over u = (ya, sa) := ⟨_, _, rfl⟩
    obtain ⟨da, hda⟩ : ∃ d, (tyL x t room over u).isSome = d := ⟨_, rfl⟩
    obtain ⟨pa, hpa⟩ : ∃ p, ya.length = p := ⟨_, rfl⟩
    obtain ⟨yb, sb, htb⟩ : ∃ yb sb, doR x t f = (yb, sb) := ⟨_, _, rfl⟩
    obtain ⟨db, hdb⟩ : ∃ d, (doL x t f).isSome = d := ⟨_, rfl⟩
    obtain ⟨pb, hpb⟩ : ∃ p, yb.length = p := ⟨_, rfl⟩
    have HT := keepd fun (W : World) (hb : Below V.heap.size V W) => ty_go A x ya m c t sa pa room over u da W HM.out.symm (HR.out.at_ hb) h4 ht hta hda hpa
    have HD := keepd fun (W : World) (hb : Below V.heap.size V W) => do_go A x yb m c t sb pb f db W HM.out.symm (HR.out.at_ hb) h4 ht htb hdb hpb
    have XT := keepd fun (W : World) (hr : Rd W W.heap.size A x c) => rty_go A x ya m c t sa pa room over u da W HM.out.symm hr h4 ht hta hda hpa
    have XD := keepd fun (W : World) (hr : Rd W W.heap.size A x c) => rdo_go A x yb m c t sb pb f db W HM.out.symm hr h4 ht htb hdb hpb
    obtain ⟨b, hb⟩ : ∃ b, backL x t = b := ⟨_, rfl⟩
    obtain ⟨o, ho⟩ : ∃ o, onL x t = o := ⟨_, rfl⟩
    have HBK := keepd hb
    have HON := keepd ho
    have HPA := keepd hpa.symm
    have HPB := keepd hpb.symm
    clear hta hda hpa htb hdb hpb hb ho
    go_wp2_with fail
    with_reducible refine (HT.out _ (Below.refl _ _)).mono ?_
    rintro e w3 ⟨⟨Aa, ca, rfl, ho⟩, hb3⟩
    have Qa0 := keepd ho.rdOf
    clear ho HT k0 k1 k2 k3 kt c0 c1 c2'
    go_upto_region 3 with fail
    generalize hV4 : w3.alloc (.cells #[.slice Aa pa ca, .int .i64 (sa : Int)] 24) = V4
    obtain ⟨Ha, HBV, _⟩ := line_new1 _ _ _ _ hV4
    have hb4 := bCall hb3 HBV.out
    have Qa := keepd (Qa0.out.at_ HBV.out)
    replace H := keepd (SR.call H.out hb4 H.out.lt)
    replace HK2 := keepd (SR.call HK2.out hb4 HK2.out.lt)
    replace HR := keepd (HR.out.at_ hb4)
    replace HB := keepd (bCall HB.out hb4)
    have HD4 := keepd (HD.out _ hb4)
    obtain ⟨k0, k1, _, _, _⟩ := line_facts H.out
    clear hV4 hb3 hb4 HBV Qa0 HD
    go_wp2_with fail
    with_reducible refine HD4.out.mono ?_
    rintro e w5 ⟨⟨Ab, cb, rfl, ho⟩, hb5⟩
    have Qb0 := keepd ho.rdOf
    clear ho HD4 k0 k1
    go_upto_region 4 with fail
    generalize hV6 : w5.alloc (.cells #[.slice Ab pb cb, .int .i64 (sb : Int)] 24) = V6
    obtain ⟨Hb, HBV, _⟩ := line_new1 _ _ _ _ hV6
    have hb6 := bCall hb5 HBV.out
    have Qb := keepd (Qb0.out.at_ HBV.out)
    replace H := keepd (SR.call H.out hb6 H.out.lt)
    replace HK2 := keepd (SR.call HK2.out hb6 HK2.out.lt)
    replace HR := keepd (HR.out.at_ hb6)
    replace HB := keepd (bCall HB.out hb6)
    replace Ha := keepd (SR.call Ha.out hb6 Ha.out.lt)
    replace Qa := keepd (Qa.out.at_ hb6)
    obtain ⟨g0, g1⟩ := H.out.gr
    clear hV6 hb5 hb6 HBV Qb0
    have CC := keepd fun y : Gr V6 => check_ok A m c t y.W h4 ht
    have CM := keepd fun y : Gr V6 => rmay_any A m c (t : Int) true y.W hv
    go_wp2_with fail
    refine wp_region_gr (by kernel_rfl) (by kernel_rfl) ?_
    repeat
      refine wpQuiet_step (fun K hK => ?_)
      first
        | (refine gr_want (by rfl) ?_
           go_simp
           first
             | (refine hK _ ?_; clear hK K)
             | (apply Exists.intro
                refine ⟨fun _ => ?_, hK _ ?_⟩
                (first | (go_at_call 13; exact Gr.call (CC.out _)) | (go_at_call 14; exact Gr.call (CM.out _)))
                clear hK K))
        | (refine gr_skip (by rfl) ?_
           go_simp
           refine hK _ ?_
           clear hK K)
    refine wpQuiet_nil ?_
    intro y9
    replace H := keepd (SR.call H.out y9.h H.out.lt)
    replace HK2 := keepd (SR.call HK2.out y9.h HK2.out.lt)
    replace HR := keepd (HR.out.at_ y9.h)
    replace HB := keepd (bCall HB.out y9.h)
    replace Ha := keepd (SR.call Ha.out y9.h Ha.out.lt)
    replace Qa := keepd (Qa.out.at_ y9.h)
    replace Hb := keepd (SR.call Hb.out y9.h Hb.out.lt)
    replace Qb := keepd (Qb.out.at_ y9.h)
    obtain ⟨w7, hw7⟩ : ∃ w7, y9.W = w7 := ⟨_, rfl⟩
    rw [hw7] at H HK2 HR HB Ha Qa Hb Qb
    rw [hw7]
    clear hw7 g0 g1 CC CM
    obtain ⟨k0, k1, _, _, _⟩ := line_facts H.out
    obtain ⟨a0, a1, _, _, _⟩ := line_facts Ha.out
    obtain ⟨b0, b1, _, _, _⟩ := line_facts Hb.out
    have CX := keepd (rmay_any A m c (t : Int) true w7 hv)
    go_wp2_with fail
    with_reducible refine CX.out.mono ?_
    rintro e wx0 ⟨rfl, hb8⟩
    replace H := keepd (SR.call H.out hb8 H.out.lt)
    replace HK2 := keepd (SR.call HK2.out hb8 HK2.out.lt)
    replace HR := keepd (HR.out.at_ hb8)
    replace HB := keepd (bCall HB.out hb8)
    replace Ha := keepd (SR.call Ha.out hb8 Ha.out.lt)
    replace Qa := keepd (Qa.out.at_ hb8)
    replace Hb := keepd (SR.call Hb.out hb8 Hb.out.lt)
    replace Qb := keepd (Qb.out.at_ hb8)
    clear hb8 CX k0 k1 a0 a1 b0 b1
    obtain ⟨k0, k1, _, _, _⟩ := line_facts H.out
    obtain ⟨a0, a1, _, _, _⟩ := line_facts Ha.out
    obtain ⟨b0, b1, _, _, _⟩ := line_facts Hb.out
    obtain ⟨c0, c1, c2'⟩ := key_facts HK2.out
    have CX := keepd (XT.out _ HR.out)
    clear XT
    go_wp2_with fail
    with_reducible refine CX.out.mono ?_
    rintro e w9 ⟨⟨Ax, cx, rfl, hrx⟩, hb9⟩
    have Qx0 := keepd hrx
    clear CX hrx k0 k1 a0 a1 b0 b1 c0 c1 c2'
    go_upto_region 9 with fail
    generalize hV8 : w9.alloc (.cells #[.slice Ax pa cx, .int .i64 (sa : Int)] 24) = V8
    obtain ⟨Hx, HBV, _⟩ := line_new1 _ _ _ _ hV8
    have hb8 := bCall hb9 HBV.out
    have Qx := keepd (Qx0.out.at_ HBV.out)
    replace H := keepd (SR.call H.out hb8 H.out.lt)
    replace HK2 := keepd (SR.call HK2.out hb8 HK2.out.lt)
    replace HR := keepd (HR.out.at_ hb8)
    replace HB := keepd (bCall HB.out hb8)
    replace Ha := keepd (SR.call Ha.out hb8 Ha.out.lt)
    replace Qa := keepd (Qa.out.at_ hb8)
    replace Hb := keepd (SR.call Hb.out hb8 Hb.out.lt)
    replace Qb := keepd (Qb.out.at_ hb8)
    clear hV8 HBV hb8 hb9 Qx0
    obtain ⟨k0, k1, _, _, _⟩ := line_facts H.out
    obtain ⟨a0, a1, _, _, _⟩ := line_facts Ha.out
    obtain ⟨b0, b1, _, _, _⟩ := line_facts Hb.out
    have CX := keepd (XD.out _ HR.out)
    clear XD
    go_wp2_with fail
    with_reducible refine CX.out.mono ?_
    rintro e w10 ⟨⟨Ay, cy, rfl, hry⟩, hb9⟩
    have Qy0 := keepd hry
    clear CX hry k0 k1 a0 a1 b0 b1
    go_upto_region 10 with fail
    generalize hV9 : w10.alloc (.cells #[.slice Ay pb cy, .int .i64 (sb : Int)] 24) = V9
    obtain ⟨Hy, HBV, _⟩ := line_new1 _ _ _ _ hV9
    have hb8 := bCall hb9 HBV.out
    have Qy := keepd (Qy0.out.at_ HBV.out)
    replace H := keepd (SR.call H.out hb8 H.out.lt)
    replace HK2 := keepd (SR.call HK2.out hb8 HK2.out.lt)
    replace HR := keepd (HR.out.at_ hb8)
    replace HB := keepd (bCall HB.out hb8)
    replace Ha := keepd (SR.call Ha.out hb8 Ha.out.lt)
    replace Qa := keepd (Qa.out.at_ hb8)
    replace Hb := keepd (SR.call Hb.out hb8 Hb.out.lt)
    replace Qb := keepd (Qb.out.at_ hb8)
    replace Hx := keepd (SR.call Hx.out hb8 Hx.out.lt)
    replace Qx := keepd (Qx.out.at_ hb8)
    clear hV9 HBV hb8 hb9 Qy0
    obtain ⟨g0, g1⟩ := H.out.gr
    obtain ⟨a0, a1⟩ := Ha.out.gr
    obtain ⟨b0, b1⟩ := Hb.out.gr
    obtain ⟨x0, x1⟩ := Hx.out.gr
    obtain ⟨y0, y1⟩ := Hy.out.gr
    obtain ⟨r, hr0⟩ : ∃ r, (((sa : Int) == (sb : Int)) && ya == yb) = r := ⟨_, rfl⟩
    have C1 := keepd fun q : Gr V9 => rsame_any Aa Ax ya ya pa pa ca cx (sa : Int) (sa : Int) true q.W HPA.out HPA.out (Qa.out.at_ q.h) (Qx.out.at_ q.h) (by simp)
    have C2 := keepd fun q : Gr V9 => rsame_any Ab Ay yb yb pb pb cb cy (sb : Int) (sb : Int) true q.W HPB.out HPB.out (Qb.out.at_ q.h) (Qy.out.at_ q.h) (by simp)
    have C3 := keepd fun q : Gr V9 => rsame_any Ax Ay ya yb pa pb cx cy (sa : Int) (sb : Int) r q.W HPA.out HPB.out (Qx.out.at_ q.h) (Qy.out.at_ q.h) hr0
    have C4 := keepd fun q : Gr V9 => same_any Aa Ab ya yb pa pb ca cb (sa : Int) (sb : Int) r q.W HPA.out HPB.out (Qa.out.at_ q.h) (Qb.out.at_ q.h) hr0
    have C5 := keepd fun q : Gr V9 => back_any A x m c t b q.W HM.out.symm (HR.out.at_ q.h) h4 ht HBK.out
    have C6 := keepd fun q : Gr V9 => rback_any A x m c t b q.W HM.out.symm (HR.out.at_ q.h) h4 ht HBK.out
    have C7 := keepd fun q : Gr V9 => on_any A x m c t o q.W HM.out.symm (HR.out.at_ q.h) h4 ht HON.out
    have C8 := keepd fun q : Gr V9 => ron_any A x m c t o q.W HM.out.symm (HR.out.at_ q.h) h4 ht HON.out
    clear hr0
    refine wp_region_gr (by kernel_rfl) (by kernel_rfl) ?_
    repeat
      refine wpQuiet_step (fun K hK => ?_)
      first
        | (refine gr_want (by rfl) ?_
           go_simp
           first
             | (refine hK _ ?_; clear hK K)
             | (apply Exists.intro
                refine ⟨fun _ => ?_, hK _ ?_⟩
                (first | (go_at_call 21; with_reducible exact Gr.call (C1.out _)) | (go_at_call 21; with_reducible exact Gr.call (C2.out _)) | (go_at_call 21; with_reducible exact Gr.call (C3.out _)) | (go_at_call 15; with_reducible exact Gr.call (C4.out _)) | (go_at_call 16; exact Gr.call (C5.out _)) | (go_at_call 22; exact Gr.call (C6.out _)) | (go_at_call 17; exact Gr.call (C7.out _)) | (go_at_call 23; exact Gr.call (C8.out _)) | (go_at_call 18; exact Gr.call (awake_any _)))
                clear hK K))
        | (refine gr_skip (by rfl) ?_
           go_simp
           refine hK _ ?_
           clear hK K)
    refine wpQuiet_nil ?_
    intro y9
    have HBz := keepd (bCall HB.out y9.h)
    go_wp2_with fail
    go_ret
    exact ⟨rfl, HBz.out⟩

end Go.Proofs.Ytbkpihegagflaaa
