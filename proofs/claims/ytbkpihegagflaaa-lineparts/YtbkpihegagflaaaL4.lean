/-
  LineParts' walk. No conditions beyond those each theorem states.
-/
import Derived.Test.YtbkpihegagflaaaL0
namespace Go.Proofs.Ytbkpihegagflaaa
open Go.RowKit
set_option maxRecDepth 100000

theorem strApp (a b : List UInt8) : (⟨a.toArray⟩ : ByteArray) ++ ⟨b.toArray⟩ = ⟨(a ++ b).toArray⟩ := by
  apply ByteArray.ext
  rw [ByteArray.data_append]
  simp
theorem strTake (l : List UInt8) (b : Nat) : (⟨l.toArray⟩ : ByteArray).extract 0 b = ⟨(l.take b).toArray⟩ := by
  apply ByteArray.ext
  rw [ByteArray.data_extract]
  simp
theorem slice_str (l : List UInt8) (b : Nat) (hb : b ≤ l.length) (W : World) :
    (Instr.sliceAt 9 (.string ⟨l.toArray⟩) none (some (.int .i64 b)) none).run Try.prog W = .ok (.string ⟨(l.take b).toArray⟩) W := by
  rw [run_sliceAt_string _ _ _ _ _ _ Try.underlying9, run_slice_string_h _ _ _ Try.underlying9 _ _ (by omega) (by show (b : Int) ≤ ((l.toArray).size : Int); simpa using hb), ← strTake]
  rfl

set_option maxHeartbeats 8000000 in
theorem parts_law (A : Option Addr) (l : List UInt8) (c : Nat) (z : Int) (w : World) (hr : Rd w w.heap.size A l c) :
    Calls Try.prog 6 #[.agg #[.slice A l.length c, .int .i64 z]] w fun e w' => e = .returned (.bool true) ∧ Below w.heap.size w w' := by
  obtain ⟨n, hn⟩ : ∃ n, n = l.length := ⟨_, rfl⟩
  rw [← hn]
  have HN := keepd hn
  have HR0 := keepd hr
  obtain ⟨m, hm⟩ : ∃ m, (fewL l).length = m := ⟨_, rfl⟩
  have HM := keepd hm
  have hm1 : m ≤ 4100 := by rw [← hm]; exact (few_le l).1
  clear hn hr hm
  go_enter Try.func6, Try.ntmps6
  go_upto_region 1 with fail
  generalize hV : w.alloc (.cells #[.slice A n c, .int .i64 z] 24) = V
  obtain ⟨H, HB⟩ := line_new _ _ _ _ hV
  obtain ⟨k0, k1, k2, k3, kt⟩ := line_facts H.out
  have CF := keepd (few_any A l n c m z V HN.out (HR0.out.at_ HB.out) HM.out)
  clear hV
  go_wp2_with fail
  with_reducible refine CF.out.mono ?_
  rintro e w1 ⟨rfl, hb1⟩
  have H1 := keepd (SR.call H.out hb1 H.out.lt)
  have HB1 := keepd (bCall HB.out hb1)
  obtain ⟨k0, k1, k2, k3, kt⟩ := line_facts H1.out
  clear hb1 CF H HB
  go_upto_region 2 with fail
  generalize hV : (w1.setCell ⟨w.heap.size, 0, none⟩ (.slice A m c)).setCell ⟨w.heap.size, 1, none⟩ (.int .i64 z) = V
  obtain ⟨H, HB⟩ := few_set (Nat.le_refl _) H1.out HB1.out _ hV
  have HR := keepd (HR0.out.few.at_ HB.out)
  have HR0x := keepd HR0.out.few
  generalize fewL l = x at *
  obtain ⟨k0, k1, k2, k3, kt⟩ := line_facts H.out
  clear hV H1 HB1 HR0 HN
  cases hv : mayV m z
  case false =>
    have CK := keepd (check_bad A m c z V hv)
    go_wp2_with fail
    with_reducible refine CK.out.mono ?_
    rintro e w2 ⟨rfl, hb2⟩
    have HB2 := keepd (bCall HB.out hb2)
    clear hb2
    go_wp2_with fail
    with_reducible refine (awake_any _).mono ?_
    rintro e wz ⟨rfl, hbz⟩
    have HBz := keepd (bCall HB2.out hbz)
    clear hbz
    go_wp2_with fail
    go_ret
    exact ⟨rfl, HBz.out⟩
  obtain ⟨h4, t, rfl, ht⟩ := mayV_inv hv
  have CK := keepd (check_ok A m c t V h4 ht)
  clear hv hm1
  have htx : t ≤ x.length := by rw [HM.out]; exact ht
  obtain ⟨b, hb⟩ : ∃ b, backL x t = b := ⟨_, rfl⟩
  obtain ⟨o, ho⟩ : ∃ o, onL x t = o := ⟨_, rfl⟩
  have b1 : b ≤ t := by rw [← hb]; exact back_le x t
  have o1 : t ≤ o := by rw [← ho]; exact on_ge x t
  have o2 : o ≤ m := by rw [← ho, ← HM.out]; exact on_le x htx
  have HBK := keepd hb
  have HON := keepd ho
  clear hb ho
  go_wp2_with fail
  with_reducible refine CK.out.mono ?_
  rintro e w2 ⟨rfl, hb2⟩
  have HB2 := keepd (bCall HB.out hb2)
  have H2 := keepd (SR.call H.out hb2 H.out.lt)
  have HR2 := keepd (HR.out.at_ hb2)
  clear hb2 CK k0 k1 k2 k3 kt H HR HB
  obtain ⟨A2, kk, dd, hkk, hrr, hsl⟩ := tail_of (t := t) HM.out.symm HR2.out ht
  have hc1 := HR2.out.len
  have hc2 := hc1.2
  replace hc1 := hc1.1
  rw [HM.out] at hc1
  unfold maxLen at hc2
  have htc : t ≤ c := by omega
  have htc1 : (t : Int) ≤ (c : Int) := by omega
  have htc2 : (0 : Int) ≤ (t : Int) := by omega
  have htl : t = (x.take t).length := by rw [List.length_take]; omega
  obtain ⟨sL, hsL⟩ : ∃ s : ByteArray, (⟨(x.take t).toArray⟩ : ByteArray) = s := ⟨_, rfl⟩
  obtain ⟨sR, hsR⟩ : ∃ s : ByteArray, (⟨(x.drop t).toArray⟩ : ByteArray) = s := ⟨_, rfl⟩
  obtain ⟨sB, hsB⟩ : ∃ s : ByteArray, (⟨(x.take b).toArray⟩ : ByteArray) = s := ⟨_, rfl⟩
  obtain ⟨sO, hsO⟩ : ∃ s : ByteArray, (⟨(x.drop o).toArray⟩ : ByteArray) = s := ⟨_, rfl⟩
  obtain ⟨sC, hsC⟩ : ∃ s : ByteArray, (⟨(x.take b ++ x.drop t).toArray⟩ : ByteArray) = s := ⟨_, rfl⟩
  obtain ⟨sD, hsD⟩ : ∃ s : ByteArray, (⟨(x.take t ++ x.drop o).toArray⟩ : ByteArray) = s := ⟨_, rfl⟩
  have app1 : sB ++ sR = sC := by rw [← hsB, ← hsR, ← hsC, strApp]
  have app2 : sL ++ sO = sD := by rw [← hsL, ← hsO, ← hsD, strApp]
  have siz1 : ¬ 9223372036854775807 < sB.size + sR.size := by
    rw [← hsB, ← hsR]
    show ¬ 9223372036854775807 < (x.take b).toArray.size + (x.drop t).toArray.size
    simp only [List.size_toArray, List.length_take, List.length_drop]
    have := HM.out
    omega
  have siz2 : ¬ 9223372036854775807 < sL.size + sO.size := by
    rw [← hsL, ← hsO]
    show ¬ 9223372036854775807 < (x.take t).toArray.size + (x.drop o).toArray.size
    simp only [List.size_toArray, List.length_take, List.length_drop]
    have := HM.out
    omega
  have siz1' : ¬ (sB.size + sR.size > 9223372036854775807) := siz1
  have siz2' : ¬ (sL.size + sO.size > 9223372036854775807) := siz2
  have sst : ∀ W, (Instr.sliceAt 9 (.string sL) none (some (.int .i64 b)) none).run Try.prog W = .ok (.string sB) W := fun W => by
    have := slice_str (x.take t) b (by rw [List.length_take]; omega) W
    rw [List.take_take, Nat.min_eq_left b1, hsL, hsB] at this
    exact this
  have SST := keepd sst
  have cvL : ∀ y9 : Gr w2, (convert 22 9 (.slice A t c)).run Try.prog y9.W = .ok (.string sL) y9.W := fun y9 => by
    have := conv_str ((HR2.out.take t).at_ y9.h)
    rw [← htl, hsL] at this
    exact this
  have cvR : ∀ y9 : Gr w2, (convert 22 9 (.slice A2 kk dd)).run Try.prog y9.W = .ok (.string sR) y9.W := fun y9 => by
    have := conv_str (hrr.at_ y9.h)
    rw [← hkk, hsR] at this
    exact this
  obtain ⟨g0, g1⟩ := H2.out.gr
  clear hrr hkk htl sst
  have APP := keepd (And.intro app1 app2)
  have SIZ := keepd (And.intro siz1 siz2)
  have HSL := keepd hsL
  have HSR := keepd hsR
  have HSO := keepd hsO
  have HSC := keepd hsC
  have HSD := keepd hsD
  clear app1 app2 siz1 siz2 siz1' siz2' hsL hsR hsO hsC hsD hsB
  go_wp2_with fail
  refine wp_region_gr (by kernel_rfl) (by kernel_rfl) ?_
  repeat
    refine wpQuiet_step (fun K hK => ?_)
    first
      | (refine gr_want (by rfl) ?_
         go_simp
         first
           | (refine hK _ ?_; clear hK K)
           | (apply Exists.intro
              refine ⟨fun _ => ?_, hK _ ?_⟩
              (fail)
              clear hK K))
      | (refine gr_skip (by rfl) ?_
         go_simp
         refine hK _ ?_
         clear hK K)
  refine wpQuiet_nil ?_
  intro y9
  have HB3 := keepd (bCall HB2.out y9.h)
  have HG := keepd (SR.call H2.out y9.h H2.out.lt)
  have HR3 := keepd (HR2.out.at_ y9.h)
  obtain ⟨w3, hw3⟩ : ∃ w3, y9.W = w3 := ⟨_, rfl⟩
  rw [hw3] at HB3 HG HR3
  rw [hw3]
  clear hw3 g0 g1 cvL cvR HB2 H2 HR2 hsl
  obtain ⟨ya, hya⟩ : ∃ y, x.drop t = y := ⟨_, rfl⟩
  obtain ⟨pa, hpa⟩ : ∃ p, ya.length = p := ⟨_, rfl⟩
  have hdo : doL x t 29 = some (ya, (0 : Nat)) := by rw [← hya]; simp [doL]
  have CD := keepd (do_any A x ya m c t (0 : Nat) pa 29 w3 HM.out.symm HR3.out h4 ht hdo hpa)
  have HYa := keepd (And.intro hya hpa)
  obtain ⟨k0, k1, _, _, _⟩ := line_facts HG.out
  clear hdo hya hpa
  go_wp2_with fail
  with_reducible refine CD.out.mono ?_
  rintro e w5 ⟨⟨Ba, ea, rfl, ho⟩, hb5⟩
  have HO5 := keepd ho.rdOf
  clear CD ho
  go_upto_region 6 with fail
  generalize hV5 : w5.alloc (.cells #[.slice Ba pa ea, .int .i64 0] 24) = Va
  obtain ⟨Ha, HBV, _⟩ := line_new1 _ _ _ _ hV5
  have hb := bCall hb5 HBV.out
  have Qa := keepd (HO5.out.at_ HBV.out)
  replace HG := keepd (SR.call HG.out hb HG.out.lt)
  replace HR3 := keepd (HR3.out.at_ hb)
  replace HB3 := keepd (bCall HB3.out hb)
  clear hV5 hb hb5 HO5 HBV k0 k1
  obtain ⟨yb, hyb⟩ : ∃ y, x.take t = y := ⟨_, rfl⟩
  obtain ⟨pb, hpb⟩ : ∃ p, yb.length = p := ⟨_, rfl⟩
  have hdo : doL x t 30 = some (yb, t) := by rw [← hyb]; simp [doL]
  have CD := keepd (do_any A x yb m c t t pb 30 Va HM.out.symm HR3.out h4 ht hdo hpb)
  have HYb := keepd (And.intro hyb hpb)
  obtain ⟨k0, k1, _, _, _⟩ := line_facts HG.out
  clear hdo hyb hpb
  go_wp2_with fail
  with_reducible refine CD.out.mono ?_
  rintro e w5 ⟨⟨Bb, eb, rfl, ho⟩, hb5⟩
  have HO5 := keepd ho.rdOf
  clear CD ho
  go_upto_region 7 with fail
  generalize hV5 : w5.alloc (.cells #[.slice Bb pb eb, .int .i64 (t : Int)] 24) = Vb
  obtain ⟨Hb, HBV, _⟩ := line_new1 _ _ _ _ hV5
  have hb := bCall hb5 HBV.out
  have Qb := keepd (HO5.out.at_ HBV.out)
  replace HG := keepd (SR.call HG.out hb HG.out.lt)
  replace HR3 := keepd (HR3.out.at_ hb)
  replace HB3 := keepd (bCall HB3.out hb)
  replace Ha := keepd (SR.call Ha.out hb Ha.out.lt)
  replace Qa := keepd (Qa.out.at_ hb)
  clear hV5 hb hb5 HO5 HBV k0 k1
  obtain ⟨yc, hyc⟩ : ∃ y, x.take b ++ x.drop t = y := ⟨_, rfl⟩
  obtain ⟨pc, hpc⟩ : ∃ p, yc.length = p := ⟨_, rfl⟩
  have hdo : doL x t 12 = some (yc, b) := by rw [← hyc]; rw [← HBK.out]; simp [doL]
  have CD := keepd (do_any A x yc m c t b pc 12 Vb HM.out.symm HR3.out h4 ht hdo hpc)
  have HYc := keepd (And.intro hyc hpc)
  obtain ⟨k0, k1, _, _, _⟩ := line_facts HG.out
  clear hdo hyc hpc
  go_wp2_with fail
  with_reducible refine CD.out.mono ?_
  rintro e w5 ⟨⟨Bc, ec, rfl, ho⟩, hb5⟩
  have HO5 := keepd ho.rdOf
  clear CD ho
  go_upto_region 8 with fail
  generalize hV5 : w5.alloc (.cells #[.slice Bc pc ec, .int .i64 (b : Int)] 24) = Vc
  obtain ⟨Hc, HBV, _⟩ := line_new1 _ _ _ _ hV5
  have hb := bCall hb5 HBV.out
  have Qc := keepd (HO5.out.at_ HBV.out)
  replace HG := keepd (SR.call HG.out hb HG.out.lt)
  replace HR3 := keepd (HR3.out.at_ hb)
  replace HB3 := keepd (bCall HB3.out hb)
  replace Ha := keepd (SR.call Ha.out hb Ha.out.lt)
  replace Qa := keepd (Qa.out.at_ hb)
  replace Hb := keepd (SR.call Hb.out hb Hb.out.lt)
  replace Qb := keepd (Qb.out.at_ hb)
  clear hV5 hb hb5 HO5 HBV k0 k1
  obtain ⟨yd, hyd⟩ : ∃ y, x.take t ++ x.drop o = y := ⟨_, rfl⟩
  obtain ⟨pd, hpd⟩ : ∃ p, yd.length = p := ⟨_, rfl⟩
  have hdo : doL x t 28 = some (yd, t) := by rw [← hyd]; rw [← HON.out]; simp [doL]
  have CD := keepd (do_any A x yd m c t t pd 28 Vc HM.out.symm HR3.out h4 ht hdo hpd)
  have HYd := keepd (And.intro hyd hpd)
  obtain ⟨k0, k1, _, _, _⟩ := line_facts HG.out
  clear hdo hyd hpd
  go_wp2_with fail
  with_reducible refine CD.out.mono ?_
  rintro e w5 ⟨⟨Bd, ed, rfl, ho⟩, hb5⟩
  have HO5 := keepd ho.rdOf
  clear CD ho
  go_upto_region 9 with fail
  generalize hV5 : w5.alloc (.cells #[.slice Bd pd ed, .int .i64 (t : Int)] 24) = Vd
  obtain ⟨Hd, HBV, _⟩ := line_new1 _ _ _ _ hV5
  have hb := bCall hb5 HBV.out
  have Qd := keepd (HO5.out.at_ HBV.out)
  replace HG := keepd (SR.call HG.out hb HG.out.lt)
  replace HR3 := keepd (HR3.out.at_ hb)
  replace HB3 := keepd (bCall HB3.out hb)
  replace Ha := keepd (SR.call Ha.out hb Ha.out.lt)
  replace Qa := keepd (Qa.out.at_ hb)
  replace Hb := keepd (SR.call Hb.out hb Hb.out.lt)
  replace Qb := keepd (Qb.out.at_ hb)
  replace Hc := keepd (SR.call Hc.out hb Hc.out.lt)
  replace Qc := keepd (Qc.out.at_ hb)
  clear hV5 hb hb5 HO5 HBV k0 k1
  obtain ⟨ye, hye⟩ : ∃ y, ([] : List UInt8) = y := ⟨_, rfl⟩
  obtain ⟨pe, hpe⟩ : ∃ p, ye.length = p := ⟨_, rfl⟩
  have hdo : doL x t 11 = some (ye, (0 : Nat)) := by rw [← hye]; simp [doL]
  have CD := keepd (do_any A x ye m c t (0 : Nat) pe 11 Vd HM.out.symm HR3.out h4 ht hdo hpe)
  have HYe := keepd (And.intro hye hpe)
  obtain ⟨k0, k1, _, _, _⟩ := line_facts HG.out
  clear hdo hye hpe
  go_wp2_with fail
  with_reducible refine CD.out.mono ?_
  rintro e w5 ⟨⟨Be, ee, rfl, ho⟩, hb5⟩
  have HO5 := keepd ho.rdOf
  clear CD ho
  go_upto_region 10 with fail
  generalize hV5 : w5.alloc (.cells #[.slice Be pe ee, .int .i64 0] 24) = Ve
  obtain ⟨He, HBV, _⟩ := line_new1 _ _ _ _ hV5
  have hb := bCall hb5 HBV.out
  have Qe := keepd (HO5.out.at_ HBV.out)
  replace HG := keepd (SR.call HG.out hb HG.out.lt)
  replace HR3 := keepd (HR3.out.at_ hb)
  replace HB3 := keepd (bCall HB3.out hb)
  replace Ha := keepd (SR.call Ha.out hb Ha.out.lt)
  replace Qa := keepd (Qa.out.at_ hb)
  replace Hb := keepd (SR.call Hb.out hb Hb.out.lt)
  replace Qb := keepd (Qb.out.at_ hb)
  replace Hc := keepd (SR.call Hc.out hb Hc.out.lt)
  replace Qc := keepd (Qc.out.at_ hb)
  replace Hd := keepd (SR.call Hd.out hb Hd.out.lt)
  replace Qd := keepd (Qd.out.at_ hb)
  clear hV5 hb hb5 HO5 HBV k0 k1
  obtain ⟨k0, k1, _, _, _⟩ := line_facts HG.out
  obtain ⟨a0, a1, _, _, _⟩ := line_facts Ha.out
  obtain ⟨b0, b1, _, _, _⟩ := line_facts Hb.out
  obtain ⟨c0, c1, _, _, _⟩ := line_facts Hc.out
  obtain ⟨d0, d1, _, _, _⟩ := line_facts Hd.out
  obtain ⟨e0, e1, _, _, _⟩ := line_facts He.out
  have cva := conv_str Qa.out
  rw [HYa.out.2, ← HYa.out.1, HSR.out] at cva
  have cvb := conv_str Qb.out
  rw [HYb.out.2, ← HYb.out.1, HSL.out] at cvb
  have hpe : pe = 0 := by rw [← HYe.out.2, ← HYe.out.1]; rfl
  have CB := keepd fun y : Gr Ve => back_any A x m c t b y.W HM.out.symm (HR3.out.at_ y.h) h4 ht HBK.out
  have CO := keepd fun y : Gr Ve => on_any A x m c t o y.W HM.out.symm (HR3.out.at_ y.h) h4 ht HON.out
  subst hpe
  go_wp2_with fail
  obtain ⟨g0, g1⟩ := HG.out.gr
  clear k0 k1 a0 a1 b0 c0 c1 d0 d1 e0 e1 cva cvb
  refine wp_region_gr (by kernel_rfl) (by kernel_rfl) ?_
  repeat
    refine wpQuiet_step (fun K hK => ?_)
    first
      | (refine gr_want (by rfl) ?_
         go_simp
         first
           | (refine hK _ ?_; clear hK K)
           | (apply Exists.intro
              refine ⟨fun _ => ?_, hK _ ?_⟩
              (first | (go_at_call 16; exact Gr.call (CB.out _)) | (go_at_call 17; exact Gr.call (CO.out _)))
              clear hK K))
      | (refine gr_skip (by rfl) ?_
         go_simp
         refine hK _ ?_
         clear hK K)
  refine wpQuiet_nil ?_
  intro y9
  replace HG := keepd (SR.call HG.out y9.h HG.out.lt)
  replace Hc := keepd (SR.call Hc.out y9.h Hc.out.lt)
  replace Hd := keepd (SR.call Hd.out y9.h Hd.out.lt)
  replace Qc := keepd (Qc.out.at_ y9.h)
  have Rd_ := keepd (Qd.out.at_ y9.h)
  replace HR3 := keepd (HR3.out.at_ y9.h)
  replace HB3 := keepd (bCall HB3.out y9.h)
  obtain ⟨w6, hw6⟩ : ∃ w6, y9.W = w6 := ⟨_, rfl⟩
  rw [hw6] at HG Hc Hd Qc Rd_ HR3 HB3
  rw [hw6]
  clear hw6 g0 g1 CB CO Ha Hb He Qa Qb Qe Qd
  obtain ⟨k0, k1, _, _, _⟩ := line_facts HG.out
  have d0' : ¬ (b : Int) < 0 := by omega
  have d1' : ¬ (b : Int) > (t : Int) := by omega
  have d2' : ¬ (t : Int) < (b : Int) := by omega
  have d3' : ¬ (o : Int) < (t : Int) := by omega
  have d4' : ¬ (o : Int) > (m : Int) := by omega
  have d5' : ¬ (m : Int) < (o : Int) := by omega
  have n1' : ¬ t < b := by omega
  have n2' : ¬ o < t := by omega
  have n3' : ¬ m < o := by omega
  go_wp2_with fail
  obtain ⟨A3, kk, dd, hkk, hrr, hsl⟩ := tail_of (t := o) HM.out.symm HR3.out o2
  obtain ⟨g0, g1⟩ := HG.out.gr
  obtain ⟨g2, g3⟩ := Hc.out.gr
  obtain ⟨g4, g5⟩ := Hd.out.gr
  have cvc : ∀ y9 : Gr w6, (convert 22 9 (.slice Bc pc ec)).run Try.prog y9.W = .ok (.string sC) y9.W := fun y9 => by
    have := conv_str (Qc.out.at_ y9.h)
    rw [HYc.out.2, ← HYc.out.1, HSC.out] at this
    exact this
  have cvd : ∀ y9 : Gr w6, (convert 22 9 (.slice Bd pd ed)).run Try.prog y9.W = .ok (.string sD) y9.W := fun y9 => by
    have := conv_str (Rd_.out.at_ y9.h)
    rw [HYd.out.2, ← HYd.out.1, HSD.out] at this
    exact this
  have cvo : ∀ y9 : Gr w6, (convert 22 9 (.slice A3 kk dd)).run Try.prog y9.W = .ok (.string sO) y9.W := fun y9 => by
    have := conv_str (hrr.at_ y9.h)
    rw [← hkk, HSO.out] at this
    exact this
  obtain ⟨app1, app2⟩ := APP.out
  obtain ⟨siz1, siz2⟩ := SIZ.out
  have siz1' : ¬ (sB.size + sR.size > 9223372036854775807) := siz1
  have siz2' : ¬ (sL.size + sO.size > 9223372036854775807) := siz2
  have sst := SST.out
  clear hrr hkk k0 k1
  refine wp_region_gr (by kernel_rfl) (by kernel_rfl) ?_
  repeat
    refine wpQuiet_step (fun K hK => ?_)
    first
      | (refine gr_want (by rfl) ?_
         go_simp
         first
           | (refine hK _ ?_; clear hK K)
           | (apply Exists.intro
              refine ⟨fun _ => ?_, hK _ ?_⟩
              (go_at_call 18; exact Gr.call (awake_any _))
              clear hK K))
      | (refine gr_skip (by rfl) ?_
         go_simp
         refine hK _ ?_
         clear hK K)
  refine wpQuiet_nil ?_
  intro y9
  have HBz := keepd (bCall HB3.out y9.h)
  go_wp2_with fail
  go_ret
  exact ⟨rfl, HBz.out⟩

end Go.Proofs.Ytbkpihegagflaaa
