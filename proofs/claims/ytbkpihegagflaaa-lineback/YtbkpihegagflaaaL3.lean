/-
  LineBack's walk. No conditions beyond those each theorem states.
-/
import Derived.Test.YtbkpihegagflaaaL0
import Derived.Test.YtbkpihegagflaaaP2
namespace Go.Proofs.Ytbkpihegagflaaa
open Go.RowKit
set_option maxRecDepth 100000

theorem slice_both (A : Option Addr) (n c l h : Nat) (hl : l ≤ h) (hh : h ≤ c) (W : World) :
    (Instr.sliceAt 22 (.slice A n c) (some (.int .i64 l)) (some (.int .i64 h)) none).run Try.prog W = .ok (.slice (if c = l then A else A.map (·.add l)) (h - l) (c - l)) W := by
  have hs : ∀ W : World, (sizeOf (Try.prog.elem 22)).run Try.prog W = .ok 1 W := fun W => by kernel_rfl
  rw [run_sliceAt_slice _ _ _ _ _ _ (by kernel_rfl), run_slice_lh _ _ _ _ _ (by kernel_rfl) _ _ _ _ (by omega) (by omega) (by omega), hs]
  simp [sliced, Result.andThen]
theorem slice_to (A : Option Addr) (n c h : Nat) (hh : h ≤ c) (W : World) :
    (Instr.sliceAt 22 (.slice A n c) none (some (.int .i64 h)) none).run Try.prog W = .ok (.slice A h c) W := by
  have hs : ∀ W : World, (sizeOf (Try.prog.elem 22)).run Try.prog W = .ok 1 W := fun W => by kernel_rfl
  rw [run_sliceAt_slice _ _ _ _ _ _ (by kernel_rfl), run_slice_h _ _ _ _ _ (by kernel_rfl) _ _ (by omega) (by omega), hs]
  simp [sliced, Result.andThen]
  intro _
  cases A <;> simp [Addr.add]
theorem mid_of {w : World} {A : Option Addr} {l : List UInt8} {c n t s j : Nat} (hn : n = l.length) (hr : Rd w w.heap.size A l c) (ht : t ≤ s) (hs : s ≤ n) (hj : s - t = j) :
    ∃ A2 d, (∀ W, (Instr.sliceAt 22 (.slice A n c) (some (.int .i64 t)) (some (.int .i64 s)) none).run Try.prog W = .ok (.slice A2 j d) W) ∧ Rd w w.heap.size A2 ((l.drop t).take j) d := by
  subst hj
  exact ⟨_, _, fun W => slice_both A n c t s ht (by have := hr.1; omega) W, (hr.drop t (by omega)).take _⟩
theorem far24 {w1 : World} {b g : Nat} {ks : List Value} {x y : Value} (h : SR 24 w1 b ks) (hne : b ≠ g) : SR 24 ((w1.setCell ⟨g, 0, none⟩ x).setCell ⟨g, 1, none⟩ y) b ks :=
  (h.far (p := ⟨g, 0, none⟩) hne x).far (p := ⟨g, 1, none⟩) hne y

theorem rd_far {W : World} {g c : Nat} {A : Option Addr} {l : List UInt8} {x y : Value} (h : Rd W g A l c) : Rd ((W.setCell ⟨g, 0, none⟩ x).setCell ⟨g, 1, none⟩ y) g A l c :=
  h.below (set2_below (Below.refl g W) (Nat.le_refl g) x y) (Nat.le_refl _)

set_option maxHeartbeats 8000000 in
theorem back_law (A : Option Addr) (l : List UInt8) (c : Nat) (z : Int) (KA : Option Addr) (K2 : List UInt8) (ck : Nat) (w : World) (hr : Rd w w.heap.size A l c) (hr2 : Rd w w.heap.size KA K2 ck) :
    Calls Try.prog 5 #[.agg #[.slice A l.length c, .int .i64 z], .slice KA K2.length ck] w fun e w' => e = .returned (.bool true) ∧ Below w.heap.size w w' := by
  obtain ⟨n, hn⟩ : ∃ n, n = l.length := ⟨_, rfl⟩
  obtain ⟨n2, hn2⟩ : ∃ n2, n2 = K2.length := ⟨_, rfl⟩
  rw [← hn, ← hn2]
  have hck : n2 ≤ ck := by rw [hn2]; exact hr2.1
  have hck2 := hr2.2.1
  unfold maxLen at hck2
  obtain ⟨K, n1, hn1, hKR, hn30, hcase⟩ : ∃ K n1, n1 = K.length ∧ Rd w w.heap.size KA K ck ∧ n1 ≤ 30 ∧ ((n2 ≤ 30 ∧ n1 = n2) ∨ (30 < n2 ∧ n1 = 30)) := by
    rcases Nat.lt_or_ge 30 n2 with h | h
    · exact ⟨K2.take 30, 30, by rw [List.length_take]; omega, hr2.take 30, by omega, .inr ⟨h, rfl⟩⟩
    · exact ⟨K2, n2, hn2, hr2, h, .inl ⟨h, rfl⟩⟩
  have HKR := keepd hKR
  have HN1 := keepd hn1
  clear hr2 hn2 hKR hn1
  have HN := keepd hn
  have HR0 := keepd hr
  obtain ⟨m, hm⟩ : ∃ m, (fewL l).length = m := ⟨_, rfl⟩
  have HM := keepd hm
  have hm1 : m ≤ 4100 := by rw [← hm]; exact (few_le l).1
  clear hn hr hm
  go_enter Try.func5, Try.ntmps5
  go_upto_region 1 with fail
  generalize hV : w.alloc (.cells #[.slice A n c, .int .i64 z] 24) = V
  obtain ⟨H, HB⟩ := line_new _ _ _ _ hV
  obtain ⟨k0, k1, k2, k3, kt⟩ := line_facts H.out
  have CF := keepd (few_any A l n c m z V HN.out (HR0.out.at_ HB.out) HM.out)
  clear hV
  go_wp2_with fail
  with_reducible refine CF.out.mono ?_
  rintro e w1 ⟨rfl, hb1⟩
  have H1 := keepd (SR.call H.out hb1 H.out.lt)
  have HB1 := keepd (bCall HB.out hb1)
  obtain ⟨k0, k1, k2, k3, kt⟩ := line_facts H1.out
  clear hb1 CF H HB
  go_upto_region 2 with fail
  generalize hV : (w1.setCell ⟨w.heap.size, 0, none⟩ (.slice A m c)).setCell ⟨w.heap.size, 1, none⟩ (.int .i64 z) = V
  obtain ⟨H, HB⟩ := few_set (Nat.le_refl _) H1.out HB1.out _ hV
  have HR := keepd (HR0.out.few.at_ HB.out)
  have HR0x := keepd HR0.out.few
  generalize fewL l = x at *
  obtain ⟨k0, k1, k2, k3, kt⟩ := line_facts H.out
  clear hV H1 HB1 HR0 HN
  rcases hcase with ⟨q1, rfl⟩ | ⟨q1, q2⟩
  · have u0 : ¬ (n1 : Int) > 30 := by omega
    have u1 : ¬ (30 : Int) < (n1 : Int) := by omega
    have u2 : ¬ 30 < n1 := by omega
    cases hv : mayV m z
    case false =>
      have CK := keepd (check_bad A m c z V hv)
      go_wp2_with fail
      with_reducible refine CK.out.mono ?_
      rintro e w2 ⟨rfl, hb2⟩
      have HB2 := keepd (bCall HB.out hb2)
      clear hb2
      go_wp2_with fail
      with_reducible refine (awake_any _).mono ?_
      rintro e wz ⟨rfl, hbz⟩
      have HBz := keepd (bCall HB2.out hbz)
      clear hbz
      go_wp2_with fail
      go_ret
      exact ⟨rfl, HBz.out⟩
    obtain ⟨h4, t, rfl, ht⟩ := mayV_inv hv
    have CK := keepd (check_ok A m c t V h4 ht)
    clear hv hm1
    go_wp2_with fail
    with_reducible refine CK.out.mono ?_
    rintro e w2 ⟨rfl, hb2⟩
    have HB2 := keepd (bCall HB.out hb2)
    have H2 := keepd (SR.call H.out hb2 H.out.lt)
    have HR2 := keepd (HR.out.at_ hb2)
    have HTM : Hid (t ≤ x.length) := by show _ ≤ _; rw [HM.out]; exact ht
    obtain ⟨k0, k1, k2, k3, kt⟩ := line_facts H2.out
    have HW2 := keepd kt
    clear hb2 CK HB H HR
    go_upto_region 7 with fail
    generalize hV7 : w2.alloc (.cells #[.slice A m c, .int .i64 (t : Int)] 24) = V7
    obtain ⟨HG5, HBV, _⟩ := line_new1 _ _ _ _ hV7
    have HB2' := keepd (bCall HB2.out HBV.out)
    have HG2 := keepd (SR.call H2.out HBV.out H2.out.lt)
    have HR2' := keepd (HR2.out.at_ HBV.out)
    clear HB2 HR2 H2 HBV hV7 k0 k1 k2 k3 kt
    have HB2 := HB2'
    have HR2 := HR2'
    clear HB2' HR2'
    go_wp2_with fail
    go_loopw [6, 7] (fun v6 v7 wr => ∃ (k j : Nat) (B : Option Addr) (y : List UInt8) (p d s : Nat), k ≤ n1 ∧ v7 = .int .i64 k ∧ v6 = .int .i64 j ∧ Hid (j = min k (4096 - m)) ∧ Hid (y = typL x t K j ∧ s = t + j ∧ p = y.length) ∧ Hid (SR 24 wr w2.heap.size [.slice B p d, .int .i64 (s : Int)]) ∧ Hid (SR 24 wr w.heap.size [.slice A m c, .int .i64 (t : Int)]) ∧ Hid (Rd wr wr.heap.size B y d) ∧ Hid (Below w.heap.size w wr)) (fun _ v7 _ => n1 - (intOf v7).toNat)
    case atStart => exact ⟨0, 0, A, x, m, c, t, by omega, rfl, rfl, keepd (by omega), keepd ⟨(typL_zero x t K).symm, rfl, HM.out.symm⟩, HG5, HG2, HR2, HB2⟩
    clear HG5 HG2 HR2 HB2
    case round =>
      obtain ⟨k, j, B, y, p, d, s, hk, rfl, rfl, HJ, HY, HL, HG, HR, HB⟩ := hrel
      have hj1 : j ≤ k := by have := HJ.out; omega
      have hpj : p = m + j := by
        obtain ⟨e1, _, e3⟩ := HY.out
        rw [e3, e1, typL_len HTM.out (by rw [← HN1.out]; omega), HM.out]
      have hsj : s = t + j := HY.out.2.1
      have hp4 : p ≤ 4096 := by have := HJ.out; omega
      have hsp : s ≤ p := by omega
      have HPJ := keepd hpj
      have HSJ := keepd hsj
      have hj4 : j ≤ 30 := by omega
      clear hpj hsj
      rcases Nat.lt_or_ge k n1 with hlt | hge
      · have z0 : (k : Int) < (n1 : Int) := by omega
        have z2 : (0 : Int) ≤ (k : Int) := by omega
        obtain ⟨fb, fo, hKA, hfb⟩ := HKR.out.addr (by rw [← HN1.out]; omega)
        cases hKA
        have f0 := (HKR.out.at_ HB.out).cellk (k := k) (by rw [← HN1.out]; exact hlt)
        have F0 := keepd f0
        have HV := keepd (rfl : K.getD k 0 = K.getD k 0)
        obtain ⟨v, hv⟩ : ∃ v, K.getD k 0 = v := ⟨_, rfl⟩
        rw [hv] at f0 F0
        replace HV := keepd hv
        clear hv
        have fbl : fb < wr.heap.size := Nat.lt_of_lt_of_le hfb HB.out.size
        obtain ⟨k0, k1, k2, k3, kt⟩ := line_facts HL.out
        have K0 := keepd k0
        have K1 := keepd k1
        have KT := keepd kt
        have hyl : p = y.length := HY.out.2.2
        have HYL := keepd hyl
        clear hyl
        by_cases hfull : m + j < 4096
        · have hjk : j = k := by have := HJ.out; omega
          obtain ⟨s1, hs1⟩ : ∃ s1, t + (j + 1) = s1 := ⟨_, rfl⟩
          obtain ⟨y1, hy1⟩ : ∃ y1, typL x t K (j + 1) = y1 := ⟨_, rfl⟩
          obtain ⟨p1, hp1⟩ : ∃ p1, y1.length = p1 := ⟨_, rfl⟩
          have hty : tyL y s 4096 false v = some (y1, s1) := by
            obtain ⟨e1, e2, _⟩ := HY.out
            rw [e1, e2, ← HV.out, ← hjk, ty_step HTM.out (by rw [← HN1.out]; omega) (by rw [HM.out]; omega), hy1, hs1]
          have HD := keepd fun (W : World) (hb : Below wr.heap.size wr W) => ty_any B y y1 p d s s1 p1 4096 false v W HYL.out (HR.out.at_ hb) hp4 hsp hty hp1
          have HY1 := keepd (And.intro hy1.symm (And.intro hs1.symm hp1.symm))
          have HJK := keepd hjk
          have hw : IntKind.i64.wrap ((j : Int) + 1) = (j : Int) + 1 := by rw [IntKind.wrap_i64]; omega
          clear hs1 hy1 hp1 hty hjk
          go_wp2_with fail
          go_cut [8, 9] from 35 to 44 (fun s8 s9 wx => ∃ (b8 : Nat) (B1 : Option Addr) (e1 : Nat), s8 = .pointer (some ⟨b8, 0, none⟩) ∧ s9 = .bool true ∧ Hid (Mid wr b8 B1 p1 e1 y1 (s1 : Int) wx))
          case first =>
            go_region_held3 (fun W => W.cell? ⟨w2.heap.size, 0, none⟩ = some (.slice B p d) ∧ W.cell? ⟨w2.heap.size, 1, none⟩ = some (.int .i64 (s : Int)) ∧ W.cell? ⟨fb, fo + k, none⟩ = some (.int .u8 (v.toNat : Int)) ∧ Below wr.heap.size wr W)
              ((refine sR K0.out K1.out F0.out KT.out fbl ?_; repeat (first | assumption | exact Below.refl _ _ | with_reducible refine Below.setCell ?_ (Nat.le_refl wr.heap.size) _ | with_reducible refine bAlloc ?_ _ | with_reducible refine Below.drew ?_)))
              (first | (go_at_call 11; (with_reducible refine (HD.out _ ?_).mono ?_); (focus (repeat (first | assumption | exact Below.refl _ _ | with_reducible refine bAlloc ?_ _ | with_reducible refine Below.drew ?_))); rintro e w4 ⟨⟨B1, e1, rfl, ho⟩, hb4⟩; have hbb : Below wr.heap.size wr w4 := (by first | exact noDrew hb4 | exact upD hb4); (first | (have HMid := keepd (mid_b (z := (s1 : Int)) ho hb4); obtain ⟨m0, m1, m2, m3, lt⟩ := z_of hb4) | have HMid := keepd (mid_a (wr := wr) (z := (s1 : Int)) ho (Nat.le_refl _) hbb)); clear ho))
            all_goals go_wp2_with fail
            all_goals go_meet
            all_goals exact ⟨_, _, _, rfl, rfl, HMid⟩
          case rest =>
            obtain ⟨b8, B1, e1, rfl, rfl, HMid⟩ := hcut
            obtain ⟨V3, hV3⟩ : ∃ V3, V3 = wc := ⟨_, rfl⟩
            subst hV3
            have H8 := keepd HMid.out.1
            have hb3 := HMid.out.2.2
            have HG5 := keepd (SR.call HL.out hb3 HL.out.lt)
            have HGG := keepd (SR.call HG.out hb3 HG.out.lt)
            have HB3 := keepd (bCall HB.out hb3)
            have hfin := few_set (w := w) (Nat.le_of_lt HW2.out) HG5.out HB3.out (x' := .slice B1 p1 e1) (y' := .int .i64 (s1 : Int)) _ rfl
            have hgf := keepd (far24 (x := .slice B1 p1 e1) (y := .int .i64 (s1 : Int)) HGG.out (Nat.ne_of_lt HW2.out))
            have hfr := keepd (rd_set HMid.out.2.1 KT.out (x := .slice B1 p1 e1) (y := .int .i64 (s1 : Int)))
            obtain ⟨k0, k1, k2, k3, kt⟩ := line_facts HG5.out
            obtain ⟨j0, j1, j2, j3, jt⟩ := line_facts H8.out
            clear hb3 f0 F0 K0 K1 KT HD
            go_wp2_with fail
            go_roundw
            case rel => exact ⟨k + 1, j + 1, B1, y1, p1, e1, s1, by omega, by go_num, by go_num, keepd (by have := HJK.out; omega), keepd HY1.out, hfin.1, hgf, hfr, hfin.2⟩
            case measure => simp [intOf]; omega
        · have hty : tyL y s 4096 false v = none := by
            obtain ⟨e1, e2, _⟩ := HY.out
            rw [e1, e2]
            exact ty_stop HTM.out (by rw [← HN1.out]; omega) (by rw [HM.out]; omega) v
          have HD := keepd fun (W : World) (hb : Below wr.heap.size wr W) => ty_none B y p d s 4096 false v W HYL.out (HR.out.at_ hb) hp4 hsp hty
          clear hty
          go_wp2_with fail
          go_cut [8, 9] from 35 to 44 (fun s8 s9 wx => ∃ (b8 : Nat) (B1 : Option Addr) (e1 : Nat), s8 = .pointer (some ⟨b8, 0, none⟩) ∧ s9 = .bool false ∧ Hid (Mid wr b8 B1 p e1 y (s : Int) wx))
          case first =>
            go_region_held3 (fun W => W.cell? ⟨w2.heap.size, 0, none⟩ = some (.slice B p d) ∧ W.cell? ⟨w2.heap.size, 1, none⟩ = some (.int .i64 (s : Int)) ∧ W.cell? ⟨fb, fo + k, none⟩ = some (.int .u8 (v.toNat : Int)) ∧ Below wr.heap.size wr W)
              ((refine sR K0.out K1.out F0.out KT.out fbl ?_; repeat (first | assumption | exact Below.refl _ _ | with_reducible refine Below.setCell ?_ (Nat.le_refl wr.heap.size) _ | with_reducible refine bAlloc ?_ _ | with_reducible refine Below.drew ?_)))
              (first | (go_at_call 11; (with_reducible refine (HD.out _ ?_).mono ?_); (focus (repeat (first | assumption | exact Below.refl _ _ | with_reducible refine bAlloc ?_ _ | with_reducible refine Below.drew ?_))); rintro e w4 ⟨⟨B1, e1, rfl, ho⟩, hb4⟩; have hbb : Below wr.heap.size wr w4 := (by first | exact noDrew hb4 | exact upD hb4); (first | (have HMid := keepd (mid_b (z := (s : Int)) ho hb4); obtain ⟨m0, m1, m2, m3, lt⟩ := z_of hb4) | have HMid := keepd (mid_a (wr := wr) (z := (s : Int)) ho (Nat.le_refl _) hbb)); clear ho))
            all_goals go_wp2_with fail
            all_goals go_meet
            all_goals exact ⟨_, _, _, rfl, rfl, HMid⟩
          case rest =>
            obtain ⟨b8, B1, e1, rfl, rfl, HMid⟩ := hcut
            obtain ⟨V3, hV3⟩ : ∃ V3, V3 = wc := ⟨_, rfl⟩
            subst hV3
            have H8 := keepd HMid.out.1
            have hb3 := HMid.out.2.2
            have HG5 := keepd (SR.call HL.out hb3 HL.out.lt)
            have HGG := keepd (SR.call HG.out hb3 HG.out.lt)
            have HB3 := keepd (bCall HB.out hb3)
            have hfin := few_set (w := w) (Nat.le_of_lt HW2.out) HG5.out HB3.out (x' := .slice B1 p e1) (y' := .int .i64 (s : Int)) _ rfl
            have hgf := keepd (far24 (x := .slice B1 p e1) (y := .int .i64 (s : Int)) HGG.out (Nat.ne_of_lt HW2.out))
            have hfr := keepd (rd_set HMid.out.2.1 KT.out (x := .slice B1 p e1) (y := .int .i64 (s : Int)))
            obtain ⟨k0, k1, k2, k3, kt⟩ := line_facts HG5.out
            obtain ⟨j0, j1, j2, j3, jt⟩ := line_facts H8.out
            clear hb3 f0 F0 K0 K1 KT HD
            go_wp2_with fail
            go_roundw
            case rel => exact ⟨k + 1, j, B1, y, p, e1, s, by omega, by go_num, rfl, keepd (by have := HJ.out; omega), HY, hfin.1, hgf, hfr, hfin.2⟩
            case measure => simp [intOf]; omega
      · have z0 : ¬ (k : Int) < (n1 : Int) := by omega
        have z1 : ¬ k < n1 := by omega
        have hw1 : IntKind.i64.wrap ((t : Int) + (j : Int)) = (s : Int) := by rw [IntKind.wrap_i64]; have := HSJ.out; omega
        have hw2 : IntKind.i64.wrap ((m : Int) + (j : Int)) = (p : Int) := by rw [IntKind.wrap_i64]; have := HPJ.out; omega
        have hyp := HY.out.2.2
        obtain ⟨A3, d3, hsl, hr3⟩ := mid_of (t := t) (s := s) (j := j) hyp HR.out (by have := HSJ.out; omega) hsp (by have := HSJ.out; omega)
        have hjk : j ≤ ck := by omega
        have hjk1 : (j : Int) ≤ (ck : Int) := by omega
        have hjk2 : (0 : Int) ≤ (j : Int) := by omega
        have hoc : ((y.drop t).take j == K.take j) = true := by rw [HY.out.1, typL_mid HTM.out (by rw [← HN1.out]; omega)]; simp
        have hl1 : j = ((y.drop t).take j).length := by rw [HY.out.1, typL_mid HTM.out (by rw [← HN1.out]; omega), List.length_take, ← HN1.out]; omega
        have hl2 : j = (K.take j).length := by rw [List.length_take, ← HN1.out]; omega
        have CO := keepd fun y9 : Gr wr => octets_any A3 KA ((y.drop t).take j) (K.take j) j j d3 ck true y9.W hl1 hl2 (hr3.at_ y9.h) (((HKR.out.take j).at_ HB.out).at_ y9.h) hoc
        obtain ⟨g0, g1⟩ := HG.out.gr
        obtain ⟨g2, g3⟩ := HL.out.gr
        have hts : (t : Int) ≤ (s : Int) := by have := HSJ.out; omega
        clear hr3 hoc hl1 hl2 hyp
        go_wp2_with fail
        refine wp_region_gr (by kernel_rfl) (by kernel_rfl) ?_
        repeat
          refine wpQuiet_step (fun K hK => ?_)
          first
            | (refine gr_want (by rfl) ?_
               go_simp
               first
                 | (refine hK _ ?_; clear hK K)
                 | (apply Exists.intro
                    refine ⟨fun _ => ?_, hK _ ?_⟩
                    (first | (go_at_call 24; exact Gr.same (CO.out _)))
                    clear hK K))
            | (refine gr_skip (by rfl) ?_
               go_simp
               refine hK _ ?_
               clear hK K)
        refine wpQuiet_nil ?_
        intro y9
        have HGa := keepd (SR.call HG.out y9.h HG.out.lt)
        have HLa := keepd (SR.call HL.out y9.h HL.out.lt)
        have HRa := keepd (HR.out.at_ y9.h)
        have HBa := keepd (bCall HB.out y9.h)
        obtain ⟨w3, hw3⟩ : ∃ w3, y9.W = w3 := ⟨_, rfl⟩
        rw [hw3] at HGa HLa HRa HBa
        rw [hw3]
        clear hw3 g0 g1 g2 g3 CO HG HL HR HB hsl hw1 hw2
        go_wp2_with fail
        go_loopw [10] (fun vi wr => ∃ (i r : Nat) (B : Option Addr) (y : List UInt8) (p d s : Nat), i + r = j ∧ vi = .int .i64 i ∧ Hid (y = typL x t K r ∧ s = t + r ∧ p = y.length) ∧ Hid (SR 24 wr w2.heap.size [.slice B p d, .int .i64 (s : Int)]) ∧ Hid (SR 24 wr w.heap.size [.slice A m c, .int .i64 (t : Int)]) ∧ Hid (Rd wr wr.heap.size B y d) ∧ Hid (Below w.heap.size w wr)) (fun vi _ => j - (intOf vi).toNat)
        case atStart => exact ⟨0, j, B, y, p, d, s, by omega, rfl, keepd HY.out, HLa, HGa, HRa, HBa⟩
        clear HLa HGa HRa HBa
        case round =>
          obtain ⟨i, r, B', y', p', d', s', hir, rfl, HYr, HLr, HGr, HRr, HBr⟩ := hrel
          obtain ⟨k0, k1, k2, k3, kt⟩ := line_facts HLr.out
          rcases Nat.eq_zero_or_pos r with hr0 | hr0
          · have z5 : ¬ (i : Int) < (j : Int) := by omega
            have z6 : ¬ i < j := by omega
            have hyx : x = y' := by rw [HYr.out.1, hr0, typL_zero]
            have hts' : t = s' := by rw [HYr.out.2.1, hr0, Nat.add_zero]
            have hpm : m = p' := by rw [HYr.out.2.2, ← hyx, HM.out]
            subst hyx hts' hpm
            clear hir hr0 HYr
            obtain ⟨w6, hw6⟩ : ∃ W, W = wr := ⟨_, rfl⟩
            subst hw6
            have HW6 := keepd HLr.out.lt
            obtain ⟨j0, j1, _, _, _⟩ := line_facts HGr.out
            go_upto_region 24 with fail
            generalize hV6 : w6.alloc (.cells #[.slice A m c, .int .i64 (t : Int)] 24) = V6
            obtain ⟨H13, HBV6, _⟩ := line_new1 _ _ _ _ hV6
            have HAT6 := keepd (SR.call HLr.out HBV6.out HLr.out.lt)
            have HG6 := keepd (SR.call HGr.out HBV6.out HGr.out.lt)
            have HRX6 := keepd (HRr.out.below HBV6.out (Nat.le_refl _))
            have HB6 := keepd (bCall HBr.out HBV6.out)
            have HRA6 := keepd (HR0x.out.at_ HB6.out)
            clear hV6 HBV6 HLr HGr HRr HBr k0 k1 k2 k3 kt j0 j1
            go_wp2_with fail
            go_loopw [14] (fun vi wr => ∃ (k : Nat) (B : Option Addr) (y : List UInt8) (d s : Nat), k ≤ n1 ∧ vi = .int .i64 k ∧ Hid (y = ovL x t K k ∧ s = t + k ∧ t + k ≤ m) ∧ Hid (SR 24 wr w6.heap.size [.slice B m d, .int .i64 (s : Int)]) ∧ Hid (SR 24 wr w2.heap.size [.slice B' m d', .int .i64 (t : Int)]) ∧ Hid (SR 24 wr w.heap.size [.slice A m c, .int .i64 (t : Int)]) ∧ Hid (Rd wr wr.heap.size B y d) ∧ Hid (Rd wr w6.heap.size B' x d') ∧ Hid (Below w.heap.size w wr)) (fun vi _ => n1 - (intOf vi).toNat)
            case atStart => exact ⟨0, A, x, c, t, by omega, rfl, keepd ⟨(ovL_zero x t K).symm, rfl, ht⟩, H13, HAT6, HG6, HRA6, HRX6, HB6⟩
            clear H13 HAT6 HG6 HRA6 HRX6 HB6
            case round =>
              obtain ⟨k, B, y, d, s, hk, rfl, HYY, HL, HAT, HG, HR, HRX, HB⟩ := hrel
              have HSJ := keepd HYY.out.2.1
              have hsm : s ≤ m := by rw [HYY.out.2.1]; exact HYY.out.2.2
              rcases Nat.lt_or_ge k n1 with hlt | hge
              case inr =>
                have z0 : ¬ (k : Int) < (n1 : Int) := by omega
                have z1 : ¬ k < n1 := by omega
                have CS := keepd fun (W : World) (hb : Below wr.heap.size wr W) => same_any B' A x x m m d' c (t : Int) (t : Int) true W HM.out.symm HM.out.symm (HRX.out.below (hb.mono (Nat.le_of_lt HL.out.lt)) (Nat.le_trans (Nat.le_of_lt HL.out.lt) hb.size)) ((HR0x.out.at_ HB.out).at_ hb) (by simp)
                obtain ⟨k0, k1, _, _, _⟩ := line_facts HAT.out
                obtain ⟨j0, j1, _, _, _⟩ := line_facts HG.out
                go_wp2_with fail
                with_reducible refine (CS.out _ (Below.refl _ _)).mono ?_
                rintro e w8 ⟨rfl, hb8⟩
                have HB8 := keepd (bCall HB.out hb8)
                clear hb8
                go_wp2_with fail
                with_reducible refine (awake_any _).mono ?_
                rintro e wz ⟨rfl, hbz⟩
                have HBz := keepd (bCall HB8.out hbz)
                clear hbz
                go_wp2_with fail
                go_ret
                exact ⟨rfl, HBz.out⟩
              have hws : IntKind.i64.wrap ((t : Int) + (k : Int)) = (s : Int) := by rw [IntKind.wrap_i64]; have := HSJ.out; omega
              have z0 : (k : Int) < (n1 : Int) := by omega
              have z2 : (0 : Int) ≤ (k : Int) := by omega
              obtain ⟨k0, k1, k2, k3, kt⟩ := line_facts HL.out
              obtain ⟨j0, j1, _, _, _⟩ := line_facts HG.out
              rcases Nat.lt_or_ge s m with hs5 | hs5
              case inr =>
                have z3 : ¬ (s : Int) < (m : Int) := by omega
                have z4 : ¬ s < m := by omega
                have CS := keepd fun (W : World) (hb : Below wr.heap.size wr W) => same_any B' A x x m m d' c (t : Int) (t : Int) true W HM.out.symm HM.out.symm (HRX.out.below (hb.mono (Nat.le_of_lt HL.out.lt)) (Nat.le_trans (Nat.le_of_lt HL.out.lt) hb.size)) ((HR0x.out.at_ HB.out).at_ hb) (by simp)
                obtain ⟨k0, k1, _, _, _⟩ := line_facts HAT.out
                obtain ⟨j0, j1, _, _, _⟩ := line_facts HG.out
                go_wp2_with fail
                with_reducible refine (CS.out _ (Below.refl _ _)).mono ?_
                rintro e w8 ⟨rfl, hb8⟩
                have HB8 := keepd (bCall HB.out hb8)
                clear hb8
                go_wp2_with fail
                with_reducible refine (awake_any _).mono ?_
                rintro e wz ⟨rfl, hbz⟩
                have HBz := keepd (bCall HB8.out hbz)
                clear hbz
                go_wp2_with fail
                go_ret
                exact ⟨rfl, HBz.out⟩
              have z3 : (s : Int) < (m : Int) := by omega
              have z5 : (0 : Int) ≤ (s : Int) := by omega
              have K0 := keepd k0
              have K1 := keepd k1
              have KT := keepd kt
              obtain ⟨fb, fo, hKA, hfb⟩ := HKR.out.addr (by rw [← HN1.out]; omega)
              cases hKA
              have f0 := (HKR.out.at_ HB.out).cellk (k := k) (by rw [← HN1.out]; exact hlt)
              have F0 := keepd f0
              have HV := keepd (rfl : K.getD k 0 = K.getD k 0)
              obtain ⟨v, hv⟩ : ∃ v, K.getD k 0 = v := ⟨_, rfl⟩
              rw [hv] at f0 F0
              replace HV := keepd hv
              clear hv
              have fbl : fb < wr.heap.size := Nat.lt_of_lt_of_le hfb HB.out.size
              have hkx : t + k < x.length := by rw [HM.out, ← HSJ.out]; exact hs5
              have hkK : k < K.length := by rw [← HN1.out]; exact hlt
              obtain ⟨s1, hs1⟩ : ∃ s1, t + (k + 1) = s1 := ⟨_, rfl⟩
              obtain ⟨y1, hy1⟩ : ∃ y1, ovL x t K (k + 1) = y1 := ⟨_, rfl⟩
              have hp1 : y1.length = m := by rw [← hy1, ovL_len (by omega) (by omega), HM.out]
              have hyl : m = y.length := by rw [HYY.out.1, ovL_len (by omega) (by omega), HM.out]
              have hgk : y1.getD s 0 = v := by rw [← hy1, HSJ.out, ov_get hkx hkK, HV.out]
              have hty : tyL y s 0 true v = some (y1, s1) := by
                rw [HYY.out.1, HSJ.out, ← HV.out, ov_step hkx hkK, hy1, hs1]
              have HD := keepd fun (W : World) (hb : Below wr.heap.size wr W) => ty_any B y y1 m d s s1 m 0 true v W hyl (HR.out.at_ hb) h4 hsm hty hp1
              have HY1 := keepd (And.intro hy1.symm (And.intro hs1.symm (show t + (k + 1) ≤ m by have := HSJ.out; omega)))
              have HGK := keepd hgk
              have HP1 := keepd hp1
              clear hs1 hy1 hp1 hty hyl hgk hkx hkK
              go_wp2_with fail
              go_cut [15, 16] from 110 to 119 (fun s8 s9 wx => ∃ (b8 : Nat) (B1 : Option Addr) (e1 : Nat), s8 = .pointer (some ⟨b8, 0, none⟩) ∧ s9 = .bool true ∧ Hid (Mid wr b8 B1 m e1 y1 (s1 : Int) wx))
              case first =>
                go_region_held3 (fun W => W.cell? ⟨w6.heap.size, 0, none⟩ = some (.slice B m d) ∧ W.cell? ⟨w6.heap.size, 1, none⟩ = some (.int .i64 (s : Int)) ∧ W.cell? ⟨fb, fo + k, none⟩ = some (.int .u8 (v.toNat : Int)) ∧ Below wr.heap.size wr W)
                  ((refine sR K0.out K1.out F0.out KT.out fbl ?_; repeat (first | assumption | exact Below.refl _ _ | with_reducible refine Below.setCell ?_ (Nat.le_refl wr.heap.size) _ | with_reducible refine bAlloc ?_ _ | with_reducible refine Below.drew ?_)))
                  (first | (go_at_call 11; (with_reducible refine (HD.out _ ?_).mono ?_); (focus (repeat (first | assumption | exact Below.refl _ _ | with_reducible refine bAlloc ?_ _ | with_reducible refine Below.drew ?_))); rintro e w4 ⟨⟨B1, e1, rfl, ho⟩, hb4⟩; have hbb : Below wr.heap.size wr w4 := (by first | exact noDrew hb4 | exact upD hb4); (first | (have HMid := keepd (mid_b (z := (s1 : Int)) ho hb4); obtain ⟨m0, m1, m2, m3, lt⟩ := z_of hb4) | have HMid := keepd (mid_a (wr := wr) (z := (s1 : Int)) ho (Nat.le_refl _) hbb)); clear ho))
                all_goals go_wp2_with fail
                all_goals go_meet
                all_goals exact ⟨_, _, _, rfl, rfl, HMid⟩
              case rest =>
                obtain ⟨b8, B1, e1, rfl, rfl, HMid⟩ := hcut
                obtain ⟨V3, hV3⟩ : ∃ V3, V3 = wc := ⟨_, rfl⟩
                subst hV3
                have H8 := keepd HMid.out.1
                have hb3 := HMid.out.2.2
                have HL3 := keepd (SR.call HL.out hb3 HL.out.lt)
                have HA3 := keepd (SR.call HAT.out hb3 HAT.out.lt)
                have HG3 := keepd (SR.call HG.out hb3 HG.out.lt)
                have HRX3 := keepd (HRX.out.below (hb3.mono (Nat.le_of_lt KT.out)) (Nat.le_refl _))
                have HV36 := keepd (Nat.le_trans (Nat.le_of_lt KT.out) hb3.size)
                have HB3 := keepd (bCall HB.out hb3)
                have HKK := keepd (HKR.out.at_ HB3.out)
                have HO3 := keepd HMid.out.2.1
                obtain ⟨nb, no, hB1, _⟩ := HMid.out.rd.addr (by rw [HP1.out]; omega)
                cases hB1
                have q5 : ∀ y9 : Gr V3, y9.W.cell? ⟨nb, no + s, none⟩ = some (.int .u8 (v.toNat : Int)) := fun y9 => by
                  have := (HMid.out.rd.at_ y9.h).cellk (k := s) (by rw [HP1.out]; exact hs5)
                  rw [HGK.out] at this
                  exact this
                have q6 : ∀ y9 : Gr V3, y9.W.cell? ⟨fb, fo + k, none⟩ = some (.int .u8 (v.toNat : Int)) := fun y9 => by
                  have := (HKK.out.at_ y9.h).cellk (k := k) (by rw [← HN1.out]; exact hlt)
                  rw [HV.out] at this
                  exact this
                obtain ⟨q1', q2'⟩ := H8.out.gr
                obtain ⟨q3', q4'⟩ := HG3.out.gr
                have KTT := keepd KT.out
                clear hb3 f0 F0 K0 K1 KT HD k0 k1 k2 k3 kt j0 j1
                go_wp2_with fail
                refine wp_region_gr (by kernel_rfl) (by kernel_rfl) ?_
                repeat
                  refine wpQuiet_step (fun K hK => ?_)
                  first
                    | (refine gr_want (by rfl) ?_
                       go_simp
                       first
                         | (refine hK _ ?_; clear hK K)
                         | (apply Exists.intro
                            refine ⟨fun _ => ?_, hK _ ?_⟩
                            (fail)
                            clear hK K))
                    | (refine gr_skip (by rfl) ?_
                       go_simp
                       refine hK _ ?_
                       clear hK K)
                refine wpQuiet_nil ?_
                intro y9
                have H8b := keepd (SR.call H8.out y9.h H8.out.lt)
                have HLb := keepd (SR.call HL3.out y9.h HL3.out.lt)
                have HAb := keepd (SR.call HA3.out y9.h HA3.out.lt)
                have HGb := keepd (SR.call HG3.out y9.h HG3.out.lt)
                have HRXb := keepd (HRX3.out.below (y9.h.mono HV36.out) (Nat.le_refl _))
                have HOb := keepd (HO3.out.below y9.h)
                have HBb := keepd (bCall HB3.out y9.h)
                obtain ⟨w7, hw7⟩ : ∃ w7, y9.W = w7 := ⟨_, rfl⟩
                rw [hw7] at H8b HLb HAb HGb HRXb HOb HBb
                rw [hw7]
                clear hw7 q1' q2' q3' q4' q5 q6
                obtain ⟨k0, k1, k2, k3, kt⟩ := line_facts HLb.out
                obtain ⟨j0, j1, j2, j3, jt⟩ := line_facts H8b.out
                have hfin := few_set (w := w) (Nat.le_of_lt (Nat.lt_trans HW2.out HW6.out)) HLb.out HBb.out (x' := .slice (some ⟨nb, no, none⟩) m e1) (y' := .int .i64 (s1 : Int)) _ rfl
                have hgf := keepd (far24 (x := .slice (some ⟨nb, no, none⟩) m e1) (y := .int .i64 (s1 : Int)) HGb.out (Nat.ne_of_lt (Nat.lt_trans HW2.out HW6.out)))
                have haf := keepd (far24 (x := .slice (some ⟨nb, no, none⟩) m e1) (y := .int .i64 (s1 : Int)) HAb.out (Nat.ne_of_lt HW6.out))
                have hfr := keepd (rd_set HOb.out KTT.out (x := .slice (some ⟨nb, no, none⟩) m e1) (y := .int .i64 (s1 : Int)))
                have hxr := keepd (rd_far (x := .slice (some ⟨nb, no, none⟩) m e1) (y := .int .i64 (s1 : Int)) HRXb.out)
                go_wp2_with fail
                go_roundw
                case rel => exact ⟨k + 1, _, y1, e1, s1, by omega, by go_num, keepd HY1.out, hfin.1, haf, hgf, hfr, hxr, hfin.2⟩
                case measure => simp [intOf]; omega
          · obtain ⟨r, rfl⟩ : ∃ q, r = q + 1 := ⟨r - 1, by omega⟩
            have z5 : (i : Int) < (j : Int) := by omega
            have z6 : i < j := by omega
            have hrK : r + 1 ≤ K.length := by rw [← HN1.out]; omega
            obtain ⟨s1, hs1⟩ : ∃ s1, t + r = s1 := ⟨_, rfl⟩
            obtain ⟨y1, hy1⟩ : ∃ y1, typL x t K r = y1 := ⟨_, rfl⟩
            obtain ⟨p1, hp1⟩ : ∃ p1, y1.length = p1 := ⟨_, rfl⟩
            have hdo : doL y' s' 10 = some (y1, s1) := by
              obtain ⟨e1, e2, _⟩ := HYr.out
              rw [e1, e2, do_back HTM.out hrK, hy1, hs1]
            have hpl : p' = x.length + (r + 1) := by
              obtain ⟨e1, _, e3⟩ := HYr.out
              rw [e3, e1, typL_len HTM.out hrK]
            have CD := keepd (do_any B' y' y1 p' d' s' s1 p1 10 wr HYr.out.2.2 HRr.out (by have := HPJ.out; have := HM.out; omega) (by have := HYr.out.2.1; have := HTM.out; omega) hdo hp1)
            have HY1 := keepd (And.intro hy1.symm (And.intro hs1.symm hp1.symm))
            have KT := keepd kt
            clear hs1 hy1 hp1 hdo hpl hrK hr0
            have hw : IntKind.i64.wrap ((i : Int) + 1) = (i : Int) + 1 := by rw [IntKind.wrap_i64]; omega
            go_wp2_with fail
            with_reducible refine CD.out.mono ?_
            rintro e w5 ⟨⟨B1, e1, rfl, ho⟩, hb5⟩
            have HO5 := keepd ho
            clear CD ho
            go_upto_region 20 with fail
            generalize hV5 : w5.alloc (.cells #[.slice B1 p1 e1, .int .i64 (s1 : Int)] 24) = V5
            obtain ⟨H11, HBV, _⟩ := line_new1 _ _ _ _ hV5
            have hb := bCall hb5 HBV.out
            have HOb := keepd (HO5.out.below HBV.out)
            have HLb := keepd (SR.call HLr.out hb HLr.out.lt)
            have HGb := keepd (SR.call HGr.out hb HGr.out.lt)
            have HBb := keepd (bCall HBr.out hb)
            clear hV5 hb hb5 HO5 HBV
            have hfin := few_set (w := w) (Nat.le_of_lt HW2.out) HLb.out HBb.out (x' := .slice B1 p1 e1) (y' := .int .i64 (s1 : Int)) _ rfl
            have hgf := keepd (far24 (x := .slice B1 p1 e1) (y := .int .i64 (s1 : Int)) HGb.out (Nat.ne_of_lt HW2.out))
            have hfr := keepd (rd_set HOb.out KT.out (x := .slice B1 p1 e1) (y := .int .i64 (s1 : Int)))
            obtain ⟨k0, k1, k2, k3, kt⟩ := line_facts HLb.out
            obtain ⟨j0, j1, j2, j3, jt⟩ := line_facts H11.out
            go_wp2_with fail
            go_roundw
            case rel => exact ⟨i + 1, r, B1, y1, p1, e1, s1, by omega, by go_num, HY1, hfin.1, hgf, hfr, hfin.2⟩
            case measure => simp [intOf]; omega
  · have u0 : (n2 : Int) > 30 := by omega
    have u1 : (30 : Int) < (n2 : Int) := by omega
    have u2 : 30 < n2 := by omega
    have hs30 : ∀ W, (Instr.sliceAt 22 (.slice KA n2 ck) none (some (.int .i64 30)) none).run Try.prog W = .ok (.slice KA n1 ck) W := fun W => by
      rw [q2]
      exact slice_to KA n2 ck 30 (by omega) W
    clear q2
    cases hv : mayV m z
    case false =>
      have CK := keepd (check_bad A m c z V hv)
      go_wp2_with fail
      with_reducible refine CK.out.mono ?_
      rintro e w2 ⟨rfl, hb2⟩
      have HB2 := keepd (bCall HB.out hb2)
      clear hb2
      go_wp2_with fail
      with_reducible refine (awake_any _).mono ?_
      rintro e wz ⟨rfl, hbz⟩
      have HBz := keepd (bCall HB2.out hbz)
      clear hbz
      go_wp2_with fail
      go_ret
      exact ⟨rfl, HBz.out⟩
    obtain ⟨h4, t, rfl, ht⟩ := mayV_inv hv
    have CK := keepd (check_ok A m c t V h4 ht)
    clear hv hm1
    go_wp2_with fail
    with_reducible refine CK.out.mono ?_
    rintro e w2 ⟨rfl, hb2⟩
    have HB2 := keepd (bCall HB.out hb2)
    have H2 := keepd (SR.call H.out hb2 H.out.lt)
    have HR2 := keepd (HR.out.at_ hb2)
    have HTM : Hid (t ≤ x.length) := by show _ ≤ _; rw [HM.out]; exact ht
    obtain ⟨k0, k1, k2, k3, kt⟩ := line_facts H2.out
    have HW2 := keepd kt
    clear hb2 CK HB H HR
    go_upto_region 7 with fail
    generalize hV7 : w2.alloc (.cells #[.slice A m c, .int .i64 (t : Int)] 24) = V7
    obtain ⟨HG5, HBV, _⟩ := line_new1 _ _ _ _ hV7
    have HB2' := keepd (bCall HB2.out HBV.out)
    have HG2 := keepd (SR.call H2.out HBV.out H2.out.lt)
    have HR2' := keepd (HR2.out.at_ HBV.out)
    clear HB2 HR2 H2 HBV hV7 k0 k1 k2 k3 kt
    have HB2 := HB2'
    have HR2 := HR2'
    clear HB2' HR2'
    go_wp2_with fail
    go_loopw [6, 7] (fun v6 v7 wr => ∃ (k j : Nat) (B : Option Addr) (y : List UInt8) (p d s : Nat), k ≤ n1 ∧ v7 = .int .i64 k ∧ v6 = .int .i64 j ∧ Hid (j = min k (4096 - m)) ∧ Hid (y = typL x t K j ∧ s = t + j ∧ p = y.length) ∧ Hid (SR 24 wr w2.heap.size [.slice B p d, .int .i64 (s : Int)]) ∧ Hid (SR 24 wr w.heap.size [.slice A m c, .int .i64 (t : Int)]) ∧ Hid (Rd wr wr.heap.size B y d) ∧ Hid (Below w.heap.size w wr)) (fun _ v7 _ => n1 - (intOf v7).toNat)
    case atStart => exact ⟨0, 0, A, x, m, c, t, by omega, rfl, rfl, keepd (by omega), keepd ⟨(typL_zero x t K).symm, rfl, HM.out.symm⟩, HG5, HG2, HR2, HB2⟩
    clear HG5 HG2 HR2 HB2
    case round =>
      obtain ⟨k, j, B, y, p, d, s, hk, rfl, rfl, HJ, HY, HL, HG, HR, HB⟩ := hrel
      have hj1 : j ≤ k := by have := HJ.out; omega
      have hpj : p = m + j := by
        obtain ⟨e1, _, e3⟩ := HY.out
        rw [e3, e1, typL_len HTM.out (by rw [← HN1.out]; omega), HM.out]
      have hsj : s = t + j := HY.out.2.1
      have hp4 : p ≤ 4096 := by have := HJ.out; omega
      have hsp : s ≤ p := by omega
      have HPJ := keepd hpj
      have HSJ := keepd hsj
      have hj4 : j ≤ 30 := by omega
      clear hpj hsj
      rcases Nat.lt_or_ge k n1 with hlt | hge
      · have z0 : (k : Int) < (n1 : Int) := by omega
        have z2 : (0 : Int) ≤ (k : Int) := by omega
        obtain ⟨fb, fo, hKA, hfb⟩ := HKR.out.addr (by rw [← HN1.out]; omega)
        cases hKA
        have f0 := (HKR.out.at_ HB.out).cellk (k := k) (by rw [← HN1.out]; exact hlt)
        have F0 := keepd f0
        have HV := keepd (rfl : K.getD k 0 = K.getD k 0)
        obtain ⟨v, hv⟩ : ∃ v, K.getD k 0 = v := ⟨_, rfl⟩
        rw [hv] at f0 F0
        replace HV := keepd hv
        clear hv
        have fbl : fb < wr.heap.size := Nat.lt_of_lt_of_le hfb HB.out.size
        obtain ⟨k0, k1, k2, k3, kt⟩ := line_facts HL.out
        have K0 := keepd k0
        have K1 := keepd k1
        have KT := keepd kt
        have hyl : p = y.length := HY.out.2.2
        have HYL := keepd hyl
        clear hyl
        by_cases hfull : m + j < 4096
        · have hjk : j = k := by have := HJ.out; omega
          obtain ⟨s1, hs1⟩ : ∃ s1, t + (j + 1) = s1 := ⟨_, rfl⟩
          obtain ⟨y1, hy1⟩ : ∃ y1, typL x t K (j + 1) = y1 := ⟨_, rfl⟩
          obtain ⟨p1, hp1⟩ : ∃ p1, y1.length = p1 := ⟨_, rfl⟩
          have hty : tyL y s 4096 false v = some (y1, s1) := by
            obtain ⟨e1, e2, _⟩ := HY.out
            rw [e1, e2, ← HV.out, ← hjk, ty_step HTM.out (by rw [← HN1.out]; omega) (by rw [HM.out]; omega), hy1, hs1]
          have HD := keepd fun (W : World) (hb : Below wr.heap.size wr W) => ty_any B y y1 p d s s1 p1 4096 false v W HYL.out (HR.out.at_ hb) hp4 hsp hty hp1
          have HY1 := keepd (And.intro hy1.symm (And.intro hs1.symm hp1.symm))
          have HJK := keepd hjk
          have hw : IntKind.i64.wrap ((j : Int) + 1) = (j : Int) + 1 := by rw [IntKind.wrap_i64]; omega
          clear hs1 hy1 hp1 hty hjk
          go_wp2_with fail
          go_cut [8, 9] from 35 to 44 (fun s8 s9 wx => ∃ (b8 : Nat) (B1 : Option Addr) (e1 : Nat), s8 = .pointer (some ⟨b8, 0, none⟩) ∧ s9 = .bool true ∧ Hid (Mid wr b8 B1 p1 e1 y1 (s1 : Int) wx))
          case first =>
            go_region_held3 (fun W => W.cell? ⟨w2.heap.size, 0, none⟩ = some (.slice B p d) ∧ W.cell? ⟨w2.heap.size, 1, none⟩ = some (.int .i64 (s : Int)) ∧ W.cell? ⟨fb, fo + k, none⟩ = some (.int .u8 (v.toNat : Int)) ∧ Below wr.heap.size wr W)
              ((refine sR K0.out K1.out F0.out KT.out fbl ?_; repeat (first | assumption | exact Below.refl _ _ | with_reducible refine Below.setCell ?_ (Nat.le_refl wr.heap.size) _ | with_reducible refine bAlloc ?_ _ | with_reducible refine Below.drew ?_)))
              (first | (go_at_call 11; (with_reducible refine (HD.out _ ?_).mono ?_); (focus (repeat (first | assumption | exact Below.refl _ _ | with_reducible refine bAlloc ?_ _ | with_reducible refine Below.drew ?_))); rintro e w4 ⟨⟨B1, e1, rfl, ho⟩, hb4⟩; have hbb : Below wr.heap.size wr w4 := (by first | exact noDrew hb4 | exact upD hb4); (first | (have HMid := keepd (mid_b (z := (s1 : Int)) ho hb4); obtain ⟨m0, m1, m2, m3, lt⟩ := z_of hb4) | have HMid := keepd (mid_a (wr := wr) (z := (s1 : Int)) ho (Nat.le_refl _) hbb)); clear ho))
            all_goals go_wp2_with fail
            all_goals go_meet
            all_goals exact ⟨_, _, _, rfl, rfl, HMid⟩
          case rest =>
            obtain ⟨b8, B1, e1, rfl, rfl, HMid⟩ := hcut
            obtain ⟨V3, hV3⟩ : ∃ V3, V3 = wc := ⟨_, rfl⟩
            subst hV3
            have H8 := keepd HMid.out.1
            have hb3 := HMid.out.2.2
            have HG5 := keepd (SR.call HL.out hb3 HL.out.lt)
            have HGG := keepd (SR.call HG.out hb3 HG.out.lt)
            have HB3 := keepd (bCall HB.out hb3)
            have hfin := few_set (w := w) (Nat.le_of_lt HW2.out) HG5.out HB3.out (x' := .slice B1 p1 e1) (y' := .int .i64 (s1 : Int)) _ rfl
            have hgf := keepd (far24 (x := .slice B1 p1 e1) (y := .int .i64 (s1 : Int)) HGG.out (Nat.ne_of_lt HW2.out))
            have hfr := keepd (rd_set HMid.out.2.1 KT.out (x := .slice B1 p1 e1) (y := .int .i64 (s1 : Int)))
            obtain ⟨k0, k1, k2, k3, kt⟩ := line_facts HG5.out
            obtain ⟨j0, j1, j2, j3, jt⟩ := line_facts H8.out
            clear hb3 f0 F0 K0 K1 KT HD
            go_wp2_with fail
            go_roundw
            case rel => exact ⟨k + 1, j + 1, B1, y1, p1, e1, s1, by omega, by go_num, by go_num, keepd (by have := HJK.out; omega), keepd HY1.out, hfin.1, hgf, hfr, hfin.2⟩
            case measure => simp [intOf]; omega
        · have hty : tyL y s 4096 false v = none := by
            obtain ⟨e1, e2, _⟩ := HY.out
            rw [e1, e2]
            exact ty_stop HTM.out (by rw [← HN1.out]; omega) (by rw [HM.out]; omega) v
          have HD := keepd fun (W : World) (hb : Below wr.heap.size wr W) => ty_none B y p d s 4096 false v W HYL.out (HR.out.at_ hb) hp4 hsp hty
          clear hty
          go_wp2_with fail
          go_cut [8, 9] from 35 to 44 (fun s8 s9 wx => ∃ (b8 : Nat) (B1 : Option Addr) (e1 : Nat), s8 = .pointer (some ⟨b8, 0, none⟩) ∧ s9 = .bool false ∧ Hid (Mid wr b8 B1 p e1 y (s : Int) wx))
          case first =>
            go_region_held3 (fun W => W.cell? ⟨w2.heap.size, 0, none⟩ = some (.slice B p d) ∧ W.cell? ⟨w2.heap.size, 1, none⟩ = some (.int .i64 (s : Int)) ∧ W.cell? ⟨fb, fo + k, none⟩ = some (.int .u8 (v.toNat : Int)) ∧ Below wr.heap.size wr W)
              ((refine sR K0.out K1.out F0.out KT.out fbl ?_; repeat (first | assumption | exact Below.refl _ _ | with_reducible refine Below.setCell ?_ (Nat.le_refl wr.heap.size) _ | with_reducible refine bAlloc ?_ _ | with_reducible refine Below.drew ?_)))
              (first | (go_at_call 11; (with_reducible refine (HD.out _ ?_).mono ?_); (focus (repeat (first | assumption | exact Below.refl _ _ | with_reducible refine bAlloc ?_ _ | with_reducible refine Below.drew ?_))); rintro e w4 ⟨⟨B1, e1, rfl, ho⟩, hb4⟩; have hbb : Below wr.heap.size wr w4 := (by first | exact noDrew hb4 | exact upD hb4); (first | (have HMid := keepd (mid_b (z := (s : Int)) ho hb4); obtain ⟨m0, m1, m2, m3, lt⟩ := z_of hb4) | have HMid := keepd (mid_a (wr := wr) (z := (s : Int)) ho (Nat.le_refl _) hbb)); clear ho))
            all_goals go_wp2_with fail
            all_goals go_meet
            all_goals exact ⟨_, _, _, rfl, rfl, HMid⟩
          case rest =>
            obtain ⟨b8, B1, e1, rfl, rfl, HMid⟩ := hcut
            obtain ⟨V3, hV3⟩ : ∃ V3, V3 = wc := ⟨_, rfl⟩
            subst hV3
            have H8 := keepd HMid.out.1
            have hb3 := HMid.out.2.2
            have HG5 := keepd (SR.call HL.out hb3 HL.out.lt)
            have HGG := keepd (SR.call HG.out hb3 HG.out.lt)
            have HB3 := keepd (bCall HB.out hb3)
            have hfin := few_set (w := w) (Nat.le_of_lt HW2.out) HG5.out HB3.out (x' := .slice B1 p e1) (y' := .int .i64 (s : Int)) _ rfl
            have hgf := keepd (far24 (x := .slice B1 p e1) (y := .int .i64 (s : Int)) HGG.out (Nat.ne_of_lt HW2.out))
            have hfr := keepd (rd_set HMid.out.2.1 KT.out (x := .slice B1 p e1) (y := .int .i64 (s : Int)))
            obtain ⟨k0, k1, k2, k3, kt⟩ := line_facts HG5.out
            obtain ⟨j0, j1, j2, j3, jt⟩ := line_facts H8.out
            clear hb3 f0 F0 K0 K1 KT HD
            go_wp2_with fail
            go_roundw
            case rel => exact ⟨k + 1, j, B1, y, p, e1, s, by omega, by go_num, rfl, keepd (by have := HJ.out; omega), HY, hfin.1, hgf, hfr, hfin.2⟩
            case measure => simp [intOf]; omega
      · have z0 : ¬ (k : Int) < (n1 : Int) := by omega
        have z1 : ¬ k < n1 := by omega
        have hw1 : IntKind.i64.wrap ((t : Int) + (j : Int)) = (s : Int) := by rw [IntKind.wrap_i64]; have := HSJ.out; omega
        have hw2 : IntKind.i64.wrap ((m : Int) + (j : Int)) = (p : Int) := by rw [IntKind.wrap_i64]; have := HPJ.out; omega
        have hyp := HY.out.2.2
        obtain ⟨A3, d3, hsl, hr3⟩ := mid_of (t := t) (s := s) (j := j) hyp HR.out (by have := HSJ.out; omega) hsp (by have := HSJ.out; omega)
        have hjk : j ≤ ck := by omega
        have hjk1 : (j : Int) ≤ (ck : Int) := by omega
        have hjk2 : (0 : Int) ≤ (j : Int) := by omega
        have hoc : ((y.drop t).take j == K.take j) = true := by rw [HY.out.1, typL_mid HTM.out (by rw [← HN1.out]; omega)]; simp
        have hl1 : j = ((y.drop t).take j).length := by rw [HY.out.1, typL_mid HTM.out (by rw [← HN1.out]; omega), List.length_take, ← HN1.out]; omega
        have hl2 : j = (K.take j).length := by rw [List.length_take, ← HN1.out]; omega
        have CO := keepd fun y9 : Gr wr => octets_any A3 KA ((y.drop t).take j) (K.take j) j j d3 ck true y9.W hl1 hl2 (hr3.at_ y9.h) (((HKR.out.take j).at_ HB.out).at_ y9.h) hoc
        obtain ⟨g0, g1⟩ := HG.out.gr
        obtain ⟨g2, g3⟩ := HL.out.gr
        have hts : (t : Int) ≤ (s : Int) := by have := HSJ.out; omega
        clear hr3 hoc hl1 hl2 hyp
        go_wp2_with fail
        refine wp_region_gr (by kernel_rfl) (by kernel_rfl) ?_
        repeat
          refine wpQuiet_step (fun K hK => ?_)
          first
            | (refine gr_want (by rfl) ?_
               go_simp
               first
                 | (refine hK _ ?_; clear hK K)
                 | (apply Exists.intro
                    refine ⟨fun _ => ?_, hK _ ?_⟩
                    (first | (go_at_call 24; exact Gr.same (CO.out _)))
                    clear hK K))
            | (refine gr_skip (by rfl) ?_
               go_simp
               refine hK _ ?_
               clear hK K)
        refine wpQuiet_nil ?_
        intro y9
        have HGa := keepd (SR.call HG.out y9.h HG.out.lt)
        have HLa := keepd (SR.call HL.out y9.h HL.out.lt)
        have HRa := keepd (HR.out.at_ y9.h)
        have HBa := keepd (bCall HB.out y9.h)
        obtain ⟨w3, hw3⟩ : ∃ w3, y9.W = w3 := ⟨_, rfl⟩
        rw [hw3] at HGa HLa HRa HBa
        rw [hw3]
        clear hw3 g0 g1 g2 g3 CO HG HL HR HB hsl hw1 hw2
        go_wp2_with fail
        go_loopw [10] (fun vi wr => ∃ (i r : Nat) (B : Option Addr) (y : List UInt8) (p d s : Nat), i + r = j ∧ vi = .int .i64 i ∧ Hid (y = typL x t K r ∧ s = t + r ∧ p = y.length) ∧ Hid (SR 24 wr w2.heap.size [.slice B p d, .int .i64 (s : Int)]) ∧ Hid (SR 24 wr w.heap.size [.slice A m c, .int .i64 (t : Int)]) ∧ Hid (Rd wr wr.heap.size B y d) ∧ Hid (Below w.heap.size w wr)) (fun vi _ => j - (intOf vi).toNat)
        case atStart => exact ⟨0, j, B, y, p, d, s, by omega, rfl, keepd HY.out, HLa, HGa, HRa, HBa⟩
        clear HLa HGa HRa HBa
        case round =>
          obtain ⟨i, r, B', y', p', d', s', hir, rfl, HYr, HLr, HGr, HRr, HBr⟩ := hrel
          obtain ⟨k0, k1, k2, k3, kt⟩ := line_facts HLr.out
          rcases Nat.eq_zero_or_pos r with hr0 | hr0
          · have z5 : ¬ (i : Int) < (j : Int) := by omega
            have z6 : ¬ i < j := by omega
            have hyx : x = y' := by rw [HYr.out.1, hr0, typL_zero]
            have hts' : t = s' := by rw [HYr.out.2.1, hr0, Nat.add_zero]
            have hpm : m = p' := by rw [HYr.out.2.2, ← hyx, HM.out]
            subst hyx hts' hpm
            clear hir hr0 HYr
            obtain ⟨w6, hw6⟩ : ∃ W, W = wr := ⟨_, rfl⟩
            subst hw6
            have HW6 := keepd HLr.out.lt
            obtain ⟨j0, j1, _, _, _⟩ := line_facts HGr.out
            go_upto_region 24 with fail
            generalize hV6 : w6.alloc (.cells #[.slice A m c, .int .i64 (t : Int)] 24) = V6
            obtain ⟨H13, HBV6, _⟩ := line_new1 _ _ _ _ hV6
            have HAT6 := keepd (SR.call HLr.out HBV6.out HLr.out.lt)
            have HG6 := keepd (SR.call HGr.out HBV6.out HGr.out.lt)
            have HRX6 := keepd (HRr.out.below HBV6.out (Nat.le_refl _))
            have HB6 := keepd (bCall HBr.out HBV6.out)
            have HRA6 := keepd (HR0x.out.at_ HB6.out)
            clear hV6 HBV6 HLr HGr HRr HBr k0 k1 k2 k3 kt j0 j1
            go_wp2_with fail
            go_loopw [14] (fun vi wr => ∃ (k : Nat) (B : Option Addr) (y : List UInt8) (d s : Nat), k ≤ n1 ∧ vi = .int .i64 k ∧ Hid (y = ovL x t K k ∧ s = t + k ∧ t + k ≤ m) ∧ Hid (SR 24 wr w6.heap.size [.slice B m d, .int .i64 (s : Int)]) ∧ Hid (SR 24 wr w2.heap.size [.slice B' m d', .int .i64 (t : Int)]) ∧ Hid (SR 24 wr w.heap.size [.slice A m c, .int .i64 (t : Int)]) ∧ Hid (Rd wr wr.heap.size B y d) ∧ Hid (Rd wr w6.heap.size B' x d') ∧ Hid (Below w.heap.size w wr)) (fun vi _ => n1 - (intOf vi).toNat)
            case atStart => exact ⟨0, A, x, c, t, by omega, rfl, keepd ⟨(ovL_zero x t K).symm, rfl, ht⟩, H13, HAT6, HG6, HRA6, HRX6, HB6⟩
            clear H13 HAT6 HG6 HRA6 HRX6 HB6
            case round =>
              obtain ⟨k, B, y, d, s, hk, rfl, HYY, HL, HAT, HG, HR, HRX, HB⟩ := hrel
              have HSJ := keepd HYY.out.2.1
              have hsm : s ≤ m := by rw [HYY.out.2.1]; exact HYY.out.2.2
              rcases Nat.lt_or_ge k n1 with hlt | hge
              case inr =>
                have z0 : ¬ (k : Int) < (n1 : Int) := by omega
                have z1 : ¬ k < n1 := by omega
                have CS := keepd fun (W : World) (hb : Below wr.heap.size wr W) => same_any B' A x x m m d' c (t : Int) (t : Int) true W HM.out.symm HM.out.symm (HRX.out.below (hb.mono (Nat.le_of_lt HL.out.lt)) (Nat.le_trans (Nat.le_of_lt HL.out.lt) hb.size)) ((HR0x.out.at_ HB.out).at_ hb) (by simp)
                obtain ⟨k0, k1, _, _, _⟩ := line_facts HAT.out
                obtain ⟨j0, j1, _, _, _⟩ := line_facts HG.out
                go_wp2_with fail
                with_reducible refine (CS.out _ (Below.refl _ _)).mono ?_
                rintro e w8 ⟨rfl, hb8⟩
                have HB8 := keepd (bCall HB.out hb8)
                clear hb8
                go_wp2_with fail
                with_reducible refine (awake_any _).mono ?_
                rintro e wz ⟨rfl, hbz⟩
                have HBz := keepd (bCall HB8.out hbz)
                clear hbz
                go_wp2_with fail
                go_ret
                exact ⟨rfl, HBz.out⟩
              have hws : IntKind.i64.wrap ((t : Int) + (k : Int)) = (s : Int) := by rw [IntKind.wrap_i64]; have := HSJ.out; omega
              have z0 : (k : Int) < (n1 : Int) := by omega
              have z2 : (0 : Int) ≤ (k : Int) := by omega
              obtain ⟨k0, k1, k2, k3, kt⟩ := line_facts HL.out
              obtain ⟨j0, j1, _, _, _⟩ := line_facts HG.out
              rcases Nat.lt_or_ge s m with hs5 | hs5
              case inr =>
                have z3 : ¬ (s : Int) < (m : Int) := by omega
                have z4 : ¬ s < m := by omega
                have CS := keepd fun (W : World) (hb : Below wr.heap.size wr W) => same_any B' A x x m m d' c (t : Int) (t : Int) true W HM.out.symm HM.out.symm (HRX.out.below (hb.mono (Nat.le_of_lt HL.out.lt)) (Nat.le_trans (Nat.le_of_lt HL.out.lt) hb.size)) ((HR0x.out.at_ HB.out).at_ hb) (by simp)
                obtain ⟨k0, k1, _, _, _⟩ := line_facts HAT.out
                obtain ⟨j0, j1, _, _, _⟩ := line_facts HG.out
                go_wp2_with fail
                with_reducible refine (CS.out _ (Below.refl _ _)).mono ?_
                rintro e w8 ⟨rfl, hb8⟩
                have HB8 := keepd (bCall HB.out hb8)
                clear hb8
                go_wp2_with fail
                with_reducible refine (awake_any _).mono ?_
                rintro e wz ⟨rfl, hbz⟩
                have HBz := keepd (bCall HB8.out hbz)
                clear hbz
                go_wp2_with fail
                go_ret
                exact ⟨rfl, HBz.out⟩
              have z3 : (s : Int) < (m : Int) := by omega
              have z5 : (0 : Int) ≤ (s : Int) := by omega
              have K0 := keepd k0
              have K1 := keepd k1
              have KT := keepd kt
              obtain ⟨fb, fo, hKA, hfb⟩ := HKR.out.addr (by rw [← HN1.out]; omega)
              cases hKA
              have f0 := (HKR.out.at_ HB.out).cellk (k := k) (by rw [← HN1.out]; exact hlt)
              have F0 := keepd f0
              have HV := keepd (rfl : K.getD k 0 = K.getD k 0)
              obtain ⟨v, hv⟩ : ∃ v, K.getD k 0 = v := ⟨_, rfl⟩
              rw [hv] at f0 F0
              replace HV := keepd hv
              clear hv
              have fbl : fb < wr.heap.size := Nat.lt_of_lt_of_le hfb HB.out.size
              have hkx : t + k < x.length := by rw [HM.out, ← HSJ.out]; exact hs5
              have hkK : k < K.length := by rw [← HN1.out]; exact hlt
              obtain ⟨s1, hs1⟩ : ∃ s1, t + (k + 1) = s1 := ⟨_, rfl⟩
              obtain ⟨y1, hy1⟩ : ∃ y1, ovL x t K (k + 1) = y1 := ⟨_, rfl⟩
              have hp1 : y1.length = m := by rw [← hy1, ovL_len (by omega) (by omega), HM.out]
              have hyl : m = y.length := by rw [HYY.out.1, ovL_len (by omega) (by omega), HM.out]
              have hgk : y1.getD s 0 = v := by rw [← hy1, HSJ.out, ov_get hkx hkK, HV.out]
              have hty : tyL y s 0 true v = some (y1, s1) := by
                rw [HYY.out.1, HSJ.out, ← HV.out, ov_step hkx hkK, hy1, hs1]
              have HD := keepd fun (W : World) (hb : Below wr.heap.size wr W) => ty_any B y y1 m d s s1 m 0 true v W hyl (HR.out.at_ hb) h4 hsm hty hp1
              have HY1 := keepd (And.intro hy1.symm (And.intro hs1.symm (show t + (k + 1) ≤ m by have := HSJ.out; omega)))
              have HGK := keepd hgk
              have HP1 := keepd hp1
              clear hs1 hy1 hp1 hty hyl hgk hkx hkK
              go_wp2_with fail
              go_cut [15, 16] from 110 to 119 (fun s8 s9 wx => ∃ (b8 : Nat) (B1 : Option Addr) (e1 : Nat), s8 = .pointer (some ⟨b8, 0, none⟩) ∧ s9 = .bool true ∧ Hid (Mid wr b8 B1 m e1 y1 (s1 : Int) wx))
              case first =>
                go_region_held3 (fun W => W.cell? ⟨w6.heap.size, 0, none⟩ = some (.slice B m d) ∧ W.cell? ⟨w6.heap.size, 1, none⟩ = some (.int .i64 (s : Int)) ∧ W.cell? ⟨fb, fo + k, none⟩ = some (.int .u8 (v.toNat : Int)) ∧ Below wr.heap.size wr W)
                  ((refine sR K0.out K1.out F0.out KT.out fbl ?_; repeat (first | assumption | exact Below.refl _ _ | with_reducible refine Below.setCell ?_ (Nat.le_refl wr.heap.size) _ | with_reducible refine bAlloc ?_ _ | with_reducible refine Below.drew ?_)))
                  (first | (go_at_call 11; (with_reducible refine (HD.out _ ?_).mono ?_); (focus (repeat (first | assumption | exact Below.refl _ _ | with_reducible refine bAlloc ?_ _ | with_reducible refine Below.drew ?_))); rintro e w4 ⟨⟨B1, e1, rfl, ho⟩, hb4⟩; have hbb : Below wr.heap.size wr w4 := (by first | exact noDrew hb4 | exact upD hb4); (first | (have HMid := keepd (mid_b (z := (s1 : Int)) ho hb4); obtain ⟨m0, m1, m2, m3, lt⟩ := z_of hb4) | have HMid := keepd (mid_a (wr := wr) (z := (s1 : Int)) ho (Nat.le_refl _) hbb)); clear ho))
                all_goals go_wp2_with fail
                all_goals go_meet
                all_goals exact ⟨_, _, _, rfl, rfl, HMid⟩
              case rest =>
                obtain ⟨b8, B1, e1, rfl, rfl, HMid⟩ := hcut
                obtain ⟨V3, hV3⟩ : ∃ V3, V3 = wc := ⟨_, rfl⟩
                subst hV3
                have H8 := keepd HMid.out.1
                have hb3 := HMid.out.2.2
                have HL3 := keepd (SR.call HL.out hb3 HL.out.lt)
                have HA3 := keepd (SR.call HAT.out hb3 HAT.out.lt)
                have HG3 := keepd (SR.call HG.out hb3 HG.out.lt)
                have HRX3 := keepd (HRX.out.below (hb3.mono (Nat.le_of_lt KT.out)) (Nat.le_refl _))
                have HV36 := keepd (Nat.le_trans (Nat.le_of_lt KT.out) hb3.size)
                have HB3 := keepd (bCall HB.out hb3)
                have HKK := keepd (HKR.out.at_ HB3.out)
                have HO3 := keepd HMid.out.2.1
                obtain ⟨nb, no, hB1, _⟩ := HMid.out.rd.addr (by rw [HP1.out]; omega)
                cases hB1
                have q5 : ∀ y9 : Gr V3, y9.W.cell? ⟨nb, no + s, none⟩ = some (.int .u8 (v.toNat : Int)) := fun y9 => by
                  have := (HMid.out.rd.at_ y9.h).cellk (k := s) (by rw [HP1.out]; exact hs5)
                  rw [HGK.out] at this
                  exact this
                have q6 : ∀ y9 : Gr V3, y9.W.cell? ⟨fb, fo + k, none⟩ = some (.int .u8 (v.toNat : Int)) := fun y9 => by
                  have := (HKK.out.at_ y9.h).cellk (k := k) (by rw [← HN1.out]; exact hlt)
                  rw [HV.out] at this
                  exact this
                obtain ⟨q1', q2'⟩ := H8.out.gr
                obtain ⟨q3', q4'⟩ := HG3.out.gr
                have KTT := keepd KT.out
                clear hb3 f0 F0 K0 K1 KT HD k0 k1 k2 k3 kt j0 j1
                go_wp2_with fail
                refine wp_region_gr (by kernel_rfl) (by kernel_rfl) ?_
                repeat
                  refine wpQuiet_step (fun K hK => ?_)
                  first
                    | (refine gr_want (by rfl) ?_
                       go_simp
                       first
                         | (refine hK _ ?_; clear hK K)
                         | (apply Exists.intro
                            refine ⟨fun _ => ?_, hK _ ?_⟩
                            (fail)
                            clear hK K))
                    | (refine gr_skip (by rfl) ?_
                       go_simp
                       refine hK _ ?_
                       clear hK K)
                refine wpQuiet_nil ?_
                intro y9
                have H8b := keepd (SR.call H8.out y9.h H8.out.lt)
                have HLb := keepd (SR.call HL3.out y9.h HL3.out.lt)
                have HAb := keepd (SR.call HA3.out y9.h HA3.out.lt)
                have HGb := keepd (SR.call HG3.out y9.h HG3.out.lt)
                have HRXb := keepd (HRX3.out.below (y9.h.mono HV36.out) (Nat.le_refl _))
                have HOb := keepd (HO3.out.below y9.h)
                have HBb := keepd (bCall HB3.out y9.h)
                obtain ⟨w7, hw7⟩ : ∃ w7, y9.W = w7 := ⟨_, rfl⟩
                rw [hw7] at H8b HLb HAb HGb HRXb HOb HBb
                rw [hw7]
                clear hw7 q1' q2' q3' q4' q5 q6
                obtain ⟨k0, k1, k2, k3, kt⟩ := line_facts HLb.out
                obtain ⟨j0, j1, j2, j3, jt⟩ := line_facts H8b.out
                have hfin := few_set (w := w) (Nat.le_of_lt (Nat.lt_trans HW2.out HW6.out)) HLb.out HBb.out (x' := .slice (some ⟨nb, no, none⟩) m e1) (y' := .int .i64 (s1 : Int)) _ rfl
                have hgf := keepd (far24 (x := .slice (some ⟨nb, no, none⟩) m e1) (y := .int .i64 (s1 : Int)) HGb.out (Nat.ne_of_lt (Nat.lt_trans HW2.out HW6.out)))
                have haf := keepd (far24 (x := .slice (some ⟨nb, no, none⟩) m e1) (y := .int .i64 (s1 : Int)) HAb.out (Nat.ne_of_lt HW6.out))
                have hfr := keepd (rd_set HOb.out KTT.out (x := .slice (some ⟨nb, no, none⟩) m e1) (y := .int .i64 (s1 : Int)))
                have hxr := keepd (rd_far (x := .slice (some ⟨nb, no, none⟩) m e1) (y := .int .i64 (s1 : Int)) HRXb.out)
                go_wp2_with fail
                go_roundw
                case rel => exact ⟨k + 1, _, y1, e1, s1, by omega, by go_num, keepd HY1.out, hfin.1, haf, hgf, hfr, hxr, hfin.2⟩
                case measure => simp [intOf]; omega
          · obtain ⟨r, rfl⟩ : ∃ q, r = q + 1 := ⟨r - 1, by omega⟩
            have z5 : (i : Int) < (j : Int) := by omega
            have z6 : i < j := by omega
            have hrK : r + 1 ≤ K.length := by rw [← HN1.out]; omega
            obtain ⟨s1, hs1⟩ : ∃ s1, t + r = s1 := ⟨_, rfl⟩
            obtain ⟨y1, hy1⟩ : ∃ y1, typL x t K r = y1 := ⟨_, rfl⟩
            obtain ⟨p1, hp1⟩ : ∃ p1, y1.length = p1 := ⟨_, rfl⟩
            have hdo : doL y' s' 10 = some (y1, s1) := by
              obtain ⟨e1, e2, _⟩ := HYr.out
              rw [e1, e2, do_back HTM.out hrK, hy1, hs1]
            have hpl : p' = x.length + (r + 1) := by
              obtain ⟨e1, _, e3⟩ := HYr.out
              rw [e3, e1, typL_len HTM.out hrK]
            have CD := keepd (do_any B' y' y1 p' d' s' s1 p1 10 wr HYr.out.2.2 HRr.out (by have := HPJ.out; have := HM.out; omega) (by have := HYr.out.2.1; have := HTM.out; omega) hdo hp1)
            have HY1 := keepd (And.intro hy1.symm (And.intro hs1.symm hp1.symm))
            have KT := keepd kt
            clear hs1 hy1 hp1 hdo hpl hrK hr0
            have hw : IntKind.i64.wrap ((i : Int) + 1) = (i : Int) + 1 := by rw [IntKind.wrap_i64]; omega
            go_wp2_with fail
            with_reducible refine CD.out.mono ?_
            rintro e w5 ⟨⟨B1, e1, rfl, ho⟩, hb5⟩
            have HO5 := keepd ho
            clear CD ho
            go_upto_region 20 with fail
            generalize hV5 : w5.alloc (.cells #[.slice B1 p1 e1, .int .i64 (s1 : Int)] 24) = V5
            obtain ⟨H11, HBV, _⟩ := line_new1 _ _ _ _ hV5
            have hb := bCall hb5 HBV.out
            have HOb := keepd (HO5.out.below HBV.out)
            have HLb := keepd (SR.call HLr.out hb HLr.out.lt)
            have HGb := keepd (SR.call HGr.out hb HGr.out.lt)
            have HBb := keepd (bCall HBr.out hb)
            clear hV5 hb hb5 HO5 HBV
            have hfin := few_set (w := w) (Nat.le_of_lt HW2.out) HLb.out HBb.out (x' := .slice B1 p1 e1) (y' := .int .i64 (s1 : Int)) _ rfl
            have hgf := keepd (far24 (x := .slice B1 p1 e1) (y := .int .i64 (s1 : Int)) HGb.out (Nat.ne_of_lt HW2.out))
            have hfr := keepd (rd_set HOb.out KT.out (x := .slice B1 p1 e1) (y := .int .i64 (s1 : Int)))
            obtain ⟨k0, k1, k2, k3, kt⟩ := line_facts HLb.out
            obtain ⟨j0, j1, j2, j3, jt⟩ := line_facts H11.out
            go_wp2_with fail
            go_roundw
            case rel => exact ⟨i + 1, r, B1, y1, p1, e1, s1, by omega, by go_num, HY1, hfin.1, hgf, hfr, hfin.2⟩
            case measure => simp [intOf]; omega

end Go.Proofs.Ytbkpihegagflaaa
