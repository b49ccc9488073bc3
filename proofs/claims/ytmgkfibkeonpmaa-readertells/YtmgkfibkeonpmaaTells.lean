/-
  The law ReaderTells, walked: it returns true, whatever the two readers and the octets.
-/
import Derived.Test.YtmgkfibkeonpmaaQb
namespace Go.Proofs.Ytmgkfibkeonpmaa
open Go.RowKit

/-- Two readers, stored whole. -/
theorem two_st {w V wB : World} {x0 x1 x2 x3 y0 y1 y2 y3 : Value} (h0 : SR 24 V w.heap.size [x0, x1, x2, x3]) (h1 : SR 24 V (w.heap.size + 1) [y0, y1, y2, y3]) (s0 : Below w.heap.size w V) (hb : Below V.heap.size V wB) (u0 u1 u2 u3 v0 v1 v2 v3 : Value) :
    Hid (SR 24 (set4 (set4 wB w.heap.size u0 u1 u2 u3) (w.heap.size + 1) v0 v1 v2 v3) w.heap.size [u0, u1, u2, u3]) ∧ Hid (SR 24 (set4 (set4 wB w.heap.size u0 u1 u2 u3) (w.heap.size + 1) v0 v1 v2 v3) (w.heap.size + 1) [v0, v1, v2, v3]) ∧
      Hid (Below w.heap.size w (set4 (set4 wB w.heap.size u0 u1 u2 u3) (w.heap.size + 1) v0 v1 v2 v3)) := by
  have q0 := h0.call hb h0.lt
  have q1 := h1.call hb h1.lt
  have a0 : SR 24 (set4 wB w.heap.size u0 u1 u2 u3) w.heap.size [u0, u1, u2, u3] := (((q0.set 0 u0).set 1 u1).set 2 u2).set 3 u3
  have a1 : SR 24 (set4 wB w.heap.size u0 u1 u2 u3) (w.heap.size + 1) [y0, y1, y2, y3] := (set4_heap _ _ _ _ _ _ (by omega)).trans q1
  refine ⟨?_, ?_, ?_⟩
  · exact (set4_heap _ _ _ _ _ _ (by omega)).trans a0
  · exact (((a1.set 0 v0).set 1 v1).set 2 v2).set 3 v3
  · exact set4_below (set4_below (bCall s0 hb) (Nat.le_refl _)) (Nat.le_succ _)

theorem sK8 {V W : World} {b b' : Nat} {u0 u1 u2 u3 v0 v1 v2 v3 : Value} (k0 : SR 24 V b [u0, u1, u2, u3]) (k1 : SR 24 V b' [v0, v1, v2, v3]) (h : Below V.heap.size V W) :
    W.cell? ⟨b, 0, none⟩ = some u0 ∧ W.cell? ⟨b, 1, none⟩ = some u1 ∧ W.cell? ⟨b, 2, none⟩ = some u2 ∧ W.cell? ⟨b, 3, none⟩ = some u3 ∧ W.cell? ⟨b', 0, none⟩ = some v0 ∧ W.cell? ⟨b', 1, none⟩ = some v1 ∧ W.cell? ⟨b', 2, none⟩ = some v2 ∧ W.cell? ⟨b', 3, none⟩ = some v3 ∧ Below V.heap.size V W := by
  have q0 := k0.call h k0.lt
  have q1 := k1.call h k1.lt
  exact ⟨q0.cell 0, q0.cell 1, q0.cell 2, q0.cell 3, q1.cell 0, q1.cell 1, q1.cell 2, q1.cell 3, h⟩

theorem SR.facts8 {V W : World} {b : Nat} {u0 u1 u2 u3 : Value} (k0 : SR 24 V b [u0, u1, u2, u3]) (h : Below V.heap.size V W) : (∀ B o, B < V.heap.size → W.cell? ⟨B, o, none⟩ = V.cell? ⟨B, o, none⟩) ∧ b < W.heap.size :=
  ⟨fun B o hB => h.cell (p := ⟨B, o, none⟩) hB, Nat.lt_of_lt_of_le k0.lt h.size⟩

set_option maxRecDepth 100000 in
set_option maxHeartbeats 2000000 in
theorem tells_law (X Y : Itm) (n m : Nat) (hn : n = X.l.length) (hm : m = Y.l.length) (A : Option Addr) (l : List UInt8) (j c : Nat) (hj : j = l.length) (w : World) (hX : Rd w w.heap.size X.A X.l X.c) (hY : Rd w w.heap.size Y.A Y.l Y.c) (hr : Rd w w.heap.size A l c) :
    Calls Try.prog 3 #[.agg #[.int .i64 X.k, .int .i64 X.a, .int .i64 X.b, .slice X.A n X.c], .agg #[.int .i64 Y.k, .int .i64 Y.a, .int .i64 Y.b, .slice Y.A m Y.c], .slice A j c] w fun e w' => e = .returned (.bool true) ∧ Below w.heap.size w w' := by
  have b1 : n ≤ X.c := by have := hX.1; omega
  have b2 := hX.2.1
  have b3 : m ≤ Y.c := by have := hY.1; omega
  have b4 := hY.2.1
  have b5 : j ≤ c := by have := hr.1; omega
  have b6 := hr.2.1
  have HX := keepd (hX.take 600)
  have HY := keepd (hY.take 600)
  have HA := keepd (hr.take 200)
  have HXn : Hid (min n 600 = (X.l.take 600).length) := by show _ = _; rw [List.length_take]; omega
  have HYn : Hid (min m 600 = (Y.l.take 600).length) := by show _ = _; rw [List.length_take]; omega
  have HAn : Hid (min j 200 = (l.take 200).length) := by show _ = _; rw [List.length_take]; omega
  have n1 : min n 600 ≤ 600 := by omega
  have n2 : min m 600 ≤ 600 := by omega
  have n3 : min j 200 ≤ 200 := by omega
  have HX0 : Hid (SR 24 ((w.alloc (.cells #[.int .i64 X.k, .int .i64 X.a, .int .i64 X.b, .slice X.A n X.c] 24)).alloc (.cells #[.int .i64 Y.k, .int .i64 Y.a, .int .i64 Y.b, .slice Y.A m Y.c] 24)) w.heap.size [.int .i64 X.k, .int .i64 X.a, .int .i64 X.b, .slice X.A n X.c]) := (SR.new 24 w _).alloc _
  have HX1 : Hid (SR 24 ((w.alloc (.cells #[.int .i64 X.k, .int .i64 X.a, .int .i64 X.b, .slice X.A n X.c] 24)).alloc (.cells #[.int .i64 Y.k, .int .i64 Y.a, .int .i64 Y.b, .slice Y.A m Y.c] 24)) (w.heap.size + 1) [.int .i64 Y.k, .int .i64 Y.a, .int .i64 Y.b, .slice Y.A m Y.c]) := Ytmgkfibkeonpmaa.n3 w _ _
  have s0 := bAlloc (bAlloc (Below.refl w.heap.size w) (.cells #[.int .i64 X.k, .int .i64 X.a, .int .i64 X.b, .slice X.A n X.c] 24)) (.cells #[.int .i64 Y.k, .int .i64 Y.a, .int .i64 Y.b, .slice Y.A m Y.c] 24)
  clear hX hY hr hn hm hj
  go_enter Try.func3, Try.ntmps3
  go_wp2_with fail
  generalize (w.alloc (.cells #[.int .i64 X.k, .int .i64 X.a, .int .i64 X.b, .slice X.A n X.c] 24)).alloc (.cells #[.int .i64 Y.k, .int .i64 Y.a, .int .i64 Y.b, .slice Y.A m Y.c] 24) = V at *
  have x0 := HX0.out.lt
  have x1 := HX1.out.lt
  obtain ⟨⟨f0, f1, f2, f3⟩, r0, r1, r2, r3⟩ := HX0.out.facts4
  obtain ⟨⟨g0, g1, g2, g3⟩, t0, t1, t2, t3⟩ := HX1.out.facts4
  have HS0 := keepd s0
  clear s0
  go_cut [2] (fun s2 wx => s2 = .slice A (min j 200) c ∧ Hid (SR 24 wx w.heap.size [.int .i64 X.k, .int .i64 X.a, .int .i64 X.b, .slice X.A (min n 600) X.c]) ∧ Hid (SR 24 wx (w.heap.size + 1) [.int .i64 Y.k, .int .i64 Y.a, .int .i64 Y.b, .slice Y.A (min m 600) Y.c]) ∧ Hid (Below w.heap.size w wx))
  case first =>
    go_region_with (first
      | (go_at_call_of 6 (Value.agg #[Value.int .i64 X.k, Value.int .i64 X.a, Value.int .i64 X.b, Value.slice X.A n X.c]); (with_reducible refine (one6_any X.k X.a X.b X.A n X.c _ b1 b2).mono ?_); rintro e wA ⟨rfl, hbA⟩; have hA := noDrew hbA; obtain ⟨⟨p0, p1, p2, p3⟩, pf0, pf1, pf2, pf3⟩ := (HX1.out.call hA x1).facts4; have lA := hA.size; have yA := Nat.lt_of_lt_of_le x0 lA; have zA := Nat.lt_of_lt_of_le x1 lA)
      | (go_at_call_of 6 (Value.agg #[Value.int .i64 Y.k, Value.int .i64 Y.a, Value.int .i64 Y.b, Value.slice Y.A m Y.c]); (with_reducible refine (one6_any Y.k Y.a Y.b Y.A m Y.c _ b3 b4).mono ?_); rintro e wB ⟨rfl, hbB⟩; have hB := bCall hA hbB; obtain ⟨⟨q0, q1, q2, q3⟩, qf0, qf1, qf2, qf3⟩ := (HX0.out.call hB x0).facts4; obtain ⟨⟨o0, o1, o2, o3⟩, of0, of1, of2, of3⟩ := (HX1.out.call hB x1).facts4; have lB := hB.size; have yB := Nat.lt_of_lt_of_le x0 lB; have zB := Nat.lt_of_lt_of_le x1 lB)
      | (go_at_call 7; (with_reducible refine (few_any A j c _ b5 b6).mono ?_); rintro e wC ⟨rfl, rfl⟩))
    all_goals go_wp2_with fail
    all_goals go_meet
    all_goals exact ⟨rfl, two_st HX0.out HX1.out HS0.out hB _ _ _ _ _ _ _ _⟩
  case rest =>
    obtain ⟨rfl, H0, H1, H3⟩ := hcut
    obtain ⟨V1, hV1⟩ : ∃ V1, V1 = wc := ⟨_, rfl⟩
    subst hV1
    have HX1' := keepd (HX.out.at_ H3.out)
    have HY1' := keepd (HY.out.at_ H3.out)
    have HA1' := keepd (HA.out.at_ H3.out)
    clear HX0 HX1 HS0 x0 x1 f0 f1 f2 f3 r0 r1 r2 r3 g0 g1 g2 g3 t0 t1 t2 t3 HX HY HA b1 b2 b3 b4 b5 b6
    generalize X.l.take 600 = xl at *
    generalize Y.l.take 600 = yl at *
    generalize l.take 200 = al at *
    generalize min n 600 = xn at *
    generalize min m 600 = yn at *
    generalize min j 200 = an at *
    obtain ⟨⟨x0, x1, x2, x3⟩, _⟩ := H0.out.facts4
    obtain ⟨⟨⟨k2, a2, b2, l2⟩, out⟩, hf⟩ : ∃ x, feedE ⟨X.k, X.a, X.b, xl⟩ al = x := ⟨_, rfl⟩
    obtain ⟨ln2, hln2⟩ : ∃ ln2, l2.length = ln2 := ⟨_, rfl⟩
    obtain ⟨s, hs⟩ : ∃ s, out.length = s := ⟨_, rfl⟩
    obtain ⟨er, her⟩ : ∃ er, errF ⟨X.k, X.a, X.b, xl⟩ = er := ⟨_, rfl⟩
    have HF := keepd hf
    have HLn := keepd hln2
    have HS := keepd hs
    have HER := keepd her
    clear hf hln2 hs her
    go_wp2_with fail
    with_reducible refine (feed_at X.k X.a X.b X.A xl X.c A al xn an c V1 HXn.out HAn.out (by omega) (by omega) HX1'.out HA1'.out k2 a2 b2 l2 ln2 out s er HF.out HLn.out HS.out HER.out).mono ?_
    rintro e w2 ⟨A2, c2, B2, d2, L2, rfl, hL2, hR2, hI2, hb2⟩
    have HL2 := keepd hL2
    have HR2 := keepd (hR2.at_ (bAlloc (Below.refl w2.heap.size w2) (.cells #[.int .i64 k2, .int .i64 a2, .int .i64 b2, .slice A2 ln2 c2] 24)))
    have HI2 := keepd (hI2.at_ (bAlloc (Below.refl w2.heap.size w2) (.cells #[.int .i64 k2, .int .i64 a2, .int .i64 b2, .slice A2 ln2 c2] 24)))
    have hb3 := bAlloc hb2 (.cells #[.int .i64 k2, .int .i64 a2, .int .i64 b2, .slice A2 ln2 c2] 24)
    have HQ := keepd (SR.new 24 w2 [.int .i64 k2, .int .i64 a2, .int .i64 b2, .slice A2 ln2 c2])
    have H02 := keepd (H0.out.call hb3 H0.out.lt)
    have H12 := keepd (H1.out.call hb3 H1.out.lt)
    have HX2 := keepd (HX1'.out.at_ hb3)
    have HY2 := keepd (HY1'.out.at_ hb3)
    have HA2 := keepd (HA1'.out.at_ hb3)
    have HB2 := keepd (bCall H3.out hb3)
    have x5 := hb2.size
    clear hL2 hR2 hI2 hb2 hb3 H0 H1 H3 HX1' HY1' HA1' x0 x1 x2 x3
    go_wp2_with fail
    generalize w2.alloc (.cells #[.int .i64 k2, .int .i64 a2, .int .i64 b2, .slice A2 ln2 c2] 24) = V2 at *
    obtain ⟨v, hv⟩ : ∃ v, mayR ⟨X.k, X.a, X.b, xl⟩ = v := ⟨_, rfl⟩
    obtain ⟨sv, hsv⟩ : ∃ sv, sameI ⟨X.k, X.a, X.b, X.A, xl, X.c⟩ ⟨Y.k, Y.a, Y.b, Y.A, yl, Y.c⟩ = sv := ⟨_, rfl⟩
    have HC9 := keepd (fun W => rcheck_any X.k X.a X.b X.A xl xn X.c W HXn.out v hv)
    have HC10 := keepd (fun W => dmay_any X.k X.a X.b X.A xl xn X.c W HXn.out)
    rw [hv] at HC10
    have HC11 := keepd (fun W (hW : Below V2.heap.size V2 W) => rsameR_any ⟨X.k, X.a, X.b, X.A, xl, X.c⟩ ⟨Y.k, Y.a, Y.b, Y.A, yl, Y.c⟩ sv hsv xn yn HXn.out HYn.out W (HX2.out.at_ hW) (HY2.out.at_ hW))
    have HC12 := keepd (fun W (hW : Below V2.heap.size V2 W) => dsame_any ⟨X.k, X.a, X.b, X.A, xl, X.c⟩ ⟨Y.k, Y.a, Y.b, Y.A, yl, Y.c⟩ sv hsv xn yn HXn.out HYn.out W (HX2.out.at_ hW) (HY2.out.at_ hW))
    have HV := keepd hv
    have HAw := keepd rawake_any
    clear hv hsv
    go_cut [39] (fun s39 wx => s39 = .bool false ∧ Hid (Below V2.heap.size V2 wx))
    case first =>
      cases v
      all_goals
        go_region_held3 (fun W => W.cell? ⟨w.heap.size, 0, none⟩ = some (.int .i64 X.k) ∧ W.cell? ⟨w.heap.size, 1, none⟩ = some (.int .i64 X.a) ∧ W.cell? ⟨w.heap.size, 2, none⟩ = some (.int .i64 X.b) ∧ W.cell? ⟨w.heap.size, 3, none⟩ = some (.slice X.A xn X.c) ∧
            W.cell? ⟨w.heap.size + 1, 0, none⟩ = some (.int .i64 Y.k) ∧ W.cell? ⟨w.heap.size + 1, 1, none⟩ = some (.int .i64 Y.a) ∧ W.cell? ⟨w.heap.size + 1, 2, none⟩ = some (.int .i64 Y.b) ∧ W.cell? ⟨w.heap.size + 1, 3, none⟩ = some (.slice Y.A yn Y.c) ∧ Below V2.heap.size V2 W)
          ((refine sK8 H02.out H12.out ?_; repeat (first | assumption | exact Below.refl _ _ | with_reducible refine Below.drew ?_)))
          (first
            | (go_at_call 9; (with_reducible refine (HC9.out _).mono ?_); rintro e w9 ⟨rfl, hb9⟩; have hB9 : Below V2.heap.size V2 w9 := noDrew hb9)
            | (go_at_call 10; (with_reducible refine (HC10.out _).mono ?_); rintro e w10 ⟨rfl, hb10⟩; have hB10 := bCall hB9 hb10)
            | (go_at_call 11; (with_reducible refine (HC11.out _ hB10).mono ?_); rintro e w11 ⟨rfl, hb11⟩; have hB11 := bCall hB10 hb11)
            | (go_at_call 12; (with_reducible refine (HC12.out _ hB11).mono ?_); rintro e w12 ⟨rfl, hb12⟩; have hB12 := bCall hB11 hb12))
        all_goals go_wp2_with fail
        all_goals go_meet
        all_goals exact ⟨by simp, hB12⟩
    case rest =>
      obtain ⟨rfl, HB3⟩ := hcut
      obtain ⟨V3, hV3⟩ : ∃ V3, V3 = wc := ⟨_, rfl⟩
      subst hV3
      have q0 := H02.out.call HB3.out H02.out.lt
      obtain ⟨⟨x0, x1, x2, x3⟩, _⟩ := q0.facts4
      have HQ0 := keepd q0
      have HB03 := keepd (bCall HB2.out HB3.out)
      clear q0 HC9 HC11 HC12
      go_wp2_with fail
      with_reducible refine (HC10.out _).mono ?_
      rintro e w4 ⟨rfl, hb4⟩
      have h24 := bCall HB3.out hb4
      have q0 := HQ0.out.call hb4 HQ0.out.lt
      have qq := HQ.out.call h24 HQ.out.lt
      obtain ⟨⟨y0, y1, y2, y3⟩, _⟩ := q0.facts4
      obtain ⟨⟨z0, z1, z2, z3⟩, _⟩ := qq.facts4
      have HB04 := keepd (bCall HB03.out hb4)
      have HX4 := keepd (HX2.out.at_ h24)
      have HA4 := keepd (HA2.out.at_ h24)
      have HR4 := keepd (HR2.out.at_ h24)
      have HI4 := keepd (HI2.out.at_ h24)
      have HQ4 := keepd qq
      clear hb4 h24 q0 qq x0 x1 x2 x3 HQ0 HB03 HX2 HA2 HR2 HI2
      cases v
      · have hfe := feedE_no HV.out al
        rw [HF.out] at hfe
        injection hfe with hfe1 hfe2
        injection hfe1 with e1 e2 e3 e4
        subst e1 e2 e3 e4 hfe2
        have hs0 : s = 0 := by rw [← HS.out]; rfl
        have her1 : er = 1 := by rw [← HER.out]; exact errF_no HV.out
        subst hs0 her1
        have hsm : sameI ⟨X.k, X.a, X.b, A2, l2, c2⟩ ⟨X.k, X.a, X.b, X.A, l2, X.c⟩ = true := by rw [sameI_abs]; exact decide_eq_true rfl
        have HC := keepd (dsame_any ⟨X.k, X.a, X.b, A2, l2, c2⟩ ⟨X.k, X.a, X.b, X.A, l2, X.c⟩ true hsm ln2 xn HLn.out.symm HXn.out w4 HR4.out HX4.out)
        clear hsm
        go_wp2_with fail
        with_reducible refine HC.out.mono ?_
        rintro e w5 ⟨rfl, hb5⟩
        have HB5 := keepd (bCall HB04.out hb5)
        clear hb5 y0 y1 y2 y3 z0 z1 z2 z3
        go_wp2_with fail
        with_reducible refine (HAw.out _).mono ?_
        rintro e w6 ⟨rfl, hb6⟩
        have HB6 := keepd (bCall HB5.out hb6)
        clear hb6
        go_wp2
        go_ret
        exact ⟨rfl, HB6.out⟩
      · have hfe := feedE_yes HV.out al
        rw [HF.out] at hfe
        have her1 : er = 0 := by rw [← HER.out]; exact errF_yes HV.out
        subst her1
        have HD := keepd (dfeed_any ⟨X.k, X.a, X.b, X.A, xl, X.c⟩ A al xn an c w4 HXn.out HAn.out (by omega) HX4.out HA4.out HV.out)
        have HFE : Hid (feed (Itm.abs ⟨X.k, X.a, X.b, X.A, xl, X.c⟩) al = (⟨k2, a2, b2, l2⟩, out)) := hfe.symm
        rw [HFE.out] at HD
        clear hfe HFE
        go_wp2_with fail
        with_reducible refine HD.out.mono ?_
        rintro e w5 ⟨Q, B5, d5, M5, rfl, hQ, hM, hrQ, hrM, hb5⟩
        have hs5 : M5.length = s := by rw [← HS.out, ← List.length_map (f := Itm.abs), hM]
        rw [hs5]
        have qq := HQ4.out.call hb5 HQ4.out.lt
        obtain ⟨⟨m0, m1, m2, m3⟩, _⟩ := qq.facts4
        have mlt := qq.lt
        have hsm : sameI ⟨k2, a2, b2, A2, l2, c2⟩ Q = true := by rw [sameI_abs]; exact decide_eq_true hQ.symm
        have hsl : sameL L2 M5 = true := by rw [sameL_abs, HL2.out]; exact decide_eq_true hM.symm
        have HB5 := keepd (bCall HB04.out hb5)
        have HRQ := keepd hrQ
        have HRM := keepd hrM
        have HR5 := keepd (HR4.out.at_ hb5)
        have HI5 := keepd (HI4.out.at_ hb5)
        have HSm := keepd hsm
        have HSl := keepd hsl
        have HS5 := keepd hs5.symm
        have HL5 : Hid (s = L2.length) := by show _ = _; rw [← HS.out, ← HL2.out, List.length_map]
        clear hb5 hQ hM hrQ hrM hsm hsl hs5 qq y0 y1 y2 y3 z0 z1 z2 z3 HB04 HR4 HI4 HX4 HA4
        have B5' : ∀ o, Below w5.heap.size w5 (w5.alloc o) := fun o => bAlloc (Below.refl _ _) o
        go_wp2_with fail
        with_reducible refine (dsame_any ⟨k2, a2, b2, A2, l2, c2⟩ Q true HSm.out ln2 Q.l.length HLn.out.symm rfl _ (HR5.out.at_ (B5' _)) (HRQ.out.at_ (B5' _))).mono ?_
        rintro e w6 ⟨rfl, hb6⟩
        have h56 : Below w5.heap.size w5 w6 := upA hb6
        have HB6 := keepd (bCall HB5.out h56)
        have HI6 := keepd (HI5.out.at_ h56)
        have HM6 := keepd (HRM.out.at_ h56)
        clear hb6 h56 m0 m1 m2 m3 HB5 HI5 HRM HRQ HR5
        go_wp2_with fail
        with_reducible refine (rsame_any B2 B5 L2 M5 s s d2 d5 w6 HL5.out HS5.out HI6.out HM6.out).mono ?_
        rintro e w7 ⟨rfl, hb7⟩
        rw [HSl.out]
        have HB7 := keepd (bCall HB6.out hb7)
        clear hb7
        go_wp2_with fail
        with_reducible refine (HAw.out _).mono ?_
        rintro e w8 ⟨rfl, hb8⟩
        have HB8 := keepd (bCall HB7.out hb8)
        clear hb8
        go_wp2
        go_ret
        exact ⟨rfl, HB8.out⟩

end Go.Proofs.Ytmgkfibkeonpmaa
