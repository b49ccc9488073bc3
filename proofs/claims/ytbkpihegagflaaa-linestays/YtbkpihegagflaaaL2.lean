/-
  LineStays' walk. No conditions beyond those each theorem states.
-/
import Derived.Test.YtbkpihegagflaaaL0
namespace Go.Proofs.Ytbkpihegagflaaa
open Go.RowKit
set_option maxRecDepth 100000

set_option maxHeartbeats 8000000 in
theorem stays_law (A : Option Addr) (l : List UInt8) (c : Nat) (z : Int) (u : UInt8) (room : Int) (over : Bool) (A2 : Option Addr) (fs : List UInt8) (c2 : Nat) (w : World) (hr : Rd w w.heap.size A l c) (hr2 : Rd w w.heap.size A2 fs c2) :
    Calls Try.prog 4 #[.agg #[.slice A l.length c, .int .i64 z], .agg #[.int .u8 (u.toNat : Int), .int .i64 room, .bool over], .slice A2 fs.length c2] w fun e w' => e = .returned (.bool true) ∧ Below w.heap.size w w' := by
  obtain ⟨n, hn⟩ : ∃ n, n = l.length := ⟨_, rfl⟩
  obtain ⟨n2, hn2⟩ : ∃ n2, n2 = fs.length := ⟨_, rfl⟩
  rw [← hn, ← hn2]
  have HF0 := keepd hr2
  have HN2 := keepd hn2
  have hc3 : n2 ≤ c2 := by rw [hn2]; exact hr2.1
  have hc4 := hr2.2.1
  unfold maxLen at hc4
  clear hr2 hn2
  have HN := keepd hn
  have HR0 := keepd hr
  obtain ⟨m, hm⟩ : ∃ m, (fewL l).length = m := ⟨_, rfl⟩
  have HM := keepd hm
  have hm1 : m ≤ 4100 := by rw [← hm]; exact (few_le l).1
  clear hn hr hm
  go_enter Try.func4, Try.ntmps4
  go_upto_region 1 with fail
  generalize hV : (w.alloc (.cells #[.slice A n c, .int .i64 z] 24)).alloc (.cells #[.int .u8 (u.toNat : Int), .int .i64 room, .bool over] 26) = V
  obtain ⟨H, HK, HB⟩ := key_new _ _ _ _ _ _ _ hV
  obtain ⟨k0, k1, k2, k3, kt⟩ := line_facts H.out
  have CF := keepd (few_any A l n c m z V HN.out (HR0.out.at_ HB.out) HM.out)
  clear hV
  go_wp2_with fail
  with_reducible refine CF.out.mono ?_
  rintro e w1 ⟨rfl, hb1⟩
  have H1 := keepd (SR.call H.out hb1 H.out.lt)
  have HK1 := keepd (SR.call HK.out hb1 HK.out.lt)
  have HB1 := keepd (bCall HB.out hb1)
  obtain ⟨k0, k1, k2, k3, kt⟩ := line_facts H1.out
  clear hb1 CF H HB
  go_upto_region 2 with fail
  generalize hV : (w1.setCell ⟨w.heap.size, 0, none⟩ (.slice A m c)).setCell ⟨w.heap.size, 1, none⟩ (.int .i64 z) = V
  have HK2 := keepd (key_far HK1.out (Nat.succ_ne_self _) hV)
  obtain ⟨H, HB⟩ := few_set (Nat.le_refl _) H1.out HB1.out _ hV
  have HR := keepd (HR0.out.few.at_ HB.out)
  generalize fewL l = x at *
  obtain ⟨k0, k1, k2, k3, kt⟩ := line_facts H.out
  clear hV H1 HB1 HR0 HN
  cases hv : mayV m z
  case false =>
    have CK := keepd (check_bad A m c z V hv)
    go_wp2_with fail
    with_reducible refine CK.out.mono ?_
    rintro e w2 ⟨rfl, hb2⟩
    have HB2 := keepd (bCall HB.out hb2)
    clear hb2
    go_wp2_with fail
    with_reducible refine (awake_any _).mono ?_
    rintro e wz ⟨rfl, hbz⟩
    have HBz := keepd (bCall HB2.out hbz)
    clear hbz
    go_wp2_with fail
    go_ret
    exact ⟨rfl, HBz.out⟩
  obtain ⟨h4, t, rfl, ht⟩ := mayV_inv hv
  have CK := keepd (check_ok A m c t V h4 ht)
  clear hv hm1
  go_wp2_with fail
  with_reducible refine CK.out.mono ?_
  rintro e w2 ⟨rfl, hb2⟩
  have HB2 := keepd (bCall HB.out hb2)
  have H2 := keepd (SR.call H.out hb2 H.out.lt)
  have HK3 := keepd (SR.call HK2.out hb2 HK2.out.lt)
  have HR2 := keepd (HR.out.at_ hb2)
  have HMM := keepd (And.intro h4 ht)
  have HM2 := keepd (show m = x.length from HM.out.symm)
  clear hb2 CK k0 k1 k2 k3 kt h4 ht HB H HK2 HR HM HK1
  go_wp2_with fail
  go_loopw [7] (fun vi wr => ∃ (k : Nat) (B : Option Addr) (y : List UInt8) (p d s : Nat), k ≤ n2 ∧ vi = .int .i64 k ∧ Hid (SR 24 wr w.heap.size [.slice B p d, .int .i64 (s : Int)]) ∧ Hid (SR 26 wr (w.heap.size + 1) [.int .u8 (u.toNat : Int), .int .i64 room, .bool over]) ∧ Hid (Rd wr wr.heap.size B y d) ∧ Hid (p = y.length) ∧ Hid (p ≤ 4096 ∧ s ≤ p) ∧ Hid (Below w.heap.size w wr)) (fun vi _ => n2 - (intOf vi).toNat)
  case atStart => exact ⟨0, A, x, m, c, t, by omega, rfl, H2, HK3, HR2, HM2, HMM, HB2⟩
  clear H2 HK3 HR2 HM2 HMM HB2
  case round =>
    obtain ⟨k, B, y, p, d, s, hk, rfl, HL, HK, HR, HP, HS, HB⟩ := hrel
    rcases Nat.lt_or_ge k n2 with hlt | hge
    case inr =>
      have z0 : ¬ (k : Int) < (n2 : Int) := by omega
      have z1 : ¬ k < n2 := by omega
      go_wp2_with fail
      with_reducible refine (awake_any _).mono ?_
      rintro e wz ⟨rfl, hbz⟩
      have HBz := keepd (bCall HB.out hbz)
      clear hbz
      go_wp2_with fail
      go_ret
      exact ⟨rfl, HBz.out⟩
    rcases Nat.lt_or_ge k 60 with h60 | h60
    case inr =>
      have z0 : (k : Int) < (n2 : Int) := by omega
      have z1 : ¬ (k : Int) < 60 := by omega
      have z2 : ¬ k < 60 := by omega
      go_wp2_with fail
      with_reducible refine (awake_any _).mono ?_
      rintro e wz ⟨rfl, hbz⟩
      have HBz := keepd (bCall HB.out hbz)
      clear hbz
      go_wp2_with fail
      go_ret
      exact ⟨rfl, HBz.out⟩
    have z0 : (k : Int) < (n2 : Int) := by omega
    have z1 : (k : Int) < 60 := by omega
    have z2 : (0 : Int) ≤ (k : Int) := by omega
    obtain ⟨fb, fo, hA2, hfb⟩ := HF0.out.addr (by rw [← HN2.out]; omega)
    cases hA2
    have f0 := (HF0.out.at_ HB.out).cellk (k := k) (by rw [← HN2.out]; exact hlt)
    have F0 := keepd f0
    generalize fs.getD k 0 = v at *
    obtain ⟨q, hq⟩ : ∃ q : Int, (v.toNat : Int) % 32 = q := ⟨_, rfl⟩
    have hq2 : (v.toNat : Int).tmod 32 = q := by rw [← hq, Int.tmod_eq_emod_of_nonneg (by omega)]
    have q0 : 0 ≤ q := by omega
    have q1 : q < 32 := by omega
    have q2 : q ≤ 255 := by omega
    have q3 : IntKind.i64.wrap q = q := by rw [IntKind.wrap_i64]; omega
    obtain ⟨k0, k1, k2, k3, kt⟩ := line_facts HL.out
    have K0 := keepd k0
    have K1 := keepd k1
    have KT := keepd kt
    have fbl : fb < wr.heap.size := Nat.lt_of_lt_of_le hfb HB.out.size
    obtain ⟨y1, s1, hd1⟩ : ∃ y1 s1, doR y s q = (y1, s1) := ⟨_, _, rfl⟩
    obtain ⟨d1, hs1⟩ : ∃ d1, (doL y s q).isSome = d1 := ⟨_, rfl⟩
    obtain ⟨p1, hp1⟩ : ∃ p1, y1.length = p1 := ⟨_, rfl⟩
    have hle : s ≤ y.length := by rw [← HP.out]; exact HS.out.2
    have HD := keepd fun (W : World) (hb : Below wr.heap.size wr W) => do_go B y y1 p d s s1 p1 q d1 W HP.out (HR.out.at_ hb) HS.out.1 HS.out.2 hd1 hs1 hp1
    have SP := keepd (doR_spec hle hd1)
    have HP1 := keepd hp1.symm
    have HS1 := keepd hs1
    clear hd1 hs1 hp1 hle
    go_wp2_with fail
    go_cut [8, 9] from 28 to 39 (fun s8 s9 wx => ∃ (b8 : Nat) (B1 : Option Addr) (e1 : Nat), s8 = .pointer (some ⟨b8, 0, none⟩) ∧ s9 = .bool d1 ∧ Hid (Mid wr b8 B1 p1 e1 y1 (s1 : Int) wx))
    case first =>
      go_region_held3 (fun W => W.cell? ⟨w.heap.size, 0, none⟩ = some (.slice B p d) ∧ W.cell? ⟨w.heap.size, 1, none⟩ = some (.int .i64 (s : Int)) ∧ W.cell? ⟨fb, fo + k, none⟩ = some (.int .u8 (v.toNat : Int)) ∧ Below wr.heap.size wr W)
        ((refine sR K0.out K1.out F0.out KT.out fbl ?_; repeat (first | assumption | exact Below.refl _ _ | with_reducible refine Below.setCell ?_ (Nat.le_refl wr.heap.size) _ | with_reducible refine bAlloc ?_ _ | with_reducible refine Below.drew ?_)))
        (first | (go_at_call 12; (with_reducible refine (HD.out _ ?_).mono ?_); (focus (repeat (first | assumption | exact Below.refl _ _ | with_reducible refine bAlloc ?_ _ | with_reducible refine Below.drew ?_))); rintro e w4 ⟨⟨B1, e1, rfl, ho⟩, hb4⟩; have hbb : Below wr.heap.size wr w4 := (by first | exact noDrew hb4 | exact upD hb4); (first | (have HMid := keepd (mid_b (z := (s1 : Int)) ho hb4); obtain ⟨m0, m1, m2, m3, lt⟩ := z_of hb4) | have HMid := keepd (mid_a (wr := wr) (z := (s1 : Int)) ho (Nat.le_refl _) hbb)); clear ho))
      all_goals go_wp2_with fail
      all_goals go_meet
      all_goals exact ⟨_, _, _, rfl, rfl, HMid⟩
    case rest =>
      obtain ⟨b8, B1, e1, rfl, rfl, HMid⟩ := hcut
      obtain ⟨V3, hV3⟩ : ∃ V3, V3 = wc := ⟨_, rfl⟩
      subst hV3
      have h8 := HMid.out.1
      have hb3 := HMid.out.2.2
      have H8 := keepd h8
      have HL3 := keepd (SR.call HL.out hb3 HL.out.lt)
      have HK3 := keepd (SR.call HK.out hb3 HK.out.lt)
      have HY := keepd (HR.out.at_ hb3)
      have HY1 := keepd HMid.out.rd
      have HB3 := keepd (bCall HB.out hb3)
      have lg : w.heap.size < V3.heap.size := HL3.out.lt
      obtain ⟨sp1, sp2, sp3⟩ := SP.out
      rw [← HP1.out] at sp1 sp2
      rw [← HP.out] at sp2
      have hp4 := HS.out.1
      have hsp := HS.out.2
      have h41 : p1 ≤ 4096 := Nat.le_trans sp2 hp4
      obtain ⟨k0, k1, k2, k3, kt⟩ := line_facts HL3.out
      obtain ⟨j0, j1, j2, j3, jt⟩ := line_facts H8.out
      obtain ⟨c0, c1, c2'⟩ := key_facts HK3.out
      have g0 : ¬ (p1 : Int) > (p : Int) := by omega
      have g1 : ¬ (p : Int) < (p1 : Int) := by omega
      have g2 : ¬ p < p1 := by omega
      have CK := keepd (check_ok B1 p1 e1 s1 V3 h41 sp1)
      have HSP := keepd sp3
      clear hb3 h8 HMid HL HK HR HB HD SP F0 f0 hq hq2 q0 q1 q2 q3 K0 K1 KT sp3
      obtain ⟨y2, s2, hd2⟩ : ∃ y2 s2, tyR y1 s1 room over u = (y2, s2) := ⟨_, _, rfl⟩
      obtain ⟨d2, hs2⟩ : ∃ d2, (tyL y1 s1 room over u).isSome = d2 := ⟨_, rfl⟩
      obtain ⟨p2, hp2⟩ : ∃ p2, y2.length = p2 := ⟨_, rfl⟩
      have ST := tyR_spec (by rw [← HP1.out]; exact sp1) hd2
      rw [← HP1.out, hp2, hs2] at ST
      have HT := keepd fun (W : World) (hb : Below V3.heap.size V3 W) => ty_go B1 y1 y2 p1 e1 s1 s2 p2 room over u d2 W HP1.out (HY1.out.at_ hb) h41 sp1 hd2 hs2 hp2
      have HP2 := keepd hp2.symm
      clear hd2 hs2 hp2
      have hw1 : IntKind.i64.wrap ((s1 : Int) + 1) = (s1 : Int) + 1 := by rw [IntKind.wrap_i64]; omega
      have hw2 : IntKind.i64.wrap ((p1 : Int) + 1) = (p1 : Int) + 1 := by rw [IntKind.wrap_i64]; omega
      cases d1
      · obtain ⟨rfl, rfl⟩ := HSP.out HS1.out
        obtain rfl : p1 = p := by rw [HP1.out, HP.out]
        have CS := keepd fun (W : World) (hb : Below V3.heap.size V3 W) => same_any B1 B y1 y1 p1 p1 e1 d (s1 : Int) (s1 : Int) true W HP1.out HP1.out (HY1.out.at_ hb) (HY.out.at_ hb) (by simp)
        go_wp2_with fail
        with_reducible refine CK.out.mono ?_
        rintro e w5 ⟨rfl, hb5⟩
        have HA := keepd hb5
        clear CK
        obtain ⟨k0, k1, k2, k3, kt⟩ := line_facts (SR.call HL3.out hb5 HL3.out.lt)
        obtain ⟨j0, j1, j2, j3, jt⟩ := line_facts (SR.call H8.out hb5 H8.out.lt)
        obtain ⟨c0, c1, c2'⟩ := key_facts (SR.call HK3.out hb5 HK3.out.lt)
        go_wp2_with fail
        with_reducible refine (CS.out _ hb5).mono ?_
        rintro e w6 ⟨rfl, hb6⟩
        have hb56 := bCall hb5 hb6
        clear HA
        have HA := keepd hb56
        obtain ⟨k0, k1, k2, k3, kt⟩ := line_facts (SR.call HL3.out hb56 HL3.out.lt)
        obtain ⟨j0, j1, j2, j3, jt⟩ := line_facts (SR.call H8.out hb56 H8.out.lt)
        obtain ⟨c0, c1, c2'⟩ := key_facts (SR.call HK3.out hb56 HK3.out.lt)
        clear hb6 hb56 CS
        clear hb5 HSP
        rcases ST with ST | ⟨st0, st1, st2, ST | ST⟩
        · obtain ⟨rfl, hy, hs⟩ := ST
          replace hy := hy.symm
          replace hs := hs.symm
          subst hy hs
          obtain rfl : p1 = p2 := by rw [HP1.out, HP2.out]
          go_wp2_with fail
          with_reducible refine (HT.out _ HA.out).mono ?_
          rintro e w7 ⟨⟨B2, e2, rfl, ho⟩, hb7⟩
          have HA7 := keepd (bCall HA.out hb7)
          have HY2 := keepd (ho.base HA.out.size)
          clear hb7 ho HT
          go_upto_region 11 with fail
          generalize hV5 : w7.alloc (.cells #[.slice B2 p1 e2, .int .i64 (s1 : Int)] 24) = V5
          obtain ⟨H10, HBV, _⟩ := line_new1 _ _ _ _ hV5
          have HA5 := keepd (bCall HA7.out HBV.out)
          have HY5 := keepd (HY2.out.below HBV.out)
          clear hV5 HBV HA7 HY2
          obtain ⟨m0, m1, m2, m3, mt⟩ := line_facts H10.out
          obtain ⟨j0, j1, j2, j3, jt⟩ := line_facts (SR.call H8.out HA5.out H8.out.lt)
          obtain ⟨c0, c1, c2'⟩ := key_facts (SR.call HK3.out HA5.out HK3.out.lt)
          have CK2 := keepd (check_ok B2 p1 e2 s1 V5 h41 sp1)
          have CS2 := keepd fun (W : World) (hb : Below V5.heap.size V5 W) => same_any B2 B1 y1 y1 p1 p1 e2 e1 (s1 : Int) (s1 : Int) true W HP1.out HP1.out (HY5.out.rdOf.at_ hb) ((HY1.out.at_ HA5.out).at_ hb) (by simp)
          go_wp2_with fail
          with_reducible refine CK2.out.mono ?_
          rintro e w8 ⟨rfl, hb8⟩
          have HA8 := keepd (bCall HA5.out hb8)
          obtain ⟨m0, m1, m2, m3, mt⟩ := line_facts (SR.call H10.out hb8 H10.out.lt)
          obtain ⟨j0, j1, j2, j3, jt⟩ := line_facts (SR.call H8.out HA8.out H8.out.lt)
          obtain ⟨c0, c1, c2'⟩ := key_facts (SR.call HK3.out HA8.out HK3.out.lt)
          have HY8 := keepd (HY5.out.below hb8)
          go_wp2_with fail
          with_reducible refine (CS2.out _ hb8).mono ?_
          rintro e w9 ⟨rfl, hb9⟩
          have HA9 := keepd (bCall HA8.out hb9)
          obtain ⟨m0, m1, m2, m3, mt⟩ := line_facts (SR.call (SR.call H10.out hb8 H10.out.lt) hb9 (SR.call H10.out hb8 H10.out.lt).lt)
          obtain ⟨j0, j1, j2, j3, jt⟩ := line_facts (SR.call H8.out HA9.out H8.out.lt)
          obtain ⟨c0, c1, c2'⟩ := key_facts (SR.call HK3.out HA9.out HK3.out.lt)
          have HY9 := keepd (HY8.out.below hb9)
          clear hb9 CS2
          obtain ⟨_, _, n2', n3', nt'⟩ := line_facts (SR.call HL3.out HA9.out HL3.out.lt)
          have HG9 := keepd (SR.call HL3.out HA9.out HL3.out.lt)
          have HK9 := keepd (SR.call HK3.out HA9.out HK3.out.lt)
          have HB9 := keepd (bCall HB3.out HA9.out)
          have hfin := few_set (Nat.le_refl _) HG9.out HB9.out (x' := .slice B2 p1 e2) (y' := .int .i64 (s1 : Int)) _ rfl
          have hfk := keepd (key_far (x := .slice B2 p1 e2) (y := .int .i64 (s1 : Int)) HK9.out (Nat.succ_ne_self _) rfl)
          have hfr := keepd (rd_set HY9.out lg (x := .slice B2 p1 e2) (y := .int .i64 (s1 : Int)))
          clear hb8 CK2 HA8 HY8 HY5 H10 HA5 HA
          go_wp2_with fail
          go_roundw
          case rel => exact ⟨k + 1, B2, y1, p1, e2, s1, by omega, by go_num, hfin.1, hfk, hfr, HP1, keepd (by omega), hfin.2⟩
          case measure => simp [intOf]; omega
        · obtain ⟨rfl, rfl, st1, rfl⟩ := And.intro st0 (And.intro st1 (And.intro st2 ST))
          have ST1 := keepd st1
          clear st1
          clear st0 st2 ST
          go_wp2_with fail
          with_reducible refine (HT.out _ HA.out).mono ?_
          rintro e w7 ⟨⟨B2, e2, rfl, ho⟩, hb7⟩
          have HA7 := keepd (bCall HA.out hb7)
          have HY2 := keepd (ho.base HA.out.size)
          clear hb7 ho HT
          go_upto_region 11 with fail
          generalize hV5 : w7.alloc (.cells #[.slice B2 p2 e2, .int .i64 ((s1 : Int) + 1)] 24) = V5
          obtain ⟨H10, HBV, _⟩ := line_new1 _ _ _ _ hV5
          have HA5 := keepd (bCall HA7.out HBV.out)
          have HY5 := keepd (HY2.out.below HBV.out)
          clear hV5 HBV HA7 HY2
          obtain ⟨m0, m1, m2, m3, mt⟩ := line_facts H10.out
          obtain ⟨j0, j1, j2, j3, jt⟩ := line_facts (SR.call H8.out HA5.out H8.out.lt)
          obtain ⟨c0, c1, c2'⟩ := key_facts (SR.call HK3.out HA5.out HK3.out.lt)
          have CK2 := keepd (check_ok B2 p2 e2 (s1 + 1) V5 h41 ST1.out)
          rw [show ((s1 + 1 : Nat) : Int) = (s1 : Int) + 1 from rfl] at CK2
          go_wp2_with fail
          with_reducible refine CK2.out.mono ?_
          rintro e w8 ⟨rfl, hb8⟩
          have HA8 := keepd (bCall HA5.out hb8)
          obtain ⟨m0, m1, m2, m3, mt⟩ := line_facts (SR.call H10.out hb8 H10.out.lt)
          obtain ⟨j0, j1, j2, j3, jt⟩ := line_facts (SR.call H8.out HA8.out H8.out.lt)
          obtain ⟨c0, c1, c2'⟩ := key_facts (SR.call HK3.out HA8.out HK3.out.lt)
          have HY8 := keepd (HY5.out.below hb8)
          have HA9 := HA8
          have HY9 := HY8
          obtain ⟨_, _, n2', n3', nt'⟩ := line_facts (SR.call HL3.out HA9.out HL3.out.lt)
          have HG9 := keepd (SR.call HL3.out HA9.out HL3.out.lt)
          have HK9 := keepd (SR.call HK3.out HA9.out HK3.out.lt)
          have HB9 := keepd (bCall HB3.out HA9.out)
          have hfin := few_set (Nat.le_refl _) HG9.out HB9.out (x' := .slice B2 p2 e2) (y' := .int .i64 ((s1 : Int) + 1)) _ rfl
          have hfk := keepd (key_far (x := .slice B2 p2 e2) (y := .int .i64 ((s1 : Int) + 1)) HK9.out (Nat.succ_ne_self _) rfl)
          have hfr := keepd (rd_set HY9.out lg (x := .slice B2 p2 e2) (y := .int .i64 ((s1 : Int) + 1)))
          clear hb8 CK2 HA8 HY8 HY5 H10 HA5 HA
          go_wp2_with fail
          go_roundw
          case rel => exact ⟨k + 1, B2, y2, p2, e2, (s1 + 1), by omega, by go_num, hfin.1, hfk, hfr, HP2, keepd ⟨h41, ST1.out⟩, hfin.2⟩
          case measure => simp [intOf]; omega
        · obtain ⟨rfl, rfl, st1, rfl, st3, st4⟩ := And.intro st0 (And.intro st1 (And.intro st2 ST))
          have ST1 := keepd st1
          clear st1
          clear st0 st2 ST
          go_wp2_with fail
          with_reducible refine (HT.out _ HA.out).mono ?_
          rintro e w7 ⟨⟨B2, e2, rfl, ho⟩, hb7⟩
          have HA7 := keepd (bCall HA.out hb7)
          have HY2 := keepd (ho.base HA.out.size)
          clear hb7 ho HT
          go_upto_region 11 with fail
          generalize hV5 : w7.alloc (.cells #[.slice B2 (p1 + 1) e2, .int .i64 ((s1 : Int) + 1)] 24) = V5
          obtain ⟨H10, HBV, _⟩ := line_new1 _ _ _ _ hV5
          have HA5 := keepd (bCall HA7.out HBV.out)
          have HY5 := keepd (HY2.out.below HBV.out)
          clear hV5 HBV HA7 HY2
          obtain ⟨m0, m1, m2, m3, mt⟩ := line_facts H10.out
          obtain ⟨j0, j1, j2, j3, jt⟩ := line_facts (SR.call H8.out HA5.out H8.out.lt)
          obtain ⟨c0, c1, c2'⟩ := key_facts (SR.call HK3.out HA5.out HK3.out.lt)
          have CK2 := keepd (check_ok B2 (p1 + 1) e2 (s1 + 1) V5 st4 ST1.out)
          rw [show ((s1 + 1 : Nat) : Int) = (s1 : Int) + 1 from rfl] at CK2
          have v0 : (p1 : Int) + 1 > (p1 : Int) := by omega
          have v1 : (p1 : Int) < (p1 : Int) + 1 := by omega
          have v2 : ¬ (p1 : Int) + 1 > room := by omega
          have v3 : ¬ room < (p1 : Int) + 1 := by omega
          go_wp2_with fail
          with_reducible refine CK2.out.mono ?_
          rintro e w8 ⟨rfl, hb8⟩
          have HA8 := keepd (bCall HA5.out hb8)
          obtain ⟨m0, m1, m2, m3, mt⟩ := line_facts (SR.call H10.out hb8 H10.out.lt)
          obtain ⟨j0, j1, j2, j3, jt⟩ := line_facts (SR.call H8.out HA8.out H8.out.lt)
          obtain ⟨c0, c1, c2'⟩ := key_facts (SR.call HK3.out HA8.out HK3.out.lt)
          have HY8 := keepd (HY5.out.below hb8)
          have HA9 := HA8
          have HY9 := HY8
          obtain ⟨_, _, n2', n3', nt'⟩ := line_facts (SR.call HL3.out HA9.out HL3.out.lt)
          have HG9 := keepd (SR.call HL3.out HA9.out HL3.out.lt)
          have HK9 := keepd (SR.call HK3.out HA9.out HK3.out.lt)
          have HB9 := keepd (bCall HB3.out HA9.out)
          have hfin := few_set (Nat.le_refl _) HG9.out HB9.out (x' := .slice B2 (p1 + 1) e2) (y' := .int .i64 ((s1 : Int) + 1)) _ rfl
          have hfk := keepd (key_far (x := .slice B2 (p1 + 1) e2) (y := .int .i64 ((s1 : Int) + 1)) HK9.out (Nat.succ_ne_self _) rfl)
          have hfr := keepd (rd_set HY9.out lg (x := .slice B2 (p1 + 1) e2) (y := .int .i64 ((s1 : Int) + 1)))
          clear hb8 CK2 HA8 HY8 HY5 H10 HA5 HA
          go_wp2_with fail
          go_roundw
          case rel => exact ⟨k + 1, B2, y2, (p1 + 1), e2, (s1 + 1), by omega, by go_num, hfin.1, hfk, hfr, HP2, keepd (by omega), hfin.2⟩
          case measure => simp [intOf]; omega
      · go_wp2_with fail
        with_reducible refine CK.out.mono ?_
        rintro e w5 ⟨rfl, hb5⟩
        have HA := keepd hb5
        clear CK
        obtain ⟨k0, k1, k2, k3, kt⟩ := line_facts (SR.call HL3.out hb5 HL3.out.lt)
        obtain ⟨j0, j1, j2, j3, jt⟩ := line_facts (SR.call H8.out hb5 H8.out.lt)
        obtain ⟨c0, c1, c2'⟩ := key_facts (SR.call HK3.out hb5 HK3.out.lt)
        clear hb5 HSP
        rcases ST with ST | ⟨st0, st1, st2, ST | ST⟩
        · obtain ⟨rfl, hy, hs⟩ := ST
          replace hy := hy.symm
          replace hs := hs.symm
          subst hy hs
          obtain rfl : p1 = p2 := by rw [HP1.out, HP2.out]
          go_wp2_with fail
          with_reducible refine (HT.out _ HA.out).mono ?_
          rintro e w7 ⟨⟨B2, e2, rfl, ho⟩, hb7⟩
          have HA7 := keepd (bCall HA.out hb7)
          have HY2 := keepd (ho.base HA.out.size)
          clear hb7 ho HT
          go_upto_region 11 with fail
          generalize hV5 : w7.alloc (.cells #[.slice B2 p1 e2, .int .i64 (s1 : Int)] 24) = V5
          obtain ⟨H10, HBV, _⟩ := line_new1 _ _ _ _ hV5
          have HA5 := keepd (bCall HA7.out HBV.out)
          have HY5 := keepd (HY2.out.below HBV.out)
          clear hV5 HBV HA7 HY2
          obtain ⟨m0, m1, m2, m3, mt⟩ := line_facts H10.out
          obtain ⟨j0, j1, j2, j3, jt⟩ := line_facts (SR.call H8.out HA5.out H8.out.lt)
          obtain ⟨c0, c1, c2'⟩ := key_facts (SR.call HK3.out HA5.out HK3.out.lt)
          have CK2 := keepd (check_ok B2 p1 e2 s1 V5 h41 sp1)
          have CS2 := keepd fun (W : World) (hb : Below V5.heap.size V5 W) => same_any B2 B1 y1 y1 p1 p1 e2 e1 (s1 : Int) (s1 : Int) true W HP1.out HP1.out (HY5.out.rdOf.at_ hb) ((HY1.out.at_ HA5.out).at_ hb) (by simp)
          go_wp2_with fail
          with_reducible refine CK2.out.mono ?_
          rintro e w8 ⟨rfl, hb8⟩
          have HA8 := keepd (bCall HA5.out hb8)
          obtain ⟨m0, m1, m2, m3, mt⟩ := line_facts (SR.call H10.out hb8 H10.out.lt)
          obtain ⟨j0, j1, j2, j3, jt⟩ := line_facts (SR.call H8.out HA8.out H8.out.lt)
          obtain ⟨c0, c1, c2'⟩ := key_facts (SR.call HK3.out HA8.out HK3.out.lt)
          have HY8 := keepd (HY5.out.below hb8)
          go_wp2_with fail
          with_reducible refine (CS2.out _ hb8).mono ?_
          rintro e w9 ⟨rfl, hb9⟩
          have HA9 := keepd (bCall HA8.out hb9)
          obtain ⟨m0, m1, m2, m3, mt⟩ := line_facts (SR.call (SR.call H10.out hb8 H10.out.lt) hb9 (SR.call H10.out hb8 H10.out.lt).lt)
          obtain ⟨j0, j1, j2, j3, jt⟩ := line_facts (SR.call H8.out HA9.out H8.out.lt)
          obtain ⟨c0, c1, c2'⟩ := key_facts (SR.call HK3.out HA9.out HK3.out.lt)
          have HY9 := keepd (HY8.out.below hb9)
          clear hb9 CS2
          obtain ⟨_, _, n2', n3', nt'⟩ := line_facts (SR.call HL3.out HA9.out HL3.out.lt)
          have HG9 := keepd (SR.call HL3.out HA9.out HL3.out.lt)
          have HK9 := keepd (SR.call HK3.out HA9.out HK3.out.lt)
          have HB9 := keepd (bCall HB3.out HA9.out)
          have hfin := few_set (Nat.le_refl _) HG9.out HB9.out (x' := .slice B2 p1 e2) (y' := .int .i64 (s1 : Int)) _ rfl
          have hfk := keepd (key_far (x := .slice B2 p1 e2) (y := .int .i64 (s1 : Int)) HK9.out (Nat.succ_ne_self _) rfl)
          have hfr := keepd (rd_set HY9.out lg (x := .slice B2 p1 e2) (y := .int .i64 (s1 : Int)))
          clear hb8 CK2 HA8 HY8 HY5 H10 HA5 HA
          go_wp2_with fail
          go_roundw
          case rel => exact ⟨k + 1, B2, y1, p1, e2, s1, by omega, by go_num, hfin.1, hfk, hfr, HP1, keepd (by omega), hfin.2⟩
          case measure => simp [intOf]; omega
        · obtain ⟨rfl, rfl, st1, rfl⟩ := And.intro st0 (And.intro st1 (And.intro st2 ST))
          have ST1 := keepd st1
          clear st1
          clear st0 st2 ST
          go_wp2_with fail
          with_reducible refine (HT.out _ HA.out).mono ?_
          rintro e w7 ⟨⟨B2, e2, rfl, ho⟩, hb7⟩
          have HA7 := keepd (bCall HA.out hb7)
          have HY2 := keepd (ho.base HA.out.size)
          clear hb7 ho HT
          go_upto_region 11 with fail
          generalize hV5 : w7.alloc (.cells #[.slice B2 p2 e2, .int .i64 ((s1 : Int) + 1)] 24) = V5
          obtain ⟨H10, HBV, _⟩ := line_new1 _ _ _ _ hV5
          have HA5 := keepd (bCall HA7.out HBV.out)
          have HY5 := keepd (HY2.out.below HBV.out)
          clear hV5 HBV HA7 HY2
          obtain ⟨m0, m1, m2, m3, mt⟩ := line_facts H10.out
          obtain ⟨j0, j1, j2, j3, jt⟩ := line_facts (SR.call H8.out HA5.out H8.out.lt)
          obtain ⟨c0, c1, c2'⟩ := key_facts (SR.call HK3.out HA5.out HK3.out.lt)
          have CK2 := keepd (check_ok B2 p2 e2 (s1 + 1) V5 h41 ST1.out)
          rw [show ((s1 + 1 : Nat) : Int) = (s1 : Int) + 1 from rfl] at CK2
          go_wp2_with fail
          with_reducible refine CK2.out.mono ?_
          rintro e w8 ⟨rfl, hb8⟩
          have HA8 := keepd (bCall HA5.out hb8)
          obtain ⟨m0, m1, m2, m3, mt⟩ := line_facts (SR.call H10.out hb8 H10.out.lt)
          obtain ⟨j0, j1, j2, j3, jt⟩ := line_facts (SR.call H8.out HA8.out H8.out.lt)
          obtain ⟨c0, c1, c2'⟩ := key_facts (SR.call HK3.out HA8.out HK3.out.lt)
          have HY8 := keepd (HY5.out.below hb8)
          have HA9 := HA8
          have HY9 := HY8
          obtain ⟨_, _, n2', n3', nt'⟩ := line_facts (SR.call HL3.out HA9.out HL3.out.lt)
          have HG9 := keepd (SR.call HL3.out HA9.out HL3.out.lt)
          have HK9 := keepd (SR.call HK3.out HA9.out HK3.out.lt)
          have HB9 := keepd (bCall HB3.out HA9.out)
          have hfin := few_set (Nat.le_refl _) HG9.out HB9.out (x' := .slice B2 p2 e2) (y' := .int .i64 ((s1 : Int) + 1)) _ rfl
          have hfk := keepd (key_far (x := .slice B2 p2 e2) (y := .int .i64 ((s1 : Int) + 1)) HK9.out (Nat.succ_ne_self _) rfl)
          have hfr := keepd (rd_set HY9.out lg (x := .slice B2 p2 e2) (y := .int .i64 ((s1 : Int) + 1)))
          clear hb8 CK2 HA8 HY8 HY5 H10 HA5 HA
          go_wp2_with fail
          go_roundw
          case rel => exact ⟨k + 1, B2, y2, p2, e2, (s1 + 1), by omega, by go_num, hfin.1, hfk, hfr, HP2, keepd ⟨h41, ST1.out⟩, hfin.2⟩
          case measure => simp [intOf]; omega
        · obtain ⟨rfl, rfl, st1, rfl, st3, st4⟩ := And.intro st0 (And.intro st1 (And.intro st2 ST))
          have ST1 := keepd st1
          clear st1
          clear st0 st2 ST
          go_wp2_with fail
          with_reducible refine (HT.out _ HA.out).mono ?_
          rintro e w7 ⟨⟨B2, e2, rfl, ho⟩, hb7⟩
          have HA7 := keepd (bCall HA.out hb7)
          have HY2 := keepd (ho.base HA.out.size)
          clear hb7 ho HT
          go_upto_region 11 with fail
          generalize hV5 : w7.alloc (.cells #[.slice B2 (p1 + 1) e2, .int .i64 ((s1 : Int) + 1)] 24) = V5
          obtain ⟨H10, HBV, _⟩ := line_new1 _ _ _ _ hV5
          have HA5 := keepd (bCall HA7.out HBV.out)
          have HY5 := keepd (HY2.out.below HBV.out)
          clear hV5 HBV HA7 HY2
          obtain ⟨m0, m1, m2, m3, mt⟩ := line_facts H10.out
          obtain ⟨j0, j1, j2, j3, jt⟩ := line_facts (SR.call H8.out HA5.out H8.out.lt)
          obtain ⟨c0, c1, c2'⟩ := key_facts (SR.call HK3.out HA5.out HK3.out.lt)
          have CK2 := keepd (check_ok B2 (p1 + 1) e2 (s1 + 1) V5 st4 ST1.out)
          rw [show ((s1 + 1 : Nat) : Int) = (s1 : Int) + 1 from rfl] at CK2
          have v0 : (p1 : Int) + 1 > (p1 : Int) := by omega
          have v1 : (p1 : Int) < (p1 : Int) + 1 := by omega
          have v2 : ¬ (p1 : Int) + 1 > room := by omega
          have v3 : ¬ room < (p1 : Int) + 1 := by omega
          go_wp2_with fail
          with_reducible refine CK2.out.mono ?_
          rintro e w8 ⟨rfl, hb8⟩
          have HA8 := keepd (bCall HA5.out hb8)
          obtain ⟨m0, m1, m2, m3, mt⟩ := line_facts (SR.call H10.out hb8 H10.out.lt)
          obtain ⟨j0, j1, j2, j3, jt⟩ := line_facts (SR.call H8.out HA8.out H8.out.lt)
          obtain ⟨c0, c1, c2'⟩ := key_facts (SR.call HK3.out HA8.out HK3.out.lt)
          have HY8 := keepd (HY5.out.below hb8)
          have HA9 := HA8
          have HY9 := HY8
          obtain ⟨_, _, n2', n3', nt'⟩ := line_facts (SR.call HL3.out HA9.out HL3.out.lt)
          have HG9 := keepd (SR.call HL3.out HA9.out HL3.out.lt)
          have HK9 := keepd (SR.call HK3.out HA9.out HK3.out.lt)
          have HB9 := keepd (bCall HB3.out HA9.out)
          have hfin := few_set (Nat.le_refl _) HG9.out HB9.out (x' := .slice B2 (p1 + 1) e2) (y' := .int .i64 ((s1 : Int) + 1)) _ rfl
          have hfk := keepd (key_far (x := .slice B2 (p1 + 1) e2) (y := .int .i64 ((s1 : Int) + 1)) HK9.out (Nat.succ_ne_self _) rfl)
          have hfr := keepd (rd_set HY9.out lg (x := .slice B2 (p1 + 1) e2) (y := .int .i64 ((s1 : Int) + 1)))
          clear hb8 CK2 HA8 HY8 HY5 H10 HA5 HA
          go_wp2_with fail
          go_roundw
          case rel => exact ⟨k + 1, B2, y2, (p1 + 1), e2, (s1 + 1), by omega, by go_num, hfin.1, hfk, hfr, HP2, keepd (by omega), hfin.2⟩
          case measure => simp [intOf]; omega

end Go.Proofs.Ytbkpihegagflaaa
