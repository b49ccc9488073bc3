/-
  The law SlcTells. No conditions beyond those each theorem states.
-/
import Derived.Test.YtemmdknnmhdhkaaDoorL5
import Derived.Test.YtemmdknnmhdhkaaDoorT7
import Derived.Test.YtemmdknnmhdhkaaDoorT8
import Derived.Test.YtemmdknnmhdhkaaDoorL1
namespace Go.Proofs.YtemmdknnmhdhkaaDoor
open Go.RowKit
set_option maxRecDepth 100000

/-- A triple's cells, in every world that has w1's old memory. -/
theorem sAt {w1 W : World} {b o : Nat} {u0 u1 u2 u3 u4 u5 : Value} (k0 : w1.cell? ⟨b, o, none⟩ = some u0) (k1 : w1.cell? ⟨b, o + 1, none⟩ = some u1) (k2 : w1.cell? ⟨b, o + 2, none⟩ = some u2) (k3 : w1.cell? ⟨b, o + 3, none⟩ = some u3) (k4 : w1.cell? ⟨b, o + 4, none⟩ = some u4) (k5 : w1.cell? ⟨b, o + 5, none⟩ = some u5)
    (hb : b < w1.heap.size) (h : Below w1.heap.size w1 W) :
    W.cell? ⟨b, o, none⟩ = some u0 ∧ W.cell? ⟨b, o + 1, none⟩ = some u1 ∧ W.cell? ⟨b, o + 2, none⟩ = some u2 ∧ W.cell? ⟨b, o + 3, none⟩ = some u3 ∧ W.cell? ⟨b, o + 4, none⟩ = some u4 ∧ W.cell? ⟨b, o + 5, none⟩ = some u5 ∧ Below w1.heap.size w1 W :=
  ⟨(h.cell (p := ⟨b, _, none⟩) hb).trans k0, (h.cell (p := ⟨b, _, none⟩) hb).trans k1, (h.cell (p := ⟨b, _, none⟩) hb).trans k2, (h.cell (p := ⟨b, _, none⟩) hb).trans k3, (h.cell (p := ⟨b, _, none⟩) hb).trans k4, (h.cell (p := ⟨b, _, none⟩) hb).trans k5, h⟩

set_option maxHeartbeats 2000000 in
theorem tells_law (A A' : Option Addr) (L : List Tr) (l' : List UInt8) (n n' c c' : Nat) (num : Int) (w : World) (hn : n = L.length) (hn' : n' = l'.length) (hr : RdT w A L c) (hr' : Rd w w.heap.size A' l' c') (hL : Laid w) :
    Calls Tryd.prog 3 #[.slice A n c, .slice A' n' c', .int .i64 num] w fun e w' => e = .returned (.bool true) ∧ Below w.heap.size w w' := by
  have HL := keepd hL
  have k1 := hr.1
  have k2 := hr.2.1
  have k3 := hr'.1
  have k4 := hr'.2.1
  rw [← hn] at k1
  rw [← hn'] at k3
  obtain ⟨T, hT⟩ : ∃ T, L.take 60 = T := ⟨_, rfl⟩
  obtain ⟨b, hb⟩ : ∃ b, l'.take 200 = b := ⟨_, rfl⟩
  obtain ⟨nt, hnt⟩ : ∃ nt, min n 60 = nt := ⟨_, rfl⟩
  obtain ⟨nb, hnb⟩ : ∃ nb, min n' 200 = nb := ⟨_, rfl⟩
  have HRt := keepd (hr.take 60)
  have HRb := keepd (hr'.take 200)
  rw [hT] at HRt
  rw [hb] at HRb
  have hlt : nt = T.length := by rw [← hT, ← hnt, List.length_take, hn]; omega
  have hlb : nb = b.length := by rw [← hb, ← hnb, List.length_take, hn']; omega
  have la : nt ≤ 60 := by omega
  have lb : nb ≤ 200 := by omega
  have HF := keepd (few_any3 A n c w k1 k2 nt hnt)
  have HF' := keepd (few_any2 A' n' c' w k3 k4 nb hnb)
  have HNT := keepd hlt
  have HNB := keepd hlb
  clear hr hr' hL hT hb hnt hnb k1 k2 k3 k4 hn hn' hlt hlb
  obtain ⟨G, hG⟩ : ∃ G, gotL b = G := ⟨_, rfl⟩
  obtain ⟨ng, hng⟩ : ∃ ng, G.length = ng := ⟨_, rfl⟩
  obtain ⟨er, her⟩ : ∃ er, gerr b = er := ⟨_, rfl⟩
  obtain ⟨vg, hvg⟩ : ∃ v, (getL b).isSome = v := ⟨_, rfl⟩
  have hev : er = if vg then 0 else 2 := by rw [← her, ← hvg]; rfl
  have HG := keepd hG
  have HNG := keepd hng
  have HER := keepd her
  have HVG := keepd hvg
  clear hG hng her hvg
  obtain ⟨P, hP⟩ : ∃ P, putL T = P := ⟨_, rfl⟩
  obtain ⟨z, hz⟩ : ∃ z, P.length = z := ⟨_, rfl⟩
  obtain ⟨e, he⟩ : ∃ e, perr T = e := ⟨_, rfl⟩
  obtain ⟨vp, hvp⟩ : ∃ v, allT T = v := ⟨_, rfl⟩
  have hpv : e = if vp then 0 else 1 := by rw [← he, ← hvp]; rfl
  have HP := keepd hP
  have HZ := keepd hz
  have HE := keepd he
  have HVP := keepd hvp
  clear hP hz he hvp
  have q1 : (vp = true ∧ e = 0) ∨ (vp = false ∧ e = 1) := by
    cases vp
    · exact .inr ⟨rfl, hpv⟩
    · exact .inl ⟨rfl, hpv⟩
  have q2 : (vg = true ∧ er = 0) ∨ (vg = false ∧ er = 2) := by
    cases vg
    · exact .inr ⟨rfl, hev⟩
    · exact .inl ⟨rfl, hev⟩
  clear hev hpv
  have HQ1 := keepd q1
  have HQ2 := keepd q2
  clear q1 q2
  obtain ⟨cm, hcm⟩ : ∃ x, cmdF num = x := ⟨_, rfl⟩
  obtain ⟨sg, hsg⟩ : ∃ x, sigF num = x := ⟨_, rfl⟩
  have HC := keepd (cmd_any num)
  have HSg := keepd (sig_any num)
  have HRC := keepd (rcmd_any num)
  have HRS := keepd (rsig_any num)
  rw [hcm] at HC HRC
  rw [hsg] at HSg HRS
  clear hcm hsg
  go_enter Tryd.func3, Tryd.ntmps3
  go_wp2_with fail
  with_reducible refine HF.out.mono ?_
  rintro e1 w1 ⟨rfl, rfl⟩
  go_wp2_with fail
  with_reducible refine HF'.out.mono ?_
  rintro e1 w1 ⟨rfl, rfl⟩
  clear HF HF'
  go_wp2_with fail
  go_loopw [7] (fun vi wr => ∃ k : Nat, k ≤ nt ∧ vi = .int .i64 k ∧ Hid (Below w.heap.size w wr)) (fun vi _ => nt - (intOf vi).toNat)
  case atStart => exact ⟨0, by omega, rfl, Below.refl _ _⟩
  case round =>
    obtain ⟨k, hk, rfl, HB⟩ := hrel
    by_cases hlt : k < nt
    · have hkL : k < T.length := by rw [← HNT.out]; exact hlt
      obtain ⟨b0, off, rfl, hbl, hat⟩ := (HRt.out.at_ HB.out).get k hkL
      generalize T[k] = X at *
      obtain ⟨e0, e1, e2, e3, e4, e5⟩ := hat
      obtain ⟨v, hv⟩ : ∃ v, mayT X.f X.lv = v := ⟨_, rfl⟩
      have HCk := fun w => check_any X.f X.lv X.a X.i X.o (X.v.toNat : Int) v hv w
      have HMk := fun w => may_any X.f X.lv X.a X.i X.o (X.v.toNat : Int) v hv w
      have E0 := keepd e0
      have E1 := keepd e1
      have E2 := keepd e2
      have E3 := keepd e3
      have E4 := keepd e4
      have E5 := keepd e5
      have i0 : (0 : Int) ≤ (k : Int) := by omega
      have i1 : (k : Int) < (nt : Int) := by omega
      clear hv
      cases v
      all_goals
        go_wp2_with fail
        go_region_held3 (fun W => W.cell? ⟨b0, off + k * 6, none⟩ = some (.int .i64 X.f) ∧ W.cell? ⟨b0, off + k * 6 + 1, none⟩ = some (.int .i64 X.lv) ∧ W.cell? ⟨b0, off + k * 6 + 2, none⟩ = some (.bool X.a) ∧ W.cell? ⟨b0, off + k * 6 + 3, none⟩ = some (.bool X.i) ∧ W.cell? ⟨b0, off + k * 6 + 4, none⟩ = some (.bool X.o) ∧ W.cell? ⟨b0, off + k * 6 + 5, none⟩ = some (.int .u8 (X.v.toNat : Int)) ∧ Below wr.heap.size wr W)
          ((refine sAt E0.out E1.out E2.out E3.out E4.out E5.out hbl ?_; repeat (first | assumption | exact Below.refl _ _ | with_reducible refine bAlloc ?_ _ | with_reducible refine Below.drew ?_)))
          (first | (go_at_call 11; (with_reducible refine (HCk _).mono ?_); rintro e w4 ⟨rfl, hb4'⟩; have hbb : Below wr.heap.size wr w4 := (by refine bCall ?_ hb4'; repeat (first | assumption | exact Below.refl _ _ | with_reducible refine Below.drew ?_))) | (go_at_call 12; (with_reducible refine (HMk _).mono ?_); rintro e w5 ⟨rfl, hb5'⟩; have hbc : Below wr.heap.size wr w5 := (by refine bCall ?_ hb5'; repeat (first | assumption | exact Below.refl _ _ | with_reducible refine Below.drew ?_))))
        have HB5 := keepd (bCall HB.out hbc)
        clear hbb hbc hb4' hb5' HCk HMk e0 e1 e2 e3 e4 e5
        go_wp2
        go_roundw
        case rel => exact ⟨k + 1, by omega, by go_num, HB5⟩
        case measure => simp [intOf]; omega
    · obtain rfl : k = nt := by omega
      have hgk : decide ((k : Int) < (k : Int)) = false := by simp
      have HRt1 := keepd (HRt.out.at_ HB.out)
      have HRb1 := keepd (HRb.out.at_ HB.out)
      have HL1 := keepd (HL.out.below HB.out)
      clear HRt HRb
      have HC1 := keepd (HC.out wr HL1.out)
      have HS1 := keepd (HSg.out wr HL1.out)
      have HR1 := keepd (HRC.out wr)
      clear HC HSg HRC
      go_wp2_with fail
      with_reducible refine HC1.out.mono ?_
      rintro e1 w1 ⟨rfl, rfl⟩
      go_wp2_with fail
      with_reducible refine HS1.out.mono ?_
      rintro e1 w1 ⟨rfl, rfl⟩
      clear HC1 HS1
      have j1 : (cm != cm) = false := by simp
      have j2 : (sg != sg) = false := by simp
      generalize hdc : decide (cm > 0) = dc
      generalize hds : decide (sg > 0) = ds
      have j3 : (dc == dc) = true := by simp
      have j4 : (ds == ds) = true := by simp
      have j5 : decide (0 < cm) = dc := hdc
      have j6 : decide (0 < sg) = ds := hds
      clear hdc hds
      go_wp2_with fail
      with_reducible refine HR1.out.mono ?_
      rintro e1 w2 ⟨rfl, hb2⟩
      have HB2 := keepd (bCall HB.out hb2)
      have HRt2 := keepd (HRt1.out.at_ hb2)
      have HRb2 := keepd (HRb1.out.at_ hb2)
      have HR2 := keepd (HRS.out w2)
      clear hb2 HRt1 HRb1 HR1 HRS HB
      go_wp2_with (go_at_call 16; with_reducible refine HR2.out.mono ?_; rintro e1 w3 ⟨rfl, hb3⟩)
      have HB3 := keepd (bCall HB2.out hb3)
      have HRt3 := keepd (HRt2.out.at_ hb3)
      have HRb3 := keepd (HRb2.out.at_ hb3)
      clear hb3 HRt2 HRb2 HR2 HB2 j1 j2 j3 j4 j5 j6
      with_reducible refine (put_any A T k c P z e _ HNT.out (by omega) HRt3.out HP.out HZ.out HE.out).mono ?_
      rintro e1 w4 ⟨A4, c4, rfl, hx4, hb4⟩
      have HB4 := keepd (bCall HB3.out hb4)
      have HRt4 := keepd (HRt3.out.at_ hb4)
      have HRb4 := keepd (HRb3.out.at_ hb4)
      have HP4 := keepd hx4
      clear hx4 hb4 HRt3 HRb3 HB3
      go_wp2_with fail
      with_reducible refine (rput_any A T k c P z vp _ HNT.out (by omega) HRt4.out HP.out HZ.out HVP.out).mono ?_
      rintro e1 w5 ⟨A5, c5, rfl, hx5, hb5⟩
      have HB5 := keepd (bCall HB4.out hb5)
      have HRb5 := keepd (HRb4.out.at_ hb5)
      have HP5 := keepd (HP4.out.at_ hb5)
      have HQ5 := keepd hx5
      clear hx5 hb5 HRt4 HRb4 HB4 HP4
      go_wp2_with fail
      with_reducible refine (get_any A' b nb c' G ng er _ HNB.out (by omega) HRb5.out HG.out HNG.out HER.out).mono ?_
      rintro e1 w6 ⟨A6, c6, rfl, hx6, hb6⟩
      have HB6 := keepd (bCall HB5.out hb6)
      have HRb6 := keepd (HRb5.out.at_ hb6)
      have HP6 := keepd (HP5.out.at_ hb6)
      have HQ6 := keepd (HQ5.out.at_ hb6)
      have HG6 := keepd hx6
      clear hx6 hb6 HRb5 HB5 HP5 HQ5
      go_wp2_with fail
      with_reducible refine (rget_any A' b nb c' G ng vg _ HNB.out (by omega) HRb6.out HG.out HNG.out HVG.out).mono ?_
      rintro e1 w7 ⟨A7, c7, rfl, hx7, hb7⟩
      have HB7 := keepd (bCall HB6.out hb7)
      have HO := keepd (octets_any A4 A5 P P z z c4 c5 _ w7 HZ.out.symm HZ.out.symm (HP6.out.at_ hb7) (HQ6.out.at_ hb7))
      rw [show (P == P) = true by simp] at HO
      have HSm := keepd (same_any A6 A7 G G ng ng c6 c7 true w7 HNG.out.symm HNG.out.symm (HG6.out.at_ hb7) hx7 (decide_eq_true rfl))
      have HL7 := keepd (HL.out.below HB7.out)
      have HA : Hid (∀ W, Below w7.heap.size w7 W → Calls Tryd.prog 23 #[] W fun e w' => e = .returned (.bool true) ∧ Below W.heap.size W w') := fun W hW => awake_any W (HL7.out.below hW)
      clear hx7 hb7 HRb6 HB6 HP6 HQ6 HG6 HNT HNB HVP HVG
      have q1 := HQ1.out
      have q2 := HQ2.out
      rcases q1 with ⟨rfl, rfl⟩ | ⟨rfl, rfl⟩ <;> rcases q2 with ⟨rfl, rfl⟩ | ⟨rfl, rfl⟩
      all_goals
        go_wp2_with (first | (go_at_call 21; with_reducible refine HO.out.mono ?_; rintro e w8 ⟨rfl, rfl⟩) | (go_at_call 22; with_reducible refine HSm.out.mono ?_; rintro e w9 ⟨rfl, hb9⟩) | (go_at_call 23; with_reducible refine (HA.out _ hb9).mono ?_; rintro e w10 ⟨rfl, hb10⟩))
        go_ret
        exact ⟨rfl, bCall HB7.out (bCall hb9 hb10)⟩

end Go.Proofs.YtemmdknnmhdhkaaDoor
