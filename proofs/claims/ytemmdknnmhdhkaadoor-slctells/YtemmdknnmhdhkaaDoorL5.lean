/-
  The law SlcBack. No conditions beyond those each theorem states.
-/
import Derived.Test.YtemmdknnmhdhkaaDoorL4
namespace Go.Proofs.YtemmdknnmhdhkaaDoor
open Go.RowKit
set_option maxRecDepth 100000

theorem glen (l : List UInt8) : 3 * (gotL l).length ≤ l.length := by
  cases h : getL l with
  | none => rw [(got_no h).1]; simp
  | some L => rw [(got_yes h).1]; have := get_len h; omega

set_option maxHeartbeats 1000000 in
theorem back_law (A A' : Option Addr) (L : List Tr) (l' : List UInt8) (n n' c c' : Nat) (w : World) (hn : n = L.length) (hn' : n' = l'.length) (hr : RdT w A L c) (hr' : Rd w w.heap.size A' l' c') (hL : Laid w) :
    Calls Tryd.prog 4 #[.slice A n c, .slice A' n' c'] w fun e w' => e = .returned (.bool true) ∧ Below w.heap.size w w' := by
  have HL := keepd hL
  have k1 := hr.1
  have k2 := hr.2.1
  have k3 := hr'.1
  have k4 := hr'.2.1
  rw [← hn] at k1
  rw [← hn'] at k3
  obtain ⟨T, hT⟩ : ∃ T, L.take 60 = T := ⟨_, rfl⟩
  obtain ⟨b, hb⟩ : ∃ b, l'.take 200 = b := ⟨_, rfl⟩
  obtain ⟨nt, hnt⟩ : ∃ nt, min n 60 = nt := ⟨_, rfl⟩
  obtain ⟨nb, hnb⟩ : ∃ nb, min n' 200 = nb := ⟨_, rfl⟩
  have HRt := keepd (hr.take 60)
  have HRb := keepd (hr'.take 200)
  rw [hT] at HRt
  rw [hb] at HRb
  have hlt : nt = T.length := by rw [← hT, ← hnt, List.length_take, hn]; omega
  have hlb : nb = b.length := by rw [← hb, ← hnb, List.length_take, hn']; omega
  have la : nt ≤ 60 := by omega
  have lb : nb ≤ 200 := by omega
  have HF := keepd (few_any3 A n c w k1 k2 nt hnt)
  have HF' := keepd (few_any2 A' n' c' w k3 k4 nb hnb)
  have HNT := keepd hlt
  have HNB := keepd hlb
  clear hr hr' hL hT hb hnt hnb k1 k2 k3 k4 hn hn' hlt hlb
  obtain ⟨G, hG⟩ : ∃ G, gotL b = G := ⟨_, rfl⟩
  obtain ⟨ng, hng⟩ : ∃ ng, G.length = ng := ⟨_, rfl⟩
  obtain ⟨er, her⟩ : ∃ er, gerr b = er := ⟨_, rfl⟩
  have lg : 3 * ng ≤ nb := by
    have := glen b
    rw [hG, hng, ← HNB.out] at this
    exact this
  have HG := keepd hG
  have HNG := keepd hng
  have HER := keepd her
  clear hG hng her
  obtain ⟨P, hP⟩ : ∃ P, putL T = P := ⟨_, rfl⟩
  obtain ⟨z, hz⟩ : ∃ z, P.length = z := ⟨_, rfl⟩
  obtain ⟨e, he⟩ : ∃ e, perr T = e := ⟨_, rfl⟩
  have HP := keepd hP
  have HZ := keepd hz
  have HE := keepd he
  clear hP hz he
  go_enter Tryd.func4, Tryd.ntmps4
  go_wp2_with fail
  with_reducible refine HF.out.mono ?_
  rintro e1 w1 ⟨rfl, rfl⟩
  go_wp2_with fail
  with_reducible refine HF'.out.mono ?_
  rintro e1 w1 ⟨rfl, rfl⟩
  go_wp2_with fail
  with_reducible refine (put_any A T nt c P z e _ HNT.out (by omega) HRt.out HP.out HZ.out HE.out).mono ?_
  rintro e1 w1 ⟨A1, c1, rfl, hx1, hb1⟩
  have HB1 := keepd hb1
  have HX1 := keepd hx1
  have HRt1 := keepd (HRt.out.at_ hb1)
  have HRb1 := keepd (HRb.out.at_ hb1)
  clear hx1 hb1 HRt HRb HF HF'
  cases hm : allT T
  · obtain ⟨p1, p2⟩ := put_no hm
    rw [HE.out] at p2
    subst p2
    have HB2 := HB1
    have HRb2 := HRb1
    clear p1 hm HB1 HRb1
    go_wp2_with fail
    with_reducible refine (get_any A' b nb c' G ng er _ HNB.out (by omega) HRb2.out HG.out HNG.out HER.out).mono ?_
    rintro e1 w3 ⟨A3, c3, rfl, hx3, hb3⟩
    have HB3 := keepd (bCall HB2.out hb3)
    have HX3 := keepd hx3
    have HRb3 := keepd (HRb2.out.at_ hb3)
    have HL3 := keepd (HL.out.below HB3.out)
    clear hx3 hb3 HB2 HRb2
    cases hg : getL b with
    | none =>
      obtain ⟨p1, p2⟩ := got_no hg
      rw [HG.out] at p1
      rw [HER.out] at p2
      subst p1 p2
      have hz0 := HNG.out
      simp at hz0
      subst hz0
      clear hg
      have HA := keepd (awake_any w3 HL3.out)
      go_wp2_with (go_at_call 23; with_reducible refine HA.out.mono ?_; rintro e w9 ⟨rfl, hb9⟩)
      go_ret
      exact ⟨rfl, bCall HB3.out hb9⟩
    | some G' =>
      obtain ⟨p1, p2⟩ := got_yes hg
      rw [HG.out] at p1
      rw [HER.out] at p2
      subst p1 p2
      obtain ⟨q1, q2⟩ := lies_get b G hg
      obtain ⟨t1, t2⟩ := put_yes q2
      rw [q1] at t1
      have HT1 := keepd t1
      have HT2 := keepd t2
      clear hg q1 q2 t1 t2
      go_wp2_with fail
      with_reducible refine (put_any A3 G ng c3 b nb 0 _ HNG.out.symm (by omega) HX3.out HT1.out HNB.out.symm HT2.out).mono ?_
      rintro e1 w4 ⟨A4, c4, rfl, hx4, hb4⟩
      have HB4 := keepd (bCall HB3.out hb4)
      have HA := keepd (awake_any w4 (HL3.out.below hb4))
      have HO := keepd (octets_any A4 A' b b nb nb c4 c' _ w4 HNB.out HNB.out hx4 (HRb3.out.at_ hb4))
      rw [show (b == b) = true by simp] at HO
      clear hx4 hb4 HX3 HRb3 HB3 HT1 HT2
      go_wp2_with (first | (go_at_call 21; with_reducible refine HO.out.mono ?_; rintro e w8 ⟨rfl, rfl⟩) | (go_at_call 23; with_reducible refine HA.out.mono ?_; rintro e w9 ⟨rfl, hb9⟩))
      go_ret
      exact ⟨rfl, bCall HB4.out hb9⟩
  · obtain ⟨p1, p2⟩ := put_yes hm
    rw [HE.out] at p2
    subst p2
    rw [HP.out] at p1
    obtain ⟨t1, t2⟩ := got_yes (get_lies T hm)
    rw [← p1] at t1 t2
    have hz3 : z = 3 * nt := by rw [← HZ.out, p1, liesL_len, HNT.out]
    have HT1 := keepd t1
    have HT2 := keepd t2
    have hzl : z ≤ 180 := by omega
    have j1 : ((z : Int) != 3 * (nt : Int)) = false := by simp; omega
    clear p1 hm t1 t2 hz3
    go_wp2_with fail
    with_reducible refine (get_any A1 P z c1 T nt 0 _ HZ.out.symm (by omega) HX1.out HT1.out HNT.out.symm HT2.out).mono ?_
    rintro e1 w2 ⟨A2, c2, rfl, hx2, hb2⟩
    have HS := keepd (same_any A2 A T T nt nt c2 c true w2 HNT.out HNT.out hx2 (HRt1.out.at_ hb2) (decide_eq_true rfl))
    have HB1' := keepd (bCall HB1.out hb2)
    have HRb1' := keepd (HRb1.out.at_ hb2)
    clear hx2 hb2 HB1 HRb1 HX1 HRt1 HT1 HT2
    go_wp2_with (go_at_call 22; with_reducible refine HS.out.mono ?_; rintro e w5 ⟨rfl, hb5⟩)
    have HB2 := keepd (bCall HB1'.out hb5)
    have HRb2 := keepd (HRb1'.out.at_ hb5)
    clear hb5 HB1' HRb1'
    with_reducible refine (get_any A' b nb c' G ng er _ HNB.out (by omega) HRb2.out HG.out HNG.out HER.out).mono ?_
    rintro e1 w3 ⟨A3, c3, rfl, hx3, hb3⟩
    have HB3 := keepd (bCall HB2.out hb3)
    have HX3 := keepd hx3
    have HRb3 := keepd (HRb2.out.at_ hb3)
    have HL3 := keepd (HL.out.below HB3.out)
    clear hx3 hb3 HB2 HRb2
    cases hg : getL b with
    | none =>
      obtain ⟨p1, p2⟩ := got_no hg
      rw [HG.out] at p1
      rw [HER.out] at p2
      subst p1 p2
      have hz0 := HNG.out
      simp at hz0
      subst hz0
      clear hg
      have HA := keepd (awake_any w3 HL3.out)
      go_wp2_with (go_at_call 23; with_reducible refine HA.out.mono ?_; rintro e w9 ⟨rfl, hb9⟩)
      go_ret
      exact ⟨rfl, bCall HB3.out hb9⟩
    | some G' =>
      obtain ⟨p1, p2⟩ := got_yes hg
      rw [HG.out] at p1
      rw [HER.out] at p2
      subst p1 p2
      obtain ⟨q1, q2⟩ := lies_get b G hg
      obtain ⟨t1, t2⟩ := put_yes q2
      rw [q1] at t1
      have HT1 := keepd t1
      have HT2 := keepd t2
      clear hg q1 q2 t1 t2
      go_wp2_with fail
      with_reducible refine (put_any A3 G ng c3 b nb 0 _ HNG.out.symm (by omega) HX3.out HT1.out HNB.out.symm HT2.out).mono ?_
      rintro e1 w4 ⟨A4, c4, rfl, hx4, hb4⟩
      have HB4 := keepd (bCall HB3.out hb4)
      have HA := keepd (awake_any w4 (HL3.out.below hb4))
      have HO := keepd (octets_any A4 A' b b nb nb c4 c' _ w4 HNB.out HNB.out hx4 (HRb3.out.at_ hb4))
      rw [show (b == b) = true by simp] at HO
      clear hx4 hb4 HX3 HRb3 HB3 HT1 HT2
      go_wp2_with (first | (go_at_call 21; with_reducible refine HO.out.mono ?_; rintro e w8 ⟨rfl, rfl⟩) | (go_at_call 23; with_reducible refine HA.out.mono ?_; rintro e w9 ⟨rfl, hb9⟩))
      go_ret
      exact ⟨rfl, bCall HB4.out hb9⟩

end Go.Proofs.YtemmdknnmhdhkaaDoor
