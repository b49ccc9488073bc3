/-
  The law ItemTells, walked: it returns true, whatever the items and the octets.
-/
import Derived.Test.YtagfoidljficoaaDoorK3
import Derived.Test.YtagfoidljficoaaDoorJoins
namespace Go.Proofs.YtagfoidljficoaaDoor
open Go.RowKit

/-- An item's cells, in every world that has w1's old memory. -/
theorem sOfI {w1 W : World} {b o : Nat} {u0 u1 u2 u3 : Value} (k0 : w1.cell? ⟨b, o, none⟩ = some u0) (k1 : w1.cell? ⟨b, o + 1, none⟩ = some u1) (k2 : w1.cell? ⟨b, o + 2, none⟩ = some u2) (k3 : w1.cell? ⟨b, o + 3, none⟩ = some u3) (hb : b < w1.heap.size) (h : Below w1.heap.size w1 W) :
    W.cell? ⟨b, o, none⟩ = some u0 ∧ W.cell? ⟨b, o + 1, none⟩ = some u1 ∧ W.cell? ⟨b, o + 2, none⟩ = some u2 ∧ W.cell? ⟨b, o + 3, none⟩ = some u3 ∧ Below w1.heap.size w1 W :=
  ⟨(h.cell (p := ⟨b, o, none⟩) hb).trans k0, (h.cell (p := ⟨b, o + 1, none⟩) hb).trans k1, (h.cell (p := ⟨b, o + 2, none⟩) hb).trans k2, (h.cell (p := ⟨b, o + 3, none⟩) hb).trans k3, h⟩

set_option maxRecDepth 100000 in
set_option maxHeartbeats 4000000 in
theorem tells_law (A A' D : Option Addr) (L L' : List Itm) (l : List UInt8) (n n' nd c c' cd : Nat) (w : World) (hn : n = L.length) (hn' : n' = L'.length) (hnd : nd = l.length) (hr : RdI w A L c) (hr' : RdI w A' L' c') (hrd : Rd w w.heap.size D l cd) :
    Calls Tryd.prog 3 #[.slice A n c, .slice A' n' c', .slice D nd cd] w fun e w' => e = .returned (.bool true) ∧ Below w.heap.size w w' := by
  have c1 := hrd.1
  have c2 := hrd.2.1
  rw [← hnd] at c1
  have HF := fun w => few_any D nd cd w c1 c2
  have HRd : Hid (Rd w w.heap.size D (l.take 200) cd) := hrd.take 200
  have HNd : Hid (min nd 200 = (l.take 200).length) := by show _ = _; rw [List.length_take, ← hnd]; omega
  have HR := keepd hr
  have HR' := keepd hr'
  have HN := keepd hn
  have HN' := keepd hn'
  generalize l.take 200 = d at *
  obtain ⟨md, hmd⟩ : ∃ md, min nd 200 = md := ⟨_, rfl⟩
  have hd2 : md ≤ 200 := by omega
  rw [hmd] at HNd HF
  clear hr hr' hrd hn hn' hnd hmd c1 c2
  go_enter Tryd.func3, Tryd.ntmps3
  go_wp2_with fail
  with_reducible refine (fewI_any A L n c _ HN.out HR.out).mono ?_
  rintro e w1 ⟨A1, k1, rfl, hx1, hb1⟩
  have HX1 := keepd hx1
  have HB1 := keepd hb1
  have HXr := keepd (HR'.out.at_ hb1)
  have hl1 := fewI_len L
  clear hx1 hb1 HR HR'
  generalize fewI L = a at *
  obtain ⟨na, hna⟩ : ∃ na, a.length = na := ⟨_, rfl⟩
  rw [hna] at hl1 ⊢
  have ha4 : na ≤ 40 := by omega
  have HNA := keepd hna.symm
  clear hna hl1
  go_wp2_with fail
  with_reducible refine (fewI_any A' L' n' c' _ HN'.out HXr.out).mono ?_
  rintro e w2 ⟨A2, k2, rfl, hx2, hb2⟩
  have HX2 := keepd hx2
  have HB2 := keepd (bCall HB1.out hb2)
  have HX1' := keepd (HX1.out.at_ hb2)
  have hl2 := fewI_len L'
  clear hx2 hb2 HX1 HXr HB1
  generalize fewI L' = b at *
  obtain ⟨nb, hnb⟩ : ∃ nb, b.length = nb := ⟨_, rfl⟩
  rw [hnb] at hl2 ⊢
  have hb4 : nb ≤ 40 := by omega
  have HNB := keepd hnb.symm
  clear hnb hl2
  go_wp2_with (go_at_call 10; with_reducible refine (HF _).mono ?_; rintro e w3 ⟨rfl, rfl⟩)
  have q1 := HX1'.out.1
  have q2 := HX1'.out.2.1
  rw [← HNA.out] at q1
  unfold maxLen at q2
  clear HF
  go_loopw [7] (fun vi wr => ∃ k : Nat, k ≤ na ∧ vi = .int .i64 k ∧ Hid (Below w2.heap.size w2 wr)) (fun vi _ => na - (intOf vi).toNat)
  case atStart => exact ⟨0, by omega, rfl, Below.refl _ _⟩
  case round =>
    obtain ⟨k, hk, rfl, HB⟩ := hrel
    by_cases hlt : k < na
    · have hkL : k < a.length := by rw [← HNA.out]; exact hlt
      obtain ⟨b0, off, hA, hbl, hce⟩ := (HX1'.out.at_ HB.out).2.2.1 (by intro e; rw [e] at hkL; simp at hkL)
      subst hA
      obtain ⟨e0, e1, e2, e3⟩ := hce k hkL
      generalize a[k] = X at *
      obtain ⟨v, hv⟩ : ∃ v, mayN X.k X.a X.b X.l.length = v := ⟨_, rfl⟩
      have HCk := fun w => check_any X.k X.a X.b X.A X.l.length X.c v hv w
      have HMk := fun w => may_any X.k X.a X.b X.A X.l.length X.c w
      rw [hv] at HMk
      have E0 := keepd e0
      have E1 := keepd e1
      have E2 := keepd e2
      have E3 := keepd e3
      have i0 : (0 : Int) ≤ (k : Int) := by omega
      have i1 : (k : Int) < (na : Int) := by omega
      clear hce hv
      cases v
      all_goals
        go_wp2_with fail
        go_region_held3 (fun W => W.cell? ⟨b0, off + k * 4, none⟩ = some (.int .i64 X.k) ∧ W.cell? ⟨b0, off + k * 4 + 1, none⟩ = some (.int .i64 X.a) ∧ W.cell? ⟨b0, off + k * 4 + 2, none⟩ = some (.int .i64 X.b) ∧ W.cell? ⟨b0, off + k * 4 + 3, none⟩ = some (.slice X.A X.l.length X.c) ∧ Below wr.heap.size wr W)
          ((refine sOfI E0.out E1.out E2.out E3.out hbl ?_; repeat (first | assumption | exact Below.refl _ _ | with_reducible refine bAlloc ?_ _ | with_reducible refine Below.drew ?_)))
          (first | (go_at_call 11; (with_reducible refine (HCk _).mono ?_); rintro e w4 ⟨rfl, hb4'⟩; have hbb : Below wr.heap.size wr w4 := (by refine bCall ?_ hb4'; repeat (first | assumption | exact Below.refl _ _ | with_reducible refine Below.drew ?_))) | (go_at_call 12; (with_reducible refine (HMk _).mono ?_); rintro e w5 ⟨rfl, hb5'⟩; have hbc : Below wr.heap.size wr w5 := (by refine bCall ?_ hb5'; repeat (first | assumption | exact Below.refl _ _ | with_reducible refine Below.drew ?_))))
        have HB5 := keepd (bCall HB.out hbc)
        clear hbb hbc hb4' hb5' HCk HMk e0 e1 e2 e3
        go_wp2
        go_roundw
        case rel => exact ⟨k + 1, by omega, by go_num, HB5⟩
        case measure => simp [intOf]; omega
    · obtain rfl : k = na := by omega
      have hgk : decide ((k : Int) < (k : Int)) = false := by simp
      have HB3 := keepd (bCall HB2.out HB.out)
      have HXa := keepd (HX1'.out.at_ HB.out)
      have HXb := keepd (HX2.out.at_ HB.out)
      clear HX1' HX2 HB2
      obtain ⟨P, hP⟩ : ∃ P, putL a = P := ⟨_, rfl⟩
      obtain ⟨z, hz⟩ : ∃ z, P.length = z := ⟨_, rfl⟩
      obtain ⟨er, her⟩ : ∃ er, errL a = er := ⟨_, rfl⟩
      have HP := keepd hP
      have HZ := keepd hz
      have HE := keepd her
      have HPZ : Hid ((putL a).length = z) := by show _ = _; rw [hP]; exact hz
      clear hP hz her
      go_wp2_with fail
      with_reducible refine (put_at A1 a P z k k1 er _ HNA.out (by omega) HXa.out HP.out HZ.out HE.out).mono ?_
      rintro e w4 ⟨B4, j4, rfl, hr4, hb4'⟩
      have HQ4 := keepd hr4
      have HB4 := keepd (bCall HB3.out hb4')
      have HXa4 := keepd (HXa.out.at_ hb4')
      have HXb4 := keepd (HXb.out.at_ hb4')
      clear hr4 hb4' HXa HXb HB3 HB
      go_wp2_with fail
      with_reducible refine (isize_at A1 a z k k1 er _ HNA.out (by omega) HXa4.out HPZ.out HE.out).mono ?_
      rintro e w5 ⟨rfl, hb5⟩
      have HQ5 := keepd (HQ4.out.at_ hb5)
      have HB5 := keepd (bCall HB4.out hb5)
      have HXa5 := keepd (HXa4.out.at_ hb5)
      have HXb5 := keepd (HXb4.out.at_ hb5)
      clear hb5 HXa4 HXb4 HB4 HQ4
      go_wp2_with fail
      with_reducible refine (rput_any A1 a k k1 _ HNA.out (by omega) HXa5.out).mono ?_
      rintro e w6 ⟨B6, j6, rfl, hr6, hb6⟩
      rw [HP.out] at hr6
      rw [HPZ.out]
      have HQ6 := keepd hr6
      have HQ56 := keepd (HQ5.out.at_ hb6)
      have HB6 := keepd (bCall HB5.out hb6)
      have HXa6 := keepd (HXa5.out.at_ hb6)
      have HXb6 := keepd (HXb5.out.at_ hb6)
      clear hr6 hb6 HXa5 HXb5 HB5 HQ5
      obtain ⟨ok, hok⟩ : ∃ ok, allMay a = ok := ⟨_, rfl⟩
      rw [hok]
      have HOK := keepd hok
      clear hok
      obtain ⟨sm, hsm⟩ : ∃ sm, sameL a b = sm := ⟨_, rfl⟩
      have HSM := keepd hsm
      clear hsm
      go_wp2_with fail
      with_reducible refine (same_any A1 A2 a b k nb k1 k2 _ HNA.out HNB.out HXa6.out HXb6.out).mono ?_
      rintro e w7 ⟨rfl, hb7⟩
      rw [HSM.out]
      have HQ7 := keepd (HQ6.out.at_ hb7)
      have HQ57 := keepd (HQ56.out.at_ hb7)
      have HB7 := keepd (bCall HB6.out hb7)
      have HXa7 := keepd (HXa6.out.at_ hb7)
      have HXb7 := keepd (HXb6.out.at_ hb7)
      clear hb7 HXa6 HXb6 HB6 HQ6 HQ56
      go_wp2_with fail
      with_reducible refine (rsame_any A1 A2 a b k nb k1 k2 _ HNA.out HNB.out HXa7.out HXb7.out).mono ?_
      rintro e w8 ⟨rfl, hb8⟩
      rw [HSM.out]
      have HQ8 := keepd (HQ7.out.at_ hb8)
      have HQ58 := keepd (HQ57.out.at_ hb8)
      have HB8 := keepd (bCall HB7.out hb8)
      have HRd8 := keepd (HRd.out.at_ HB8.out)
      clear hb8 HXa7 HXb7 HB7 HQ7 HQ57
      have gsm : (sm != sm) = false := by cases sm <;> rfl
      go_wp2_with fail
      with_reducible refine (data_any D d md cd _ HNd.out (by omega) HRd8.out).mono ?_
      rintro e w9 ⟨A9, k9, rfl, hx9, hb9⟩
      rw [← HNd.out]
      have HLd : Hid (md = (dataL d).length) := by show _ = _; unfold dataL; rw [List.length_map]; exact HNd.out
      have HX9 := keepd hx9
      have HQ9 := keepd (HQ8.out.at_ hb9)
      have HQ59 := keepd (HQ58.out.at_ hb9)
      have HB9 := keepd (bCall HB8.out hb9)
      have HRd9 := keepd (HRd.out.at_ HB9.out)
      clear hx9 hb9 HB8 HQ8 HQ58 HRd8
      go_wp2_with fail
      with_reducible refine (rdata_any D d md cd _ HNd.out (by omega) HRd9.out).mono ?_
      rintro e w10 ⟨A10, k10, rfl, hx10, hb10⟩
      rw [← HNd.out]
      have HX10 := keepd hx10
      have HX910 := keepd (HX9.out.at_ hb10)
      have HQ10 := keepd (HQ9.out.at_ hb10)
      have HQ510 := keepd (HQ59.out.at_ hb10)
      have HB10 := keepd (bCall HB9.out hb10)
      clear hx10 hb10 HB9 HQ9 HQ59 HRd9 HX9
      have HSd : Hid (sameL (dataL d) (dataL d) = true) := by show _ = _; rw [dataL_same]; simp
      go_wp2_with fail
      with_reducible refine (rsame_any A9 A10 (dataL d) (dataL d) md md k9 k10 _ HLd.out HLd.out HX910.out HX10.out).mono ?_
      rintro e w11 ⟨rfl, hb11⟩
      rw [HSd.out]
      have HQ11 := keepd (HQ10.out.at_ hb11)
      have HQ511 := keepd (HQ510.out.at_ hb11)
      have HB11 := keepd (bCall HB10.out hb11)
      clear hb11 HB10 HQ10 HQ510 HX910 HX10
      have HAw := keepd iawake_any
      have ger : (er != er) = false := by simp
      cases ok
      · have x1 : er = 1 := by rw [← HE.out]; exact errL_no HOK.out
        have x2 : z = 0 := by rw [← HPZ.out, putL_no HOK.out]; rfl
        subst x1 x2
        go_wp2_with (go_at_call 20; with_reducible refine (HAw.out _).mono ?_; rintro e w12 ⟨rfl, hb12⟩)
        go_ret
        exact ⟨rfl, bCall HB11.out hb12⟩
      · have x1 : er = 0 := by rw [← HE.out]; exact errL_yes HOK.out
        subst x1
        have Y := octets_n B4 B6 P P z z j4 j6 _ _ HZ.out.symm HZ.out.symm HQ511.out HQ11.out
        rw [beq_self_eq_true] at Y
        have gz : ((z : Int) == (z : Int)) = true := by simp
        go_wp2_with fail
        with_reducible refine Y.mono ?_
        rintro e w13 ⟨rfl, rfl⟩
        clear Y
        go_wp2_with (go_at_call 20; with_reducible refine (HAw.out _).mono ?_; rintro e w12 ⟨rfl, hb12⟩)
        go_ret
        exact ⟨rfl, bCall HB11.out hb12⟩

end Go.Proofs.YtagfoidljficoaaDoor
