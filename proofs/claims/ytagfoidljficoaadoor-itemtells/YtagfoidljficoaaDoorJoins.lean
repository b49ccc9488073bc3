/-
  The law ItemJoins, walked: it returns true, whatever the items and the octets.
-/
import Derived.Test.YtagfoidljficoaaDoorData
namespace Go.Proofs.YtagfoidljficoaaDoor
open Go.RowKit

theorem allMay_append (a b : List Itm) : allMay (a ++ b) = (allMay a && allMay b) := by simp [allMay]
theorem liesAll_append (a b : List Itm) : liesAll (a ++ b) = liesAll a ++ liesAll b := by simp [liesAll]

theorem putL_len (L : List Itm) : (putL L).length ≤ 1100 * L.length := by
  cases h : allMay L
  · rw [putL_no h]; simp
  · rw [putL_yes h]; exact liesAll_len L h

theorem empty_ownI (w : World) (base : Nat) (h : base ≤ w.heap.size) : OwnI (w.alloc (.cells #[] 29)) base (.slice (some ⟨w.heap.size, 0, none⟩) 0 0) [] :=
  ⟨by simp, .inr ⟨w.heap.size, 0, #[], rfl, h, heap_alloc_new w _, Nat.le_refl _, by simp, by simp, by simp⟩⟩

set_option maxRecDepth 100000 in
set_option maxHeartbeats 4000000 in
theorem joins_law (A A' D : Option Addr) (L L' : List Itm) (l : List UInt8) (n n' nd c c' cd : Nat) (w : World) (hn : n = L.length) (hn' : n' = L'.length) (hnd : nd = l.length) (hr : RdI w A L c) (hr' : RdI w A' L' c') (hrd : Rd w w.heap.size D l cd) :
    Calls Tryd.prog 4 #[.slice A n c, .slice A' n' c', .slice D nd cd] w fun e w' => e = .returned (.bool true) ∧ Below w.heap.size w w' := by
  have c1 := hrd.1
  have c2 := hrd.2.1
  rw [← hnd] at c1
  have HF := fun w => few_any D nd cd w c1 c2
  have HRd : Hid (Rd w w.heap.size D (l.take 200) cd) := hrd.take 200
  have HNd : Hid (min nd 200 = (l.take 200).length) := by show _ = _; rw [List.length_take, ← hnd]; omega
  have HR := keepd hr
  have HR' := keepd hr'
  have HN := keepd hn
  have HN' := keepd hn'
  generalize l.take 200 = d at *
  obtain ⟨md, hmd⟩ : ∃ md, min nd 200 = md := ⟨_, rfl⟩
  have hd2 : md ≤ 200 := by omega
  rw [hmd] at HNd HF
  clear hr hr' hrd hn hn' hnd hmd c1 c2
  go_enter Tryd.func4, Tryd.ntmps4
  go_wp2_with fail
  with_reducible refine (fewI_any A L n c _ HN.out HR.out).mono ?_
  rintro e w1 ⟨A1, k1, rfl, hx1, hb1⟩
  have HX1 := keepd hx1
  have HB1 := keepd hb1
  have HXr := keepd (HR'.out.at_ hb1)
  have hl1 := fewI_len L
  clear hx1 hb1 HR HR'
  generalize fewI L = a at *
  obtain ⟨na, hna⟩ : ∃ na, a.length = na := ⟨_, rfl⟩
  rw [hna] at hl1 ⊢
  have ha4 : na ≤ 40 := by omega
  have HNA := keepd hna.symm
  clear hna hl1
  go_wp2_with fail
  with_reducible refine (fewI_any A' L' n' c' _ HN'.out HXr.out).mono ?_
  rintro e w2 ⟨A2, k2, rfl, hx2, hb2⟩
  have HX2 := keepd hx2
  have HB2 := keepd (bCall HB1.out hb2)
  have HX1' := keepd (HX1.out.at_ hb2)
  have hl2 := fewI_len L'
  clear hx2 hb2 HX1 HXr HB1
  generalize fewI L' = b at *
  obtain ⟨nb, hnb⟩ : ∃ nb, b.length = nb := ⟨_, rfl⟩
  rw [hnb] at hl2 ⊢
  have hb4 : nb ≤ 40 := by omega
  have HNB := keepd hnb.symm
  clear hnb hl2
  go_wp2_with (go_at_call 10; with_reducible refine (HF _).mono ?_; rintro e w3 ⟨rfl, rfl⟩)
  -- what is put
  obtain ⟨P1, hP1⟩ : ∃ P, putL a = P := ⟨_, rfl⟩
  obtain ⟨P2, hP2⟩ : ∃ P, putL b = P := ⟨_, rfl⟩
  obtain ⟨P3, hP3⟩ : ∃ P, putL (a ++ b) = P := ⟨_, rfl⟩
  obtain ⟨m1, hm1⟩ : ∃ m, P1.length = m := ⟨_, rfl⟩
  obtain ⟨m2, hm2⟩ : ∃ m, P2.length = m := ⟨_, rfl⟩
  obtain ⟨m3, hm3⟩ : ∃ m, P3.length = m := ⟨_, rfl⟩
  obtain ⟨e1, he1⟩ : ∃ e, errL a = e := ⟨_, rfl⟩
  obtain ⟨e2, he2⟩ : ∃ e, errL b = e := ⟨_, rfl⟩
  obtain ⟨e3, he3⟩ : ∃ e, errL (a ++ b) = e := ⟨_, rfl⟩
  have hm1' : m1 ≤ 44000 := by
    have := putL_len a
    rw [hP1, hm1, ← HNA.out] at this
    omega
  have hm2' : m2 ≤ 44000 := by
    have := putL_len b
    rw [hP2, hm2, ← HNB.out] at this
    omega
  with_reducible refine (put_at A1 a P1 m1 na k1 e1 _ HNA.out (by omega) HX1'.out hP1 hm1 he1).mono ?_
  rintro e w3 ⟨B1, j1, rfl, hr3, hb3⟩
  have HQ1 := keepd hr3
  have HB3 := keepd (bCall HB2.out hb3)
  have HXa := keepd (HX1'.out.at_ hb3)
  have HXb := keepd (HX2.out.at_ hb3)
  clear hr3 hb3 HX1' HX2 HB2
  go_wp2_with fail
  with_reducible refine (put_at A2 b P2 m2 nb k2 e2 _ HNB.out (by omega) HXb.out hP2 hm2 he2).mono ?_
  rintro e w4 ⟨B2, j2, rfl, hr4, hb4'⟩
  have HQ2 := keepd hr4
  have HQ1' := keepd (HQ1.out.at_ hb4')
  have HB4 := keepd (bCall HB3.out hb4')
  have HXa' := keepd (HXa.out.at_ hb4')
  have HXb' := keepd (HXb.out.at_ hb4')
  clear hr4 hb4' HXa HXb HB3 HQ1
  have HLa : Hid (([] : List Itm).length + a.length ≤ 10000) := by show _ ≤ _; rw [← HNA.out]; simp; omega
  have HLb : Hid (a.length + b.length ≤ 10000) := by show _ ≤ _; rw [← HNA.out, ← HNB.out]; omega
  go_wp2_with (at_builtin; refine wpList_appI _ rfl (.tmp 32) (.tmp 33) rfl w4.heap.size _ [] rfl (empty_ownI w4 _ (Nat.le_refl _)) A1 na k1 a rfl HNA.out (HXa'.out.at_ (bAlloc (Below.refl _ _) _)) ?_ ?_ ?_)
  · exact HLa.out
  · simp
  intro va w5 ho hg _
  have hb5 : Below w4.heap.size w4 w5 := (bAlloc (Below.refl _ _) _).trans (ownI_grown (empty_ownI w4 _ (Nat.le_refl _)) hg (by simp))
  have HXb5 := keepd (HXb'.out.at_ hb5)
  have hxa5 := HXa'.out.at_ hb5
  obtain ⟨Aa5, ca5, hv5, _⟩ := ho.rd (fun x hx => hxa5.2.2.2 x hx)
  rw [← HNA.out] at hv5
  subst hv5
  have HO5 := keepd ho
  have HB5 := keepd hb5
  clear ho hg hb5 hxa5
  go_wp2_with (at_builtin; refine wpList_appI _ rfl (.tmp 34) (.tmp 35) rfl w4.heap.size _ a rfl HO5.out A2 nb k2 b rfl HNB.out HXb5.out ?_ ?_ ?_)
  · exact HLb.out
  · exact HB5.out.size
  intro vb w6 ho hg _
  have hb6 : Below w4.heap.size w4 w6 := HB5.out.trans (ownI_grown HO5.out hg HB5.out.size)
  have hx6 : ∀ x ∈ a ++ b, Rd w6 w6.heap.size x.A x.l x.c := by
    intro x hx
    rcases List.mem_append.1 hx with h | h
    · exact ((HXa'.out.at_ hb6).2.2.2 x h)
    · exact ((HXb'.out.at_ hb6).2.2.2 x h)
  obtain ⟨A6, c6, rfl, hr6⟩ := ho.rd hx6
  have HX6 : Hid (RdI w6 A6 (a ++ b) c6) := hr6
  have HN6 : Hid (na + nb = (a ++ b).length) := by show _ = _; rw [List.length_append, ← HNA.out, ← HNB.out]
  have HN7 : Hid ((a ++ b).length = na + nb) := HN6.out.symm
  rw [HN7.out]
  have HB6 := keepd (bCall HB4.out hb6)
  have HQ1'' := keepd (HQ1'.out.at_ hb6)
  have HQ2'' := keepd (HQ2.out.at_ hb6)
  clear ho hg hb6 hx6 hr6 HO5 HXb5 HXa' HXb' HB5 HB4 HQ1' HQ2 HN7
  go_wp2_with fail
  with_reducible refine (put_at A6 (a ++ b) P3 m3 (na + nb) c6 e3 _ HN6.out (by omega) HX6.out hP3 hm3 he3).mono ?_
  rintro e w7 ⟨B3, j3, rfl, hr7, hb7⟩
  have HQ3 := keepd hr7
  have HQ1 := keepd (HQ1''.out.at_ hb7)
  have HQ2 := keepd (HQ2''.out.at_ hb7)
  have HB7 := keepd (bCall HB6.out hb7)
  have HRd7 := keepd (HRd.out.at_ HB7.out)
  clear hr7 hb7 HB6 HQ1'' HQ2'' HX6
  go_wp2_with fail
  with_reducible refine (data_any D d md cd _ HNd.out (by omega) HRd7.out).mono ?_
  rintro e w8 ⟨A8, c8, rfl, hx8, hb8⟩
  rw [← HNd.out]
  have HLd : Hid (md = (dataL d).length) := by show _ = _; unfold dataL; rw [List.length_map]; exact HNd.out
  have HX8 := keepd hx8
  have HB8 := keepd (bCall HB7.out hb8)
  have HQ18 := keepd (HQ1.out.at_ hb8)
  have HQ28 := keepd (HQ2.out.at_ hb8)
  have HQ38 := keepd (HQ3.out.at_ hb8)
  obtain ⟨z, hz⟩ : ∃ z, (layL d).length = z := ⟨_, rfl⟩
  have hz2 : z ≤ 400 := by
    have := (layL_len d).2
    rw [hz, ← HNd.out] at this
    omega
  have HE1 := keepd (errL_yes (dataL_may d))
  have HPd := keepd (dataL_put d)
  have HZ := keepd hz
  clear hx8 hb8 HB7 HQ1 HQ2 HQ3 HRd7 hz
  go_wp2_with fail
  with_reducible refine (put_at A8 (dataL d) (layL d) z md c8 0 _ HLd.out (by omega) HX8.out HPd.out HZ.out HE1.out).mono ?_
  rintro e w9 ⟨B9, j9, rfl, hr9, hb9⟩
  have HQ9 := keepd hr9
  have HB9 := keepd (bCall HB8.out hb9)
  have HQ19 := keepd (HQ18.out.at_ hb9)
  have HQ29 := keepd (HQ28.out.at_ hb9)
  have HQ39 := keepd (HQ38.out.at_ hb9)
  have HRd9 := keepd (HRd.out.at_ HB9.out)
  clear hr9 hb9 HX8 HB8 HQ18 HQ28 HQ38
  go_wp2_with fail
  with_reducible refine (lay_any D d md cd _ HNd.out HRd9.out (by omega)).mono ?_
  rintro e w10 ⟨B10, j10, rfl, hr10, hb10⟩
  rw [HZ.out]
  have HQ10 := keepd hr10
  have HQ910 := keepd (HQ9.out.at_ hb10)
  have HB10 := keepd (bCall HB9.out hb10)
  have HQ110 := keepd (HQ19.out.at_ hb10)
  have HQ210 := keepd (HQ29.out.at_ hb10)
  have HQ310 := keepd (HQ39.out.at_ hb10)
  clear hr10 hb10 HQ9 HB9 HQ19 HQ29 HQ39 HRd9
  go_wp2_with fail
  have Y := octets_n B9 B10 (layL d) (layL d) z z j9 j10 _ _ HZ.out.symm HZ.out.symm HQ910.out HQ10.out
  rw [beq_self_eq_true] at Y
  with_reducible refine Y.mono ?_
  rintro e w11 ⟨rfl, rfl⟩
  have HAw := keepd iawake_any
  clear Y HQ910 HQ10
  cases h1 : allMay a
  · have x1 := errL_no h1
    have x3 : errL (a ++ b) = 1 := errL_no (by rw [allMay_append, h1]; rfl)
    have x4 : putL (a ++ b) = [] := putL_no (by rw [allMay_append, h1]; rfl)
    rw [he1] at x1
    rw [he3] at x3
    rw [hP3] at x4
    subst x1 x3 x4
    have x5 : m3 = 0 := hm3.symm
    subst x5
    clear hP1 hP2 hP3 hm1 hm2 hm3 he1 he2 he3 h1
    go_wp2_with (go_at_call 20; with_reducible refine (HAw.out _).mono ?_; rintro e w12 ⟨rfl, hb12⟩)
    go_ret
    exact ⟨rfl, bCall HB10.out hb12⟩
  · have x1 := errL_yes h1
    rw [he1] at x1
    subst x1
    cases h2 : allMay b
    · have x2 := errL_no h2
      have x3 : errL (a ++ b) = 1 := errL_no (by rw [allMay_append, h1, h2]; rfl)
      have x4 : putL (a ++ b) = [] := putL_no (by rw [allMay_append, h1, h2]; rfl)
      rw [he2] at x2
      rw [he3] at x3
      rw [hP3] at x4
      subst x2 x3 x4
      have x5 : m3 = 0 := hm3.symm
      subst x5
      clear hP1 hP2 hP3 hm1 hm2 hm3 he1 he2 he3 h1 h2
      go_wp2_with (go_at_call 20; with_reducible refine (HAw.out _).mono ?_; rintro e w12 ⟨rfl, hb12⟩)
      go_ret
      exact ⟨rfl, bCall HB10.out hb12⟩
    · have x2 := errL_yes h2
      have h3 : allMay (a ++ b) = true := by rw [allMay_append, h1, h2]; rfl
      have x3 := errL_yes h3
      have x4 : P3 = P1 ++ P2 := by rw [← hP3, ← hP1, ← hP2, putL_yes h1, putL_yes h2, putL_yes h3, liesAll_append]
      rw [he2] at x2
      rw [he3] at x3
      subst x2 x3 x4
      have HM1 := keepd hm1
      have HM2 := keepd hm2
      have HM3 := keepd hm3
      have HM4 : Hid (m3 = m1 + m2) := by show _ = _; rw [← hm3, List.length_append, hm1, hm2]
      clear hP1 hP2 hP3 hm1 hm2 hm3 he1 he2 he3 h1 h2 h3
      go_wp2_with (at_builtin; refine wpList_appG _ rfl (.tmp 75) (.tmp 76) rfl w10.heap.size _ [] rfl (empty_own w10 _ (Nat.le_refl _)) w10.heap.size B1 m1 j1 P1 rfl HM1.out.symm ?_ ?_ ?_ ?_)
      · exact HQ110.out.alloc (Nat.le_refl _) (Nat.le_refl _) _
      · rw [HM1.out]; simp; omega
      · simp
      intro va3 wa3 ho hg hat
      have HA3 := keepd (app_start0 hg)
      obtain ⟨Aa3, ca3, hv, _⟩ := ho.rd
      rw [HM1.out] at hv
      subst hv
      have HO3 := keepd ho
      clear ho hg hat
      go_wp2_with (at_builtin; refine wpList_appG _ rfl (.tmp 77) (.tmp 78) rfl w10.heap.size _ P1 rfl HO3.out wa3.heap.size B2 m2 j2 P2 rfl HM2.out.symm (HQ210.out.at_ HA3.out) ?_ ?_ ?_)
      · rw [HM1.out, HM2.out]; omega
      · exact HA3.out.size
      intro vb3 wb3 ho hg hat
      have HB3 := keepd (app_below HA3.out HO3.out hg)
      obtain ⟨Ab3, cb3, hv, hr4⟩ := ho.rd
      rw [HM3.out] at hv
      subst hv
      have RB3 := keepd hr4
      have HQ3b := keepd (HQ310.out.at_ HB3.out)
      have HBf := keepd (bCall HB10.out HB3.out)
      clear ho hg hat hr4 HO3 HA3
      have Y := octets_n B3 Ab3 (P1 ++ P2) (P1 ++ P2) m3 m3 j3 cb3 _ _ HM3.out.symm HM3.out.symm HQ3b.out RB3.out
      rw [beq_self_eq_true] at Y
      go_wp2_with fail
      with_reducible refine Y.mono ?_
      rintro e w13 ⟨rfl, rfl⟩
      clear Y
      go_wp2_with (go_at_call 20; with_reducible refine (HAw.out _).mono ?_; rintro e w12 ⟨rfl, hb12⟩)
      go_ret
      exact ⟨rfl, bCall HBf.out hb12⟩

end Go.Proofs.YtagfoidljficoaaDoor
