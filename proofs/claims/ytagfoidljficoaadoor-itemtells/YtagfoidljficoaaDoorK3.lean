/-
  A contract over the document's answers: Put. No conditions beyond those the theorem states.
-/
import Derived.Test.YtagfoidljficoaaDoorK1
import Derived.Test.YtagfoidljficoaaDoorK2
namespace Go.Proofs.YtagfoidljficoaaDoor
open Go.RowKit

def GotRPut (w : World) (L : List Itm) (e : Ending) (w' : World) : Prop :=
  ∃ A c, e = .returned (.tuple #[.slice A (putL L).length c, .bool (allMay L)]) ∧ Rd w' w'.heap.size A (putL L) c ∧ Below w.heap.size w w'

set_option maxHeartbeats 1000000 in
theorem rput_any (A : Option Addr) (L : List Itm) (n c : Nat) (w : World) (hn : n = L.length) (hl : n ≤ 300) (hr : RdI w A L c) : Calls Tryd.prog 15 #[.slice A n c] w (GotRPut w L) := by
  have HR := keepd hr
  have HN := keepd hn
  have c1 := hr.1
  have c2 := hr.2.1
  unfold maxLen at c2
  rw [← hn] at c1
  clear hr hn
  go_enter Tryd.func15, Tryd.ntmps15
  go_wp2_with fail
  go_loopw [4, 5] (fun vo vi wr => ∃ (k mv cv : Nat) (Av : Option Addr), k ≤ n ∧ vi = .int .i64 k ∧ vo = .slice Av mv cv ∧ Hid (Own wr w.heap.size (.slice Av mv cv) (liesAll (L.take k))) ∧ Hid (allMay (L.take k) = true) ∧ Hid (Below w.heap.size w wr)) (fun _ vi _ => n - (intOf vi).toNat)
  case atStart => exact ⟨0, 0, 0, none, by omega, rfl, rfl, Own.nil _ _, by show _ = _; simp [allMay], Below.refl _ _⟩
  case round =>
    obtain ⟨k, mv, cv, Av, hk, rfl, rfl, HO, HM, HB⟩ := hrel
    have hsz := HB.out.size
    by_cases hlt : k < n
    · have hkL : k < L.length := by rw [← HN.out]; exact hlt
      obtain ⟨b, off, hA, hbl, hce⟩ := HR.out.2.2.1 (by rintro rfl; simp at hkL)
      subst hA
      obtain ⟨e0, e1, e2, e3⟩ := hce k hkL
      have e0' := (HB.out.cell (p := ⟨b, off + k * 4, none⟩) hbl).trans e0
      have e1' := (HB.out.cell (p := ⟨b, off + k * 4 + 1, none⟩) hbl).trans e1
      have e2' := (HB.out.cell (p := ⟨b, off + k * 4 + 2, none⟩) hbl).trans e2
      have e3' := (HB.out.cell (p := ⟨b, off + k * 4 + 3, none⟩) hbl).trans e3
      have HRX := keepd (HR.out.2.2.2 L[k] (List.getElem_mem hkL))
      have HS1 := keepd (liesAll_succ L k hkL)
      have HS2 := keepd (allMay_succ L k hkL)
      have HLL : Hid ((liesAll (L.take k)).length ≤ 500000) := by
        show _ ≤ _
        have := liesAll_len _ HM.out
        rw [List.length_take] at this
        omega
      generalize L[k] = X at *
      obtain ⟨v, hv⟩ : ∃ v, X.may = v := ⟨_, rfl⟩
      have HV := keepd hv
      have hv2 : mayN X.k X.a X.b X.l.length = v := hv
      have HCk := fun w => may_any X.k X.a X.b X.A X.l.length X.c w
      rw [hv2] at HCk
      clear hv hce
      cases v
      · go_wp2_with fail
        with_reducible refine (HCk _).mono ?_
        rintro e w2 ⟨rfl, hb2⟩
        have HB2 := keepd (bCall HB.out hb2)
        have hno : allMay L = false := by
          cases hal : allMay L
          · rfl
          · have := allMay_take hal (k + 1)
            rw [HS2.out, HV.out, Bool.and_false] at this
            cases this
        have HNo := keepd hno
        have x1 := keepd (putL_no hno)
        clear hb2 HCk hno hv2
        go_wp2
        go_ret2
        exact ⟨none, 0, by rw [x1.out, HNo.out]; rfl, by rw [x1.out]; exact Rd.nil _ _, HB2.out⟩
      · go_wp2_with fail
        with_reducible refine (HCk _).mono ?_
        rintro e w2 ⟨rfl, hb2⟩
        have HB2 := keepd (bCall HB.out hb2)
        have HO2 := keepd (HO.out.below hb2)
        have f0 := (HB2.out.cell (p := ⟨b, off + k * 4, none⟩) hbl).trans e0
        have f1 := (HB2.out.cell (p := ⟨b, off + k * 4 + 1, none⟩) hbl).trans e1
        have f2 := (HB2.out.cell (p := ⟨b, off + k * 4 + 2, none⟩) hbl).trans e2
        have f3 := (HB2.out.cell (p := ⟨b, off + k * 4 + 3, none⟩) hbl).trans e3
        have HRX2 := keepd (HRX.out.at_ HB2.out)
        have HV2 := keepd hv2
        clear hb2 HCk e0' e1' e2' e3' hv2
        go_wp2_with fail
        with_reducible refine (lies_any X.k X.a X.b X.A X.l X.l.length X.c _ rfl HRX2.out HV2.out).mono ?_
        rintro e w3 ⟨A3, c3, rfl, hr3, hb3⟩
        have HB3 := keepd (bCall HB2.out hb3)
        have HO3 := keepd (HO2.out.below hb3)
        have HR3 := keepd hr3
        have hlz : (liesN X.k X.a X.b X.l).length ≤ 1100 := liesN_len _ _ _ _ (mayN_len HV2.out)
        have HLe : Hid ((liesAll (L.take k)).length + (liesN X.k X.a X.b X.l).length ≤ 1000000) := by show _ ≤ _; have := HLL.out; omega
        obtain ⟨z, hz⟩ : ∃ z, (liesN X.k X.a X.b X.l).length = z := ⟨_, rfl⟩
        rw [hz]
        have HZ := keepd hz
        have hs3 := HB3.out.size
        clear hr3 hb3 hz hlz
        go_wp2_with (at_builtin; refine wpList_app _ rfl (.tmp 18) (.tmp 23) rfl w.heap.size _ (liesAll (L.take k)) rfl HO3.out w3.heap.size A3 z c3 (liesN X.k X.a X.b X.l) rfl HZ.out.symm HR3.out ?_ ?_ ?_)
        · exact HLe.out
        · exact hs3
        intro va w4 ho hg _
        have hb4 : Below w.heap.size w w4 := HB3.out.trans (grown_below HO3.out hg hs3)
        obtain ⟨A4, c4, e4, _⟩ := ho.rd
        obtain ⟨m4, hm4⟩ : ∃ m, (liesAll (L.take k) ++ liesN X.k X.a X.b X.l).length = m := ⟨_, rfl⟩
        rw [hm4] at e4
        subst e4
        clear hm4
        have HO4 : Hid (Own w4 w.heap.size (.slice A4 m4 c4) (liesAll (L.take (k + 1)))) := by
          show Own _ _ _ _
          rw [HS1.out]
          exact ho
        have HM4 : Hid (allMay (L.take (k + 1)) = true) := by show _ = _; rw [HS2.out, HM.out, HV.out]; rfl
        have HB4 := keepd hb4
        clear ho hg hb4 f0 f1 f2 f3
        go_wp2
        go_roundw
        case rel => exact ⟨k + 1, m4, c4, A4, by omega, by go_num, rfl, HO4, HM4, HB4⟩
        case measure => simp [intOf]; omega
    · obtain rfl : k = n := by omega
      have H4 : Hid (allMay L = true) := by
        have := HM.out
        rw [List.take_of_length_le (by rw [← HN.out]; omega)] at this
        exact this
      have HO2 : Hid (Own wr w.heap.size (.slice Av mv cv) (putL L)) := by
        have := HO.out
        rw [List.take_of_length_le (by rw [← HN.out]; omega)] at this
        show Own _ _ _ _
        rw [putL_yes H4.out]
        exact this
      have hgk : decide ((k : Int) < (k : Int)) = false := by simp
      obtain ⟨A', c', e', hr'⟩ := HO2.out.rd
      injection e' with x1 x2 x3
      subst x1 x3
      have H1 := keepd hr'
      have HX2 := keepd x2
      clear hr' HO HO2 HM x2
      go_wp2
      go_ret2
      exact ⟨Av, cv, by rw [H4.out, ← HX2.out]; rfl, H1.out, HB.out⟩

end Go.Proofs.YtagfoidljficoaaDoor
