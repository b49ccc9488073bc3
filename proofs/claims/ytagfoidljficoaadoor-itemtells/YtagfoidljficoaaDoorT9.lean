/-
  The contract of the document's Lay.
-/
import Derived.Test.YtagfoidljficoaaDoorT7
import Derived.Test.YtagfoidljficoaaDoorT8
namespace Go.Proofs.YtagfoidljficoaaDoor
open Go.RowKit

set_option maxRecDepth 100000 in
set_option maxHeartbeats 1000000 in
theorem refLay_any (A : Option Addr) (l : List UInt8) (n c : Nat) (w : World) (hn : n = l.length) (hr : Rd w w.heap.size A l c) (hl : n ≤ 400) :
    Calls Tryd.prog 41 #[.slice A n c] w fun e w' => ∃ A' c', e = .returned (.slice A' (layL l).length c') ∧ Rd w' w'.heap.size A' (layL l) c' ∧ Below w.heap.size w w' := by
  have HN := keepd hn
  have HR := keepd hr
  have b1 : n ≤ c := by have := hr.1; omega
  have b2 : c ≤ maxLen := hr.2.1
  unfold maxLen at b2
  clear hr hn
  go_enter Tryd.func41, Tryd.ntmps41
  go_wp2_with fail
  go_loopw [3, 4] (fun s i wr => ∃ (k : Nat) (Av : Option Addr) (m cv : Nat), k ≤ n ∧ i = .int .i64 k ∧ s = .slice Av m cv ∧ m ≤ 2 * k ∧ Hid (m = (layL (l.take k)).length) ∧ Hid (Own wr w.heap.size (.slice Av m cv) (layL (l.take k))) ∧ Hid (Below w.heap.size w wr))
    (fun _ i _ => n - (intOf i).toNat)
  case atStart => exact ⟨0, none, 0, 0, by omega, rfl, rfl, by omega, by show _ = _; simp [layL], by show Own _ _ _ _; simpa [layL] using Own.nil w _, Below.refl _ _⟩
  case round =>
    obtain ⟨k, Av, m, cv, hk, rfl, rfl, hm, J1, J2, J3⟩ := hrel
    by_cases hlt : k < n
    · have hkl : k < l.length := by rw [← HN.out]; omega
      obtain ⟨b', off', hA', hbl, hce⟩ := (HR.out.at_ J3.out).form hkl
      subst hA'
      have HS := keepd (layL_take_succ l k hkl)
      obtain ⟨u, hu⟩ : ∃ u, l[k] = u := ⟨_, rfl⟩
      rw [hu] at hce HS
      have hz := J3.out.size
      have i1 : (0 : Int) ≤ (k : Int) := by omega
      have i2 : (k : Int) < (n : Int) := by omega
      clear hu
      go_wp2_with (at_builtin; refine wpList_app _ rfl (.tmp 11) (.tmp 16) rfl w.heap.size _ (layL (l.take k)) rfl (J2.out.alloc _) (wr.heap.size + 1) (some ⟨wr.heap.size, 0, none⟩) 1 1 [u] rfl rfl (one_rdb wr u) ?_ ?_ ?_)
      · rw [← J1.out]; simp; omega
      · simp
        omega
      intro vb wb ho hg hat
      have hb5 := app_below (bAlloc J3.out _) (J2.out.alloc _) hg
      have hcb := (hb5.cell (p := ⟨b', off' + k, none⟩) (by
        obtain ⟨b2, off2, e2, hb2, _⟩ := HR.out.form hkl
        cases e2
        exact hb2)).trans ((J3.out.cell (p := ⟨b', off' + k, none⟩) (by
        obtain ⟨b2, off2, e2, hb2, _⟩ := HR.out.form hkl
        cases e2
        exact hb2)).symm.trans hce)
      have HB5 := keepd hb5
      have HOb := keepd ho
      obtain ⟨Bv, dv, hv2, hrv2⟩ := HOb.out.rd
      rw [List.length_append, ← J1.out, List.length_singleton] at hv2
      subst hv2
      have hzb := hb5.size
      clear ho hg hat hb5 hrv2 hce
      by_cases e1 : u = 255
      · subst e1
        rw [show ((255 : UInt8).toNat : Int) = 255 from rfl] at hcb
        go_wp2_with (at_builtin; refine wpList_app _ rfl (.tmp 23) (.tmp 24) rfl w.heap.size _ (layL (l.take k) ++ [255]) rfl (HOb.out.alloc _) (wb.heap.size + 1) (some ⟨wb.heap.size, 0, none⟩) 1 1 [255] rfl rfl (one_rdb wb 255) ?_ ?_ ?_)
        · rw [List.length_append, ← J1.out]; simp; omega
        · simp
          omega
        intro vc wc ho hg hat
        have hb6 := app_below (bAlloc HB5.out _) (HOb.out.alloc _) hg
        have hcc := (hb6.cell (p := ⟨b', off' + k, none⟩) (by
          obtain ⟨b2, off2, e2, hb2, _⟩ := HR.out.form hkl
          cases e2
          exact hb2)).trans ((HB5.out.cell (p := ⟨b', off' + k, none⟩) (by
          obtain ⟨b2, off2, e2, hb2, _⟩ := HR.out.form hkl
          cases e2
          exact hb2)).symm.trans hcb)
        have HB6 := keepd hb6
        have HOc := keepd ho
        obtain ⟨Cv, ev, hv3, _⟩ := HOc.out.rd
        rw [List.length_append, ← J1.out, show ([255, 255] : List UInt8).length = 1 + 1 from rfl, ← Nat.add_assoc] at hv3
        subst hv3
        clear ho hg hat hb6 hcb
        go_wp2
        go_roundw
        case rel => exact ⟨k + 1, Cv, m + 1 + 1, ev, by omega, by go_num, rfl, by omega, by show _ = _; rw [HS.out, lay1_255, List.length_append, ← J1.out]; rfl, by show Own _ _ _ _; rw [HS.out, lay1_255]; exact HOc.out, HB6⟩
        case measure => simp [intOf]; omega
      · by_cases e2 : u = 13
        · subst e2
          rw [show ((13 : UInt8).toNat : Int) = 13 from rfl] at hcb
          clear e1
          go_wp2_with (at_builtin; refine wpList_app _ rfl (.tmp 31) (.tmp 32) rfl w.heap.size _ (layL (l.take k) ++ [13]) rfl (HOb.out.alloc _) (wb.heap.size + 1) (some ⟨wb.heap.size, 0, none⟩) 1 1 [10] rfl rfl (one_rdb wb 10) ?_ ?_ ?_)
          · rw [List.length_append, ← J1.out]; simp; omega
          · simp
            omega
          intro vc wc ho hg hat
          have hb6 := app_below (bAlloc HB5.out _) (HOb.out.alloc _) hg
          have HB6 := keepd hb6
          have HOc := keepd ho
          obtain ⟨Cv, ev, hv3, _⟩ := HOc.out.rd
          rw [List.length_append, ← J1.out, show ([13, 10] : List UInt8).length = 1 + 1 from rfl, ← Nat.add_assoc] at hv3
          subst hv3
          clear ho hg hat hb6 hcb
          go_wp2
          go_roundw
          case rel => exact ⟨k + 1, Cv, m + 1 + 1, ev, by omega, by go_num, rfl, by omega, by show _ = _; rw [HS.out, lay1_13, List.length_append, ← J1.out]; rfl, by show Own _ _ _ _; rw [HS.out, lay1_13]; exact HOc.out, HB6⟩
          case measure => simp [intOf]; omega
        · have HL := keepd (lay1_other e1 e2)
          have g1 : ¬ (u.toNat : Int) = 255 := fun hh => e1 (by rw [← u8_eq, hh]; rfl)
          have g2 : ¬ (u.toNat : Int) = 13 := fun hh => e2 (by rw [← u8_eq, hh]; rfl)
          generalize (u.toNat : Int) = z at hcb g1 g2 ⊢
          clear e1 e2
          go_wp2
          go_roundw
          case rel => exact ⟨k + 1, Bv, m + 1, dv, by omega, by go_num, rfl, by omega, by show _ = _; rw [HS.out, HL.out, List.length_append, ← J1.out]; rfl, by show Own _ _ _ _; rw [HS.out, HL.out]; exact HOb.out, HB5⟩
          case measure => simp [intOf]; omega
    · obtain rfl : n = k := by omega
      go_wp2
      go_ret
      rw [HN.out, List.take_length] at J1 J2
      exact ⟨Av, cv, by rw [← J1.out]; rfl, J2.out.rdOf, J3.out⟩

end Go.Proofs.YtagfoidljficoaaDoor
