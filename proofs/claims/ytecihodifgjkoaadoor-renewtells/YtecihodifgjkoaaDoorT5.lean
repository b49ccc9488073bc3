/-
  A word on: the contracts of the line's and the document's On; Back and On of a line that may not be. No conditions beyond those each theorem states.
-/
import Derived.Test.YtecihodifgjkoaaDoorT4
namespace Go.Proofs.YtecihodifgjkoaaDoor
open Go.RowKit
set_option maxHeartbeats 2000000 in
theorem on_any (A : Option Addr) (l : List UInt8) (n c t r : Nat) (w : World) (hn : n = l.length) (hr : Rd w w.heap.size A l c) (hn4 : n ≤ 4096) (ht : t ≤ n) (hx : onL l t = r) :
    Calls Tryd.prog 70 #[.agg #[.slice A n c, .int .i64 (t : Int)]] w fun e w' => e = .returned (.int .i64 (r : Int)) ∧ Below w.heap.size w w' := by
  have HN := keepd hn
  have HR0 := keepd hr
  have HX := keepd hx
  have hc1 : n ≤ c := by rw [hn]; exact hr.1
  have hc2 := hr.2.1
  unfold maxLen at hc2
  clear hn hr hx
  go_enter Tryd.func70, Tryd.ntmps70
  go_upto_region 1 with fail
  generalize hV : w.alloc (.cells #[.slice A n c, .int .i64 (t : Int)] 28) = V
  obtain ⟨H, HV⟩ := line_new _ _ _ _ hV
  have CK := keepd (check_ok A n c t V hn4 ht)
  have k0 := H.out.cell 0
  have k1 := H.out.cell 1
  simp only [List.getElem?_cons_zero, List.getElem?_cons_succ] at k0 k1
  clear hV
  go_wp2_with fail
  with_reducible refine CK.out.mono ?_
  rintro e w2 ⟨rfl, hb2⟩
  have HB := keepd (HV.out.trans (hb2.mono HV.out.size))
  have hs := SR.call H.out hb2 H.out.lt
  have k0 := hs.cell 0
  have k1 := hs.cell 1
  simp only [List.getElem?_cons_zero, List.getElem?_cons_succ] at k0 k1
  have HR := keepd (HR0.out.at_ HB.out)
  clear hb2 hs CK
  go_wp2_with fail
  go_loopw [3] (fun vi wr => ∃ k : Nat, k ≤ n ∧ vi = .int .i64 k ∧ Hid (fw notB l k = fw notB l t) ∧ w2 = wr) (fun vi _ => n - (intOf vi).toNat)
  case atStart => exact ⟨t, by omega, rfl, rfl, rfl⟩
  case round =>
    obtain ⟨k, hk, rfl, HT, rfl⟩ := hrel
    rcases Nat.lt_or_ge k n with hlt | hge
    · have hkl : k < l.length := by rw [← HN.out]; omega
      obtain ⟨b, off, hA, _, hce⟩ := HR.out.form hkl
      have HG := keepd fun h => (fw_go (p := notB) hkl h).trans HT.out
      have HS := keepd fun h => (fw_stop (p := notB) hkl h).symm.trans HT.out
      generalize l[k] = u at *
      have C := keepd (blank_any u w2)
      have i0 : (0 : Int) ≤ (k : Int) := by omega
      have i1 : (k : Int) < (n : Int) := by omega
      have i4 : (n : Int) ≤ 4096 := by omega
      obtain ⟨q, hq⟩ : ∃ q, isB u = q := ⟨_, rfl⟩
      rw [hq] at C
      have HQ2 := keepd hq
      clear hq hkl
      cases q
      · have HT3 := keepd (HG.out (by simp [notB, HQ2.out]))
        cases hA
        go_wp2_with fail
        with_reducible refine C.out.mono ?_
        rintro e w2 ⟨rfl, rfl⟩
        go_wp2_with fail
        go_roundw
        case rel => exact ⟨k + 1, by omega, by go_num, HT3, by first | trivial | rfl⟩
        case measure => simp [intOf] <;> omega
      · have HQ : Hid (fw isB l k = r) := by
          show _ = _
          rw [← HX.out]
          unfold onL
          rw [← HS.out (by simp [notB, HQ2.out])]
        cases hA
        go_wp2_with fail
        with_reducible refine C.out.mono ?_
        rintro e w2 ⟨rfl, rfl⟩
        clear hce C i0 i1
        go_wp2_with fail
        go_loopw [3] (fun vi wr => ∃ k : Nat, k ≤ n ∧ vi = .int .i64 k ∧ Hid (fw isB l k = r) ∧ w2 = wr) (fun vi _ => n - (intOf vi).toNat)
        case atStart => exact ⟨k, by omega, rfl, HQ, rfl⟩
        case round =>
          obtain ⟨j, hj, rfl, HT2, rfl⟩ := hrel
          rcases Nat.lt_or_ge j n with hlt2 | hge2
          · have hjl : j < l.length := by rw [← HN.out]; omega
            obtain ⟨b, off, hA, _, hce⟩ := HR.out.form hjl
            have HG := keepd fun h => (fw_go (p := isB) hjl h).trans HT2.out
            have HS := keepd fun h => (fw_stop (p := isB) hjl h).symm.trans HT2.out
            generalize l[j] = u at *
            cases hA
            have C := keepd (blank_any u w2)
            have i0 : (0 : Int) ≤ (j : Int) := by omega
            have i1 : (j : Int) < (n : Int) := by omega
            have i4 : (n : Int) ≤ 4096 := by omega
            obtain ⟨q, hq⟩ : ∃ q, isB u = q := ⟨_, rfl⟩
            rw [hq] at C
            have HQ2 := keepd hq
            clear hq hjl
            cases q
            · have HE : Hid (r = j) := (HS.out HQ2.out).symm
              go_wp2_with fail
              with_reducible refine C.out.mono ?_
              rintro e w2 ⟨rfl, rfl⟩
              go_wp2_with fail
              go_ret
              exact ⟨by rw [HE.out]; rfl, HB.out⟩
            · have HT3 := keepd (HG.out HQ2.out)
              go_wp2_with fail
              with_reducible refine C.out.mono ?_
              rintro e w2 ⟨rfl, rfl⟩
              go_wp2_with fail
              go_roundw
              case rel => exact ⟨j + 1, by omega, by go_num, HT3, by first | trivial | rfl⟩
              case measure => simp [intOf] <;> omega
          · have HE : Hid (r = j) := by
              show _ = _
              rw [← HT2.out, show j = l.length from by rw [← HN.out]; omega]
              exact fw_end _ _
            have z0 : ¬ (j : Int) < (n : Int) := by omega
            have z2 : ¬ j < n := by omega
            go_wp2_with fail
            go_ret
            exact ⟨by rw [HE.out]; rfl, HB.out⟩
    · have HQ : Hid (fw isB l k = r) := by
        show _ = _
        rw [← HX.out]
        unfold onL
        rw [← HT.out, show k = l.length from by rw [← HN.out]; omega, fw_end notB]
      have z0 : ¬ (k : Int) < (n : Int) := by omega
      have z2 : ¬ k < n := by omega
      go_wp2_with fail
      go_loopw [3] (fun vi wr => ∃ k : Nat, k ≤ n ∧ vi = .int .i64 k ∧ Hid (fw isB l k = r) ∧ w2 = wr) (fun vi _ => n - (intOf vi).toNat)
      case atStart => exact ⟨k, by omega, rfl, HQ, rfl⟩
      case round =>
        obtain ⟨j, hj, rfl, HT2, rfl⟩ := hrel
        rcases Nat.lt_or_ge j n with hlt2 | hge2
        · have hjl : j < l.length := by rw [← HN.out]; omega
          obtain ⟨b, off, hA, _, hce⟩ := HR.out.form hjl
          have HG := keepd fun h => (fw_go (p := isB) hjl h).trans HT2.out
          have HS := keepd fun h => (fw_stop (p := isB) hjl h).symm.trans HT2.out
          generalize l[j] = u at *
          cases hA
          have C := keepd (blank_any u w2)
          have i0 : (0 : Int) ≤ (j : Int) := by omega
          have i1 : (j : Int) < (n : Int) := by omega
          have i4 : (n : Int) ≤ 4096 := by omega
          obtain ⟨q, hq⟩ : ∃ q, isB u = q := ⟨_, rfl⟩
          rw [hq] at C
          have HQ2 := keepd hq
          clear hq hjl
          cases q
          · have HE : Hid (r = j) := (HS.out HQ2.out).symm
            go_wp2_with fail
            with_reducible refine C.out.mono ?_
            rintro e w2 ⟨rfl, rfl⟩
            go_wp2_with fail
            go_ret
            exact ⟨by rw [HE.out]; rfl, HB.out⟩
          · have HT3 := keepd (HG.out HQ2.out)
            go_wp2_with fail
            with_reducible refine C.out.mono ?_
            rintro e w2 ⟨rfl, rfl⟩
            go_wp2_with fail
            go_roundw
            case rel => exact ⟨j + 1, by omega, by go_num, HT3, by first | trivial | rfl⟩
            case measure => simp [intOf] <;> omega
        · have HE : Hid (r = j) := by
            show _ = _
            rw [← HT2.out, show j = l.length from by rw [← HN.out]; omega]
            exact fw_end _ _
          have z0 : ¬ (j : Int) < (n : Int) := by omega
          have z2 : ¬ j < n := by omega
          go_wp2_with fail
          go_ret
          exact ⟨by rw [HE.out]; rfl, HB.out⟩

theorem back_bad (A : Option Addr) (n c : Nat) (z : Int) (w : World) (hm : mayV n z = false) :
    Calls Tryd.prog 68 #[.agg #[.slice A n c, .int .i64 z]] w fun e w' => e = .returned (.int .i64 0) ∧ Below w.heap.size w w' := by
  have CK := keepd fun w => check_bad A n c z w hm
  clear hm
  go_enter Tryd.func68, Tryd.ntmps68
  go_upto_region 1 with fail
  generalize hV : w.alloc (.cells #[.slice A n c, .int .i64 z] 28) = V
  obtain ⟨H, HV⟩ := line_new _ _ _ _ hV
  have k0 := H.out.cell 0
  have k1 := H.out.cell 1
  simp only [List.getElem?_cons_zero, List.getElem?_cons_succ] at k0 k1
  clear hV
  go_wp2_with fail
  with_reducible refine (CK.out _).mono ?_
  rintro e w2 ⟨rfl, hb2⟩
  have HB := keepd (HV.out.trans (hb2.mono HV.out.size))
  clear hb2
  go_wp2_with fail
  go_ret
  exact ⟨rfl, HB.out⟩

theorem on_bad (A : Option Addr) (n c : Nat) (z : Int) (w : World) (hm : mayV n z = false) :
    Calls Tryd.prog 70 #[.agg #[.slice A n c, .int .i64 z]] w fun e w' => e = .returned (.int .i64 0) ∧ Below w.heap.size w w' := by
  have CK := keepd fun w => check_bad A n c z w hm
  clear hm
  go_enter Tryd.func70, Tryd.ntmps70
  go_upto_region 1 with fail
  generalize hV : w.alloc (.cells #[.slice A n c, .int .i64 z] 28) = V
  obtain ⟨H, HV⟩ := line_new _ _ _ _ hV
  have k0 := H.out.cell 0
  have k1 := H.out.cell 1
  simp only [List.getElem?_cons_zero, List.getElem?_cons_succ] at k0 k1
  clear hV
  go_wp2_with fail
  with_reducible refine (CK.out _).mono ?_
  rintro e w2 ⟨rfl, hb2⟩
  have HB := keepd (HV.out.trans (hb2.mono HV.out.size))
  clear hb2
  go_wp2_with fail
  go_ret
  exact ⟨rfl, HB.out⟩

end Go.Proofs.YtecihodifgjkoaaDoor
