/-
  The document's own Back, On and Same of lines. No conditions beyond those each theorem states.
-/
import Derived.Test.YtlfmbfecajhffaaDoorA2
namespace Go.Proofs.YtlfmbfecajhffaaDoor
open Go.RowKit
set_option maxRecDepth 100000

theorem rblank_any (u : UInt8) (w : World) : Calls Tryd.prog 84 #[.int .u8 (u.toNat : Int)] w fun e w' => e = .returned (.bool (isB u)) ∧ w' = w := by
  obtain ⟨h1, h2⟩ := isB_val u
  generalize (u.toNat : Int) = z at *
  cases q1 : (z == 32)
  · cases q2 : (z == 9)
    · go_enter Tryd.func84, Tryd.ntmps84
      go_wp2_with fail
      go_ret
      exact ⟨by rw [h1, q1, q2]; rfl, rfl⟩
    · go_enter Tryd.func84, Tryd.ntmps84
      go_wp2_with fail
      go_ret
      exact ⟨by rw [h1, q1, q2]; rfl, rfl⟩
  · go_enter Tryd.func84, Tryd.ntmps84
    go_wp2_with fail
    go_ret
    exact ⟨by rw [h1, q1]; rfl, rfl⟩

set_option maxHeartbeats 2000000 in
theorem rback_any (A : Option Addr) (l : List UInt8) (n c t r : Nat) (w : World) (hn : n = l.length) (hr : Rd w w.heap.size A l c) (hn4 : n ≤ 4096) (ht : t ≤ n) (hx : backL l t = r) :
    Calls Tryd.prog 77 #[.agg #[.slice A n c, .int .i64 (t : Int)]] w fun e w' => e = .returned (.int .i64 (r : Int)) ∧ Below w.heap.size w w' := by
  have HN := keepd hn
  have HR0 := keepd hr
  have HX := keepd hx
  have hc1 : n ≤ c := by rw [hn]; exact hr.1
  have hc2 := hr.2.1
  unfold maxLen at hc2
  clear hn hr hx
  go_enter Tryd.func77, Tryd.ntmps77
  go_upto_region 1 with fail
  generalize hV : w.alloc (.cells #[.slice A n c, .int .i64 (t : Int)] 30) = V
  obtain ⟨H, HV⟩ := line_new _ _ _ _ hV
  clear hV
  have k0 := H.out.cell 0
  have k1 := H.out.cell 1
  simp only [List.getElem?_cons_zero, List.getElem?_cons_succ] at k0 k1
  have HB := HV
  have HR := keepd (HR0.out.at_ HB.out)
  go_wp2_with fail
  go_loopw [3] (fun vi wr => ∃ k : Nat, k ≤ t ∧ vi = .int .i64 k ∧ Hid (bk isB l k = bk isB l t) ∧ V = wr) (fun vi _ => (intOf vi).toNat)
  case atStart => exact ⟨t, by omega, rfl, rfl, rfl⟩
  case round =>
    obtain ⟨k, hk, rfl, HT, rfl⟩ := hrel
    rcases Nat.eq_zero_or_pos k with h0 | h0
    · have z0 : ¬ (k : Int) > 0 := by omega
      have z1 : ¬ (0 : Int) < (k : Int) := by omega
      have z2 : ¬ 0 < k := by omega
      have HK0 := keepd h0
      have HT : Hid (bk isB l 0 = bk isB l t) := by rw [← h0]; exact HT
      clear h0
      have HQ : Hid (bk notB l 0 = r) := by
        show _ = _
        rw [← HX.out]
        unfold backL
        rw [← HT.out]
        rfl
      go_wp2_with fail
      go_loopw [3] (fun vi wr => ∃ k : Nat, k ≤ t ∧ vi = .int .i64 k ∧ Hid (bk notB l k = r) ∧ V = wr) (fun vi _ => (intOf vi).toNat)
      case atStart => exact ⟨k, by omega, by first | rfl | go_num, by rw [HK0.out]; exact HQ, rfl⟩
      case round =>
        obtain ⟨j, hj, rfl, HT2, rfl⟩ := hrel
        cases j with
        | zero =>
          have HE : Hid (r = 0) := HT2.out.symm
          go_wp2_with fail
          go_ret
          exact ⟨by rw [HE.out]; rfl, HB.out⟩
        | succ j =>
          have hjl : j < l.length := by rw [← HN.out]; omega
          obtain ⟨b, off, hA, _, hce⟩ := HR.out.form hjl
          have HG := keepd fun h => (bk_go (p := notB) hjl h).symm.trans HT2.out
          have HS := keepd fun h => (bk_stop (p := notB) hjl h).symm.trans HT2.out
          generalize l[j] = u at *
          cases hA
          have C := keepd (rblank_any u V)
          have i0 : (0 : Int) ≤ (j : Int) := by omega
          have i1 : (j : Int) < (n : Int) := by omega
          have i2 : (j : Int) + 1 > 0 := by omega
          have i3 : (0 : Int) < (j : Int) + 1 := by omega
          have i4 : (j : Int) ≤ 4096 := by omega
          obtain ⟨q, hq⟩ : ∃ q, isB u = q := ⟨_, rfl⟩
          rw [hq] at C
          have HQ2 := keepd hq
          clear hq
          cases q
          · have HT3 := keepd (HG.out (by simp [notB, HQ2.out]))
            go_wp2_with fail
            with_reducible refine C.out.mono ?_
            rintro e V ⟨rfl, rfl⟩
            go_wp2_with fail
            go_roundw
            case rel => exact ⟨j, by omega, by go_num, HT3, by first | trivial | rfl⟩
            case measure => simp [intOf] <;> omega
          · have HE : Hid (r = j + 1) := (HS.out (by simp [notB, HQ2.out])).symm
            go_wp2_with fail
            with_reducible refine C.out.mono ?_
            rintro e V ⟨rfl, rfl⟩
            go_wp2_with fail
            go_ret
            exact ⟨by rw [HE.out]; rfl, HB.out⟩
    · obtain ⟨k, rfl⟩ : ∃ j, k = j + 1 := ⟨k - 1, by omega⟩
      clear h0
      have hkl : k < l.length := by rw [← HN.out]; omega
      obtain ⟨b, off, hA, _, hce⟩ := HR.out.form hkl
      have HG := keepd fun h => (bk_go (p := isB) hkl h).symm.trans HT.out
      have HS := keepd fun h => (bk_stop (p := isB) hkl h).symm.trans HT.out
      generalize l[k] = u at *
      obtain ⟨A', hA'⟩ : ∃ A', A = A' := ⟨_, rfl⟩
      have C := keepd (rblank_any u V)
      have i0 : (0 : Int) ≤ (k : Int) := by omega
      have i1 : (k : Int) < (n : Int) := by omega
      have i2 : (k : Int) + 1 > 0 := by omega
      have i3 : (0 : Int) < (k : Int) + 1 := by omega
      have i4 : (k : Int) ≤ 4096 := by omega
      obtain ⟨q, hq⟩ : ∃ q, isB u = q := ⟨_, rfl⟩
      rw [hq] at C
      have HQ2 := keepd hq
      clear hq hA' A'
      cases q
      · have HQ : Hid (bk notB l (k + 1) = r) := by
          show _ = _
          rw [← HX.out]
          unfold backL
          rw [← HT.out]
          show _ = bk notB l (bk isB l (k + 1))
          rw [HT.out, ← HS.out HQ2.out]
        cases hA
        go_wp2_with fail
        with_reducible refine C.out.mono ?_
        rintro e V ⟨rfl, rfl⟩
        clear hce C
        go_wp2_with fail
        go_loopw [3] (fun vi wr => ∃ k : Nat, k ≤ t ∧ vi = .int .i64 k ∧ Hid (bk notB l k = r) ∧ V = wr) (fun vi _ => (intOf vi).toNat)
        case atStart => exact ⟨k + 1, by omega, by first | rfl | go_num, HQ, rfl⟩
        case round =>
          obtain ⟨j, hj, rfl, HT2, rfl⟩ := hrel
          cases j with
          | zero =>
            have HE : Hid (r = 0) := HT2.out.symm
            go_wp2_with fail
            go_ret
            exact ⟨by rw [HE.out]; rfl, HB.out⟩
          | succ j =>
            have hjl : j < l.length := by rw [← HN.out]; omega
            obtain ⟨b, off, hA, _, hce⟩ := HR.out.form hjl
            have HG := keepd fun h => (bk_go (p := notB) hjl h).symm.trans HT2.out
            have HS := keepd fun h => (bk_stop (p := notB) hjl h).symm.trans HT2.out
            generalize l[j] = u at *
            cases hA
            have C := keepd (rblank_any u V)
            have i0 : (0 : Int) ≤ (j : Int) := by omega
            have i1 : (j : Int) < (n : Int) := by omega
            have i2 : (j : Int) + 1 > 0 := by omega
            have i3 : (0 : Int) < (j : Int) + 1 := by omega
            have i4 : (j : Int) ≤ 4096 := by omega
            obtain ⟨q, hq⟩ : ∃ q, isB u = q := ⟨_, rfl⟩
            rw [hq] at C
            have HQ2 := keepd hq
            clear hq
            cases q
            · have HT3 := keepd (HG.out (by simp [notB, HQ2.out]))
              go_wp2_with fail
              with_reducible refine C.out.mono ?_
              rintro e V ⟨rfl, rfl⟩
              go_wp2_with fail
              go_roundw
              case rel => exact ⟨j, by omega, by go_num, HT3, by first | trivial | rfl⟩
              case measure => simp [intOf] <;> omega
            · have HE : Hid (r = j + 1) := (HS.out (by simp [notB, HQ2.out])).symm
              go_wp2_with fail
              with_reducible refine C.out.mono ?_
              rintro e V ⟨rfl, rfl⟩
              go_wp2_with fail
              go_ret
              exact ⟨by rw [HE.out]; rfl, HB.out⟩
      · have HT3 := keepd (HG.out HQ2.out)
        cases hA
        go_wp2_with fail
        with_reducible refine C.out.mono ?_
        rintro e V ⟨rfl, rfl⟩
        go_wp2_with fail
        go_roundw
        case rel => exact ⟨k, by omega, by go_num, HT3, by first | trivial | rfl⟩
        case measure => simp [intOf] <;> omega
set_option maxHeartbeats 2000000 in
theorem ron_any (A : Option Addr) (l : List UInt8) (n c t r : Nat) (w : World) (hn : n = l.length) (hr : Rd w w.heap.size A l c) (hn4 : n ≤ 4096) (ht : t ≤ n) (hx : onL l t = r) :
    Calls Tryd.prog 78 #[.agg #[.slice A n c, .int .i64 (t : Int)]] w fun e w' => e = .returned (.int .i64 (r : Int)) ∧ Below w.heap.size w w' := by
  have HN := keepd hn
  have HR0 := keepd hr
  have HX := keepd hx
  have hc1 : n ≤ c := by rw [hn]; exact hr.1
  have hc2 := hr.2.1
  unfold maxLen at hc2
  clear hn hr hx
  go_enter Tryd.func78, Tryd.ntmps78
  go_upto_region 1 with fail
  generalize hV : w.alloc (.cells #[.slice A n c, .int .i64 (t : Int)] 30) = V
  obtain ⟨H, HV⟩ := line_new _ _ _ _ hV
  clear hV
  have k0 := H.out.cell 0
  have k1 := H.out.cell 1
  simp only [List.getElem?_cons_zero, List.getElem?_cons_succ] at k0 k1
  have HB := HV
  have HR := keepd (HR0.out.at_ HB.out)
  go_wp2_with fail
  go_loopw [3] (fun vi wr => ∃ k : Nat, k ≤ n ∧ vi = .int .i64 k ∧ Hid (fw notB l k = fw notB l t) ∧ V = wr) (fun vi _ => n - (intOf vi).toNat)
  case atStart => exact ⟨t, by omega, rfl, rfl, rfl⟩
  case round =>
    obtain ⟨k, hk, rfl, HT, rfl⟩ := hrel
    rcases Nat.lt_or_ge k n with hlt | hge
    · have hkl : k < l.length := by rw [← HN.out]; omega
      obtain ⟨b, off, hA, _, hce⟩ := HR.out.form hkl
      have HG := keepd fun h => (fw_go (p := notB) hkl h).trans HT.out
      have HS := keepd fun h => (fw_stop (p := notB) hkl h).symm.trans HT.out
      generalize l[k] = u at *
      have C := keepd (rblank_any u V)
      have i0 : (0 : Int) ≤ (k : Int) := by omega
      have i1 : (k : Int) < (n : Int) := by omega
      have i4 : (n : Int) ≤ 4096 := by omega
      obtain ⟨q, hq⟩ : ∃ q, isB u = q := ⟨_, rfl⟩
      rw [hq] at C
      have HQ2 := keepd hq
      clear hq hkl
      cases q
      · have HT3 := keepd (HG.out (by simp [notB, HQ2.out]))
        cases hA
        go_wp2_with fail
        with_reducible refine C.out.mono ?_
        rintro e V ⟨rfl, rfl⟩
        go_wp2_with fail
        go_roundw
        case rel => exact ⟨k + 1, by omega, by go_num, HT3, by first | trivial | rfl⟩
        case measure => simp [intOf] <;> omega
      · have HQ : Hid (fw isB l k = r) := by
          show _ = _
          rw [← HX.out]
          unfold onL
          rw [← HS.out (by simp [notB, HQ2.out])]
        cases hA
        go_wp2_with fail
        with_reducible refine C.out.mono ?_
        rintro e V ⟨rfl, rfl⟩
        clear hce C i0 i1
        go_wp2_with fail
        go_loopw [3] (fun vi wr => ∃ k : Nat, k ≤ n ∧ vi = .int .i64 k ∧ Hid (fw isB l k = r) ∧ V = wr) (fun vi _ => n - (intOf vi).toNat)
        case atStart => exact ⟨k, by omega, rfl, HQ, rfl⟩
        case round =>
          obtain ⟨j, hj, rfl, HT2, rfl⟩ := hrel
          rcases Nat.lt_or_ge j n with hlt2 | hge2
          · have hjl : j < l.length := by rw [← HN.out]; omega
            obtain ⟨b, off, hA, _, hce⟩ := HR.out.form hjl
            have HG := keepd fun h => (fw_go (p := isB) hjl h).trans HT2.out
            have HS := keepd fun h => (fw_stop (p := isB) hjl h).symm.trans HT2.out
            generalize l[j] = u at *
            cases hA
            have C := keepd (rblank_any u V)
            have i0 : (0 : Int) ≤ (j : Int) := by omega
            have i1 : (j : Int) < (n : Int) := by omega
            have i4 : (n : Int) ≤ 4096 := by omega
            obtain ⟨q, hq⟩ : ∃ q, isB u = q := ⟨_, rfl⟩
            rw [hq] at C
            have HQ2 := keepd hq
            clear hq hjl
            cases q
            · have HE : Hid (r = j) := (HS.out HQ2.out).symm
              go_wp2_with fail
              with_reducible refine C.out.mono ?_
              rintro e V ⟨rfl, rfl⟩
              go_wp2_with fail
              go_ret
              exact ⟨by rw [HE.out]; rfl, HB.out⟩
            · have HT3 := keepd (HG.out HQ2.out)
              go_wp2_with fail
              with_reducible refine C.out.mono ?_
              rintro e V ⟨rfl, rfl⟩
              go_wp2_with fail
              go_roundw
              case rel => exact ⟨j + 1, by omega, by go_num, HT3, by first | trivial | rfl⟩
              case measure => simp [intOf] <;> omega
          · have HE : Hid (r = j) := by
              show _ = _
              rw [← HT2.out, show j = l.length from by rw [← HN.out]; omega]
              exact fw_end _ _
            have z0 : ¬ (j : Int) < (n : Int) := by omega
            have z2 : ¬ j < n := by omega
            go_wp2_with fail
            go_ret
            exact ⟨by rw [HE.out]; rfl, HB.out⟩
    · have HQ : Hid (fw isB l k = r) := by
        show _ = _
        rw [← HX.out]
        unfold onL
        rw [← HT.out, show k = l.length from by rw [← HN.out]; omega, fw_end notB]
      have z0 : ¬ (k : Int) < (n : Int) := by omega
      have z2 : ¬ k < n := by omega
      go_wp2_with fail
      go_loopw [3] (fun vi wr => ∃ k : Nat, k ≤ n ∧ vi = .int .i64 k ∧ Hid (fw isB l k = r) ∧ V = wr) (fun vi _ => n - (intOf vi).toNat)
      case atStart => exact ⟨k, by omega, rfl, HQ, rfl⟩
      case round =>
        obtain ⟨j, hj, rfl, HT2, rfl⟩ := hrel
        rcases Nat.lt_or_ge j n with hlt2 | hge2
        · have hjl : j < l.length := by rw [← HN.out]; omega
          obtain ⟨b, off, hA, _, hce⟩ := HR.out.form hjl
          have HG := keepd fun h => (fw_go (p := isB) hjl h).trans HT2.out
          have HS := keepd fun h => (fw_stop (p := isB) hjl h).symm.trans HT2.out
          generalize l[j] = u at *
          cases hA
          have C := keepd (rblank_any u V)
          have i0 : (0 : Int) ≤ (j : Int) := by omega
          have i1 : (j : Int) < (n : Int) := by omega
          have i4 : (n : Int) ≤ 4096 := by omega
          obtain ⟨q, hq⟩ : ∃ q, isB u = q := ⟨_, rfl⟩
          rw [hq] at C
          have HQ2 := keepd hq
          clear hq hjl
          cases q
          · have HE : Hid (r = j) := (HS.out HQ2.out).symm
            go_wp2_with fail
            with_reducible refine C.out.mono ?_
            rintro e V ⟨rfl, rfl⟩
            go_wp2_with fail
            go_ret
            exact ⟨by rw [HE.out]; rfl, HB.out⟩
          · have HT3 := keepd (HG.out HQ2.out)
            go_wp2_with fail
            with_reducible refine C.out.mono ?_
            rintro e V ⟨rfl, rfl⟩
            go_wp2_with fail
            go_roundw
            case rel => exact ⟨j + 1, by omega, by go_num, HT3, by first | trivial | rfl⟩
            case measure => simp [intOf] <;> omega
        · have HE : Hid (r = j) := by
            show _ = _
            rw [← HT2.out, show j = l.length from by rw [← HN.out]; omega]
            exact fw_end _ _
          have z0 : ¬ (j : Int) < (n : Int) := by omega
          have z2 : ¬ j < n := by omega
          go_wp2_with fail
          go_ret
          exact ⟨by rw [HE.out]; rfl, HB.out⟩
theorem rsame_any (A A' : Option Addr) (l l' : List UInt8) (n n' c c' : Nat) (z z' : Int) (r : Bool) (w : World) (hn : n = l.length) (hn' : n' = l'.length) (h : Rd w w.heap.size A l c) (h' : Rd w w.heap.size A' l' c') (hr : (z == z' && l == l') = r) :
    Calls Tryd.prog 61 #[.agg #[.slice A n c, .int .i64 z], .agg #[.slice A' n' c', .int .i64 z']] w fun e w' => e = .returned (.bool r) ∧ Below w.heap.size w w' := by
  have HR := keepd hr
  have HH := keepd h
  have HH' := keepd h'
  have HN := keepd hn
  have HN' := keepd hn'
  clear h h' hr hn hn'
  go_enter Tryd.func61, Tryd.ntmps61
  go_upto_region 1 with fail
  generalize hV : (w.alloc (.cells #[.slice A n c, .int .i64 z] 30)).alloc (.cells #[.slice A' n' c', .int .i64 z'] 30) = V
  obtain ⟨H1, H2, HB⟩ := line_new2 _ _ _ _ _ _ hV
  have k0 := H1.out.cell 0
  have k1 := H1.out.cell 1
  have k2 := H2.out.cell 0
  have k3 := H2.out.cell 1
  simp only [List.getElem?_cons_zero, List.getElem?_cons_succ] at k0 k1 k2 k3
  have e1 := conv_str (HH.out.at_ HB.out)
  have e2 := conv_str (HH'.out.at_ HB.out)
  rw [← HN.out] at e1
  rw [← HN'.out] at e2
  clear hV
  cases hq : (z == z')
  · go_wp2_with fail
    go_ret
    exact ⟨by rw [← HR.out, hq]; rfl, HB.out⟩
  · go_wp2_with fail
    go_ret
    exact ⟨by rw [← HR.out, hq]; rfl, HB.out⟩

end Go.Proofs.YtlfmbfecajhffaaDoor
