/-
  A word back: the contracts of the line's and the document's Back. No conditions beyond those each theorem states.
-/
import Derived.Test.YtecihodifgjkoaaDoorT1
namespace Go.Proofs.YtecihodifgjkoaaDoor
open Go.RowKit
set_option maxRecDepth 100000

theorem line_new (w : World) (x y : Value) (V : World) (hV : w.alloc (.cells #[x, y] 28) = V) : Hid (SR 28 V w.heap.size [x, y]) ∧ Hid (Below w.heap.size w V) := by
  subst hV
  exact ⟨heap_alloc_new w _, bAlloc (Below.refl _ _) _⟩

set_option maxHeartbeats 2000000 in
theorem back_any (A : Option Addr) (l : List UInt8) (n c t r : Nat) (w : World) (hn : n = l.length) (hr : Rd w w.heap.size A l c) (hn4 : n ≤ 4096) (ht : t ≤ n) (hx : backL l t = r) :
    Calls Tryd.prog 68 #[.agg #[.slice A n c, .int .i64 (t : Int)]] w fun e w' => e = .returned (.int .i64 (r : Int)) ∧ Below w.heap.size w w' := by
  have HN := keepd hn
  have HR0 := keepd hr
  have HX := keepd hx
  have hc1 : n ≤ c := by rw [hn]; exact hr.1
  have hc2 := hr.2.1
  unfold maxLen at hc2
  clear hn hr hx
  go_enter Tryd.func68, Tryd.ntmps68
  go_upto_region 1 with fail
  generalize hV : w.alloc (.cells #[.slice A n c, .int .i64 (t : Int)] 28) = V
  obtain ⟨H, HV⟩ := line_new _ _ _ _ hV
  have CK := keepd (check_ok A n c t V hn4 ht)
  have k0 := H.out.cell 0
  have k1 := H.out.cell 1
  simp only [List.getElem?_cons_zero, List.getElem?_cons_succ] at k0 k1
  clear hV
  go_wp2_with fail
  with_reducible refine CK.out.mono ?_
  rintro e w2 ⟨rfl, hb2⟩
  have HB := keepd (HV.out.trans (hb2.mono HV.out.size))
  have hs := SR.call H.out hb2 H.out.lt
  have k0 := hs.cell 0
  have k1 := hs.cell 1
  simp only [List.getElem?_cons_zero, List.getElem?_cons_succ] at k0 k1
  have HR := keepd (HR0.out.at_ HB.out)
  clear hb2 hs CK
  go_wp2_with fail
  go_loopw [3] (fun vi wr => ∃ k : Nat, k ≤ t ∧ vi = .int .i64 k ∧ Hid (bk isB l k = bk isB l t) ∧ w2 = wr) (fun vi _ => (intOf vi).toNat)
  case atStart => exact ⟨t, by omega, rfl, rfl, rfl⟩
  case round =>
    obtain ⟨k, hk, rfl, HT, rfl⟩ := hrel
    rcases Nat.eq_zero_or_pos k with h0 | h0
    · have z0 : ¬ (k : Int) > 0 := by omega
      have z1 : ¬ (0 : Int) < (k : Int) := by omega
      have z2 : ¬ 0 < k := by omega
      have HK0 := keepd h0
      have HT : Hid (bk isB l 0 = bk isB l t) := by rw [← h0]; exact HT
      clear h0
      have HQ : Hid (bk notB l 0 = r) := by
        show _ = _
        rw [← HX.out]
        unfold backL
        rw [← HT.out]
        rfl
      go_wp2_with fail
      go_loopw [3] (fun vi wr => ∃ k : Nat, k ≤ t ∧ vi = .int .i64 k ∧ Hid (bk notB l k = r) ∧ w2 = wr) (fun vi _ => (intOf vi).toNat)
      case atStart => exact ⟨k, by omega, by first | rfl | go_num, by rw [HK0.out]; exact HQ, rfl⟩
      case round =>
        obtain ⟨j, hj, rfl, HT2, rfl⟩ := hrel
        cases j with
        | zero =>
          have HE : Hid (r = 0) := HT2.out.symm
          go_wp2_with fail
          go_ret
          exact ⟨by rw [HE.out]; rfl, HB.out⟩
        | succ j =>
          have hjl : j < l.length := by rw [← HN.out]; omega
          obtain ⟨b, off, hA, _, hce⟩ := HR.out.form hjl
          have HG := keepd fun h => (bk_go (p := notB) hjl h).symm.trans HT2.out
          have HS := keepd fun h => (bk_stop (p := notB) hjl h).symm.trans HT2.out
          generalize l[j] = u at *
          cases hA
          have C := keepd (blank_any u w2)
          have i0 : (0 : Int) ≤ (j : Int) := by omega
          have i1 : (j : Int) < (n : Int) := by omega
          have i2 : (j : Int) + 1 > 0 := by omega
          have i3 : (0 : Int) < (j : Int) + 1 := by omega
          have i4 : (j : Int) ≤ 4096 := by omega
          obtain ⟨q, hq⟩ : ∃ q, isB u = q := ⟨_, rfl⟩
          rw [hq] at C
          have HQ2 := keepd hq
          clear hq
          cases q
          · have HT3 := keepd (HG.out (by simp [notB, HQ2.out]))
            go_wp2_with fail
            with_reducible refine C.out.mono ?_
            rintro e w2 ⟨rfl, rfl⟩
            go_wp2_with fail
            go_roundw
            case rel => exact ⟨j, by omega, by go_num, HT3, by first | trivial | rfl⟩
            case measure => simp [intOf] <;> omega
          · have HE : Hid (r = j + 1) := (HS.out (by simp [notB, HQ2.out])).symm
            go_wp2_with fail
            with_reducible refine C.out.mono ?_
            rintro e w2 ⟨rfl, rfl⟩
            go_wp2_with fail
            go_ret
            exact ⟨by rw [HE.out]; rfl, HB.out⟩
    · obtain ⟨k, rfl⟩ : ∃ j, k = j + 1 := ⟨k - 1, by omega⟩
      clear h0
      have hkl : k < l.length := by rw [← HN.out]; omega
      obtain ⟨b, off, hA, _, hce⟩ := HR.out.form hkl
      have HG := keepd fun h => (bk_go (p := isB) hkl h).symm.trans HT.out
      have HS := keepd fun h => (bk_stop (p := isB) hkl h).symm.trans HT.out
      generalize l[k] = u at *
      obtain ⟨A', hA'⟩ : ∃ A', A = A' := ⟨_, rfl⟩
      have C := keepd (blank_any u w2)
      have i0 : (0 : Int) ≤ (k : Int) := by omega
      have i1 : (k : Int) < (n : Int) := by omega
      have i2 : (k : Int) + 1 > 0 := by omega
      have i3 : (0 : Int) < (k : Int) + 1 := by omega
      have i4 : (k : Int) ≤ 4096 := by omega
      obtain ⟨q, hq⟩ : ∃ q, isB u = q := ⟨_, rfl⟩
      rw [hq] at C
      have HQ2 := keepd hq
      clear hq hA' A'
      cases q
      · have HQ : Hid (bk notB l (k + 1) = r) := by
          show _ = _
          rw [← HX.out]
          unfold backL
          rw [← HT.out]
          show _ = bk notB l (bk isB l (k + 1))
          rw [HT.out, ← HS.out HQ2.out]
        cases hA
        go_wp2_with fail
        with_reducible refine C.out.mono ?_
        rintro e w2 ⟨rfl, rfl⟩
        clear hce C
        go_wp2_with fail
        go_loopw [3] (fun vi wr => ∃ k : Nat, k ≤ t ∧ vi = .int .i64 k ∧ Hid (bk notB l k = r) ∧ w2 = wr) (fun vi _ => (intOf vi).toNat)
        case atStart => exact ⟨k + 1, by omega, by first | rfl | go_num, HQ, rfl⟩
        case round =>
          obtain ⟨j, hj, rfl, HT2, rfl⟩ := hrel
          cases j with
          | zero =>
            have HE : Hid (r = 0) := HT2.out.symm
            go_wp2_with fail
            go_ret
            exact ⟨by rw [HE.out]; rfl, HB.out⟩
          | succ j =>
            have hjl : j < l.length := by rw [← HN.out]; omega
            obtain ⟨b, off, hA, _, hce⟩ := HR.out.form hjl
            have HG := keepd fun h => (bk_go (p := notB) hjl h).symm.trans HT2.out
            have HS := keepd fun h => (bk_stop (p := notB) hjl h).symm.trans HT2.out
            generalize l[j] = u at *
            cases hA
            have C := keepd (blank_any u w2)
            have i0 : (0 : Int) ≤ (j : Int) := by omega
            have i1 : (j : Int) < (n : Int) := by omega
            have i2 : (j : Int) + 1 > 0 := by omega
            have i3 : (0 : Int) < (j : Int) + 1 := by omega
            have i4 : (j : Int) ≤ 4096 := by omega
            obtain ⟨q, hq⟩ : ∃ q, isB u = q := ⟨_, rfl⟩
            rw [hq] at C
            have HQ2 := keepd hq
            clear hq
            cases q
            · have HT3 := keepd (HG.out (by simp [notB, HQ2.out]))
              go_wp2_with fail
              with_reducible refine C.out.mono ?_
              rintro e w2 ⟨rfl, rfl⟩
              go_wp2_with fail
              go_roundw
              case rel => exact ⟨j, by omega, by go_num, HT3, by first | trivial | rfl⟩
              case measure => simp [intOf] <;> omega
            · have HE : Hid (r = j + 1) := (HS.out (by simp [notB, HQ2.out])).symm
              go_wp2_with fail
              with_reducible refine C.out.mono ?_
              rintro e w2 ⟨rfl, rfl⟩
              go_wp2_with fail
              go_ret
              exact ⟨by rw [HE.out]; rfl, HB.out⟩
      · have HT3 := keepd (HG.out HQ2.out)
        cases hA
        go_wp2_with fail
        with_reducible refine C.out.mono ?_
        rintro e w2 ⟨rfl, rfl⟩
        go_wp2_with fail
        go_roundw
        case rel => exact ⟨k, by omega, by go_num, HT3, by first | trivial | rfl⟩
        case measure => simp [intOf] <;> omega

end Go.Proofs.YtecihodifgjkoaaDoor
