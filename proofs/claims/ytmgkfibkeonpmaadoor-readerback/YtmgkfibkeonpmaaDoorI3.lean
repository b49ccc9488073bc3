/-
  A contract over the library as layer 3 calls it: bytes.Replace and bytes.ReplaceAll of 255 by two of them. No conditions beyond those each theorem states.
-/
import Derived.Test.YtmgkfibkeonpmaaDoorI2
namespace Go.Proofs.YtmgkfibkeonpmaaDoor
open Go.RowKit

/-- Octets in new memory: the answer. -/
def GotO (w : World) (l : List UInt8) (e : Ending) (w' : World) : Prop :=
  ∃ A c, e = .returned (.slice A l.length c) ∧ Rd w' w'.heap.size A l c ∧ Below w.heap.size w w'

theorem dbl_step {l : List UInt8} {s j : Nat} (h3 : (255 : UInt8) ∉ (l.drop s).take j) (h4 : (l.drop s).take (j + 1) = (l.drop s).take j ++ [255]) :
    dbl (l.take (s + j + 1)) = (dbl (l.take s) ++ (l.drop s).take j) ++ [255, 255] ∧ (l.take (s + j + 1)).count 255 = (l.take s).count 255 + 1 := by
  have e : l.take (s + j + 1) = l.take s ++ ((l.drop s).take j ++ [255]) := by
    rw [← h4, Nat.add_assoc, List.take_add]
  rw [e]
  constructor
  · rw [dbl_append, dbl_append, dbl_none h3, dbl_255, List.append_assoc]
  · rw [List.count_append, List.count_append, List.count_eq_zero_of_not_mem h3]
    simp

theorem slice_mid (A : Option Addr) (n c k m : Nat) (hk : k ≤ m) (hm : m ≤ c) (W : World) :
    (Instr.sliceAt 23 (.slice A n c) (some (.int .i64 k)) (some (.int .i64 m)) none).run Tryd.prog W = .ok (.slice (if c = k then A else A.map (·.add k)) (m - k) (c - k)) W := by
  have hs : ∀ W : World, (sizeOf (Tryd.prog.elem 23)).run Tryd.prog W = .ok 1 W := fun W => by kernel_rfl
  rw [run_sliceAt_slice _ _ _ _ _ _ (by kernel_rfl), run_slice_lh _ _ _ _ _ (by kernel_rfl) _ _ _ _ (by omega) (by omega) (by omega), hs]
  simp [sliced, Result.andThen]

set_option maxRecDepth 100000 in
set_option maxHeartbeats 1000000 in
theorem replace_any (A A1 A2 : Option Addr) (l : List UInt8) (n c c1 c2 : Nat) (w : World) (hn : n = l.length) (h : Rd w w.heap.size A l c) (h1 : Rd w w.heap.size A1 [255] c1) (h2 : Rd w w.heap.size A2 [255, 255] c2) (hl : n ≤ 1000) :
    Calls Tryd.prog 47 #[.slice A n c, .slice A1 1 c1, .slice A2 2 c2, .int .i64 (-1)] w (GotO w (dbl l)) := by
  have HR := keepd h
  have HR1 := keepd h1
  have HR2 := keepd h2
  have HN := keepd hn
  have hc1 := h.1
  have hc2 := h.2.1
  unfold maxLen at hc2
  rw [← hn] at hc1
  obtain ⟨m, hm⟩ : ∃ m, l.count 255 = m := ⟨_, rfl⟩
  have HC := count_any A A1 l n c c1 _ w hn h h1
  rw [hm] at HC
  have hmn : m ≤ n := by rw [← hm, hn]; exact List.count_le_length
  have HM := keepd hm
  have HT : Hid ((dbl l).length = n + m) := by show _ = _; rw [dbl_len, ← hn, hm]
  clear h h1 h2 hn hm
  by_cases hm0 : m = 0
  · subst hm0
    have hd : dbl l = l := dbl_none (fun e => by have := List.count_pos_iff.2 e; rw [HM.out] at this; omega)
    rw [hd]
    have HL0 : Hid (([] : List UInt8).length + l.length ≤ 1000000) := by show _ ≤ _; rw [← HN.out]; simp; omega
    go_enter Tryd.func47, Tryd.ntmps47
    go_wp2_with (first | (go_at_call 49; with_reducible refine HC.mono ?_; rintro e w1 ⟨rfl, rfl⟩) | (at_builtin; refine wpList_app _ rfl (.const (.slice none 0 0)) (.tmp 24) rfl w.heap.size _ [] rfl (Own.nil _ _) w.heap.size A n c l rfl HN.out HR.out HL0.out (Nat.le_refl _) ?_; intro va w4 ho hg _))
    obtain ⟨A', c', rfl, hr'⟩ := ho.rd
    have hb : Below w.heap.size w w4 := grown_below (Own.nil _ _) hg (Nat.le_refl _)
    have H1 := keepd hr'
    have H2 := keepd hb
    clear ho hg hb hr'
    go_wp2
    go_ret
    exact ⟨A', c', rfl, H1.out, H2.out⟩
  · have hmp : 0 < m := by omega
    have hmk := make_run (n + m) (by omega)
    have e1 : ((n + m : Nat) : Int) = (n : Int) + (m : Int) := by omega
    rw [e1] at hmk
    have hmz : ((m : Int) == 0) = false := by simp; omega
    go_enter Tryd.func47, Tryd.ntmps47
    go_wp2_with (first | (go_at_call 49; with_reducible refine HC.mono ?_; rintro e w1 ⟨rfl, rfl⟩))
    go_loopw [11, 12, 49] (fun vw vs vi wr => ∃ i s : Nat, i ≤ m ∧ s ≤ n ∧ vi = .int .i64 i ∧ vs = .int .i64 s ∧ vw = .int .i64 ((s : Int) + (i : Int)) ∧ Hid ((l.take s).count 255 = i) ∧
        Hid (wr.heap[w.heap.size]? = some (.cells ((dbl (l.take s) ++ zeros ((n + m) - (dbl (l.take s)).length)).map bv).toArray 5 (0, 0))) ∧ Hid (Below w.heap.size w wr)) (fun _ _ vi _ => m - (intOf vi).toNat)
    case atStart => exact ⟨0, 0, by omega, by omega, rfl, rfl, rfl, rfl, by show _ = _; simpa [dbl] using heap_alloc_new w _, bAlloc (Below.refl _ _) _⟩
    case round =>
      obtain ⟨i, s, hi, hs, rfl, rfl, rfl, HI, HW, HB⟩ := hrel
      have hlen : (l.take s).length = s := by rw [List.length_take, ← HN.out]; omega
      have hdl : (dbl (l.take s)).length = s + i := by rw [dbl_len, hlen, HI.out]
      have hcd : (l.drop s).count 255 = m - i := by
        have := List.count_append (a := (255 : UInt8)) (l₁ := l.take s) (l₂ := l.drop s)
        rw [List.take_append_drop, HM.out, HI.out] at this
        omega
      have HD := keepd (HR.out.drop s (by rw [← HN.out]; exact hs))
      have hld : (l.drop s).length = n - s := by rw [List.length_drop, ← HN.out]
      by_cases hlt : i < m
      · obtain ⟨j, j1, j2, j3, j4⟩ := index_has (l := l.drop s) (List.count_pos_iff.1 (by rw [hcd]; omega))
        rw [hld] at j1
        have hd0 := HD.out
        rw [if_neg (show ¬ c = s by omega)] at hd0
        clear HD
        have HD := keepd hd0
        clear hd0
        obtain ⟨st1, st2⟩ := dbl_step j3 j4
        have HX := fun W (hW : Below w.heap.size w W) => index_any _ A1 (l.drop s) (n - s) (c - s) c1 W.heap.size W hld.symm (HD.out.at_ hW) (HR1.out.at_ hW)
        rw [j2] at HX
        have HJ4 := keepd j4
        have HST1 := keepd st1
        have HST2 := keepd st2
        have HDL := keepd hdl
        have HLD := keepd hld
        clear hlen hdl hcd hld j2 j3 j4 st1 st2 HC
        go_wp2_with (first | (go_at_call 50; with_reducible refine (HX _ HB.out).mono ?_; rintro e w1 ⟨rfl, rfl⟩))
        go_wp2_with fail
        have HWd : Hid (wr.drew.heap[w.heap.size]? = some (.cells ((dbl (l.take s) ++ zeros ((n + m) - (dbl (l.take s)).length)).map bv).toArray 5 (0, 0))) := HW.out
        have HBd := keepd HB.out.drew
        have hs1 := slice_from (some ⟨w.heap.size, 0, none⟩) (n + m) (n + m) (s + i) (by omega)
        have hs2 := slice_mid A n c s (s + j) (by omega) (by omega)
        rw [if_neg (by omega)] at hs1 hs2
        rw [show s + j - s = j by omega] at hs2
        rw [Option.map_some, Addr.add_lit, Nat.zero_add, Int.natCast_add] at hs1
        rw [Int.natCast_add] at hs2
        have hj : ((l.drop s).take j).length = j := by rw [List.length_take, HLD.out]; omega
        have HL1 : Hid ((((l.drop s).take j).map bv).length = Nat.min j (n + m - (s + i))) := by show _ = _; rw [List.length_map, hj]; exact (Nat.min_eq_left (by omega)).symm
        have HL2 : Hid (s + i + (((l.drop s).take j).map bv).length ≤ ((dbl (l.take s) ++ zeros ((n + m) - (dbl (l.take s)).length)).map bv).length) := by
          show _ ≤ _
          rw [splice_len _ _ (by rw [HDL.out]; omega), List.length_map, hj]
          omega
        have HSR := keepd ((HD.out.take j).at_ HBd.out)
        have HJ := keepd hj
        clear hj
        generalize hM : (l.drop s).take j = M at *
        have i2 : IntKind.i64.wrap ((s : Int) + (i : Int) + (j : Int)) = (s : Int) + (i : Int) + (j : Int) := wrap_small _ (by omega) (by omega)
        go_region_held3 (fun W => Below w.heap.size w W) (first | exact HBd.out | assumption)
          (first | (refine step_copy_splice rfl (.tmp 61) (.tmp 65) 23 23 rfl 5 Tryd.underlying23 size5 _ _ _ _ _ _ rfl rfl w.heap.size (s + i) _ 5 HWd.out (M.map bv) HL1.out (fun hp => ⟨rfl, HSR.out.src hp⟩) HL2.out (bv_one _) w.heap.size w HBd.out (Nat.le_refl _) ?_; intro w' Hw' hbw'; rw [List.length_map, HJ.out]))
        have Hw2 : Hid (w'.heap[w.heap.size]? = some (.cells (((dbl (l.take s) ++ M) ++ zeros ((n + m) - (dbl (l.take s) ++ M).length)).map bv).toArray 5 (0, 0))) := by
          have := Hw'.out
          rw [← HDL.out, splice_step] at this
          exact this
        have HB2 := keepd hbw'
        have HL3 : Hid ((dbl (l.take s) ++ M).length = s + i + j) := by show _ = _; rw [List.length_append, HDL.out, HJ.out]
        clear hs1 hs2 Hw' hbw' HWd HBd HL1 HL2 HSR HX
        have hs3 := slice_from (some ⟨w.heap.size, 0, none⟩) (n + m) (n + m) (s + i + j) (by omega)
        rw [if_neg (by omega), Option.map_some, Addr.add_lit, Nat.zero_add, Int.natCast_add, Int.natCast_add] at hs3
        have HL4 : Hid ((([255, 255] : List UInt8).map bv).length = Nat.min 2 (n + m - (s + i + j))) := by
          show 2 = _
          exact (Nat.min_eq_left (by omega)).symm
        have HL5 : Hid (s + i + j + (([255, 255] : List UInt8).map bv).length ≤ (((dbl (l.take s) ++ M) ++ zeros ((n + m) - (dbl (l.take s) ++ M).length)).map bv).length) := by
          show _ ≤ _
          rw [splice_len _ _ (by rw [HL3.out]; omega)]
          show s + i + j + 2 ≤ _
          omega
        have HR2' := keepd (HR2.out.at_ HB2.out)
        go_wp2_with (with_reducible refine wpList_copy_splice rfl (.tmp 71) (.tmp 72) 23 23 rfl 5 Tryd.underlying23 size5 _ _ _ _ _ _ rfl rfl w.heap.size (s + i + j) _ 5 Hw2.out (([255, 255] : List UInt8).map bv) HL4.out (fun hp => ⟨rfl, HR2'.out.src hp⟩) HL5.out (bv_one _) w.heap.size w HB2.out (Nat.le_refl _) ?_; intro w3 Hw3 hbw3)
        have HB3 := keepd hbw3
        have Hw4 : Hid (w3.heap[w.heap.size]? = some (.cells (((dbl (l.take (s + j + 1)) ++ zeros ((n + m) - (dbl (l.take (s + j + 1))).length)).map bv).toArray) 5 (0, 0))) := by
          have := Hw3.out
          rw [← HL3.out, splice_step] at this
          show _ = _
          rw [HST1.out]
          exact this
        clear Hw3 hbw3
        go_roundw
        case rel => exact ⟨i + 1, s + j + 1, by omega, by omega, by go_num, by go_num, by go_num, by show _ = _; rw [HST2.out, HI.out], Hw4, HB3⟩
        case measure => simp [intOf]; omega
      · obtain rfl : i = m := by omega
        have hn255 : (255 : UInt8) ∉ l.drop s := fun e => by have := List.count_pos_iff.2 e; rw [hcd] at this; omega
        have hfin : dbl l = dbl (l.take s) ++ l.drop s := by
          conv => lhs; rw [← List.take_append_drop s l]
          rw [dbl_append, dbl_none hn255]
        have HF := keepd hfin
        have HDL := keepd hdl
        have HLD := keepd hld
        clear hlen hdl hcd hld hn255 hfin HC
        go_wp2_with fail
        have HWd : Hid (wr.drew.heap[w.heap.size]? = some (.cells ((dbl (l.take s) ++ zeros ((n + i) - (dbl (l.take s)).length)).map bv).toArray 5 (0, 0))) := HW.out
        have HBd := keepd HB.out.drew
        have hs1 := slice_from (some ⟨w.heap.size, 0, none⟩) (n + i) (n + i) (s + i) (by omega)
        have hs2 := slice_from A n c s (by omega)
        rw [Option.map_some, Addr.add_lit, Nat.zero_add, Int.natCast_add] at hs1
        generalize hM : l.drop s = M at *
        have HL1 : Hid ((M.map bv).length = Nat.min (n - s) (n + i - (s + i))) := by
          show _ = _
          rw [List.length_map, HLD.out, show n + i - (s + i) = n - s by omega]
          exact (Nat.min_self _).symm
        have HL2 : Hid (s + i + (M.map bv).length ≤ ((dbl (l.take s) ++ zeros ((n + i) - (dbl (l.take s)).length)).map bv).length) := by
          show _ ≤ _
          rw [splice_len _ _ (by rw [HDL.out]; omega), List.length_map, HLD.out]
          omega
        have HSR := keepd (HD.out.at_ HBd.out)
        have i2 : IntKind.i64.wrap ((s : Int) + (i : Int) + ((n - s : Nat) : Int)) = (n : Int) + (i : Int) := by rw [wrap_small _ (by omega) (by omega)]; omega
        go_region_held3 (fun W => Below w.heap.size w W) (first | exact HBd.out | assumption)
          (first | (refine step_copy_splice rfl (.tmp 123) (.tmp 126) 23 23 rfl 5 Tryd.underlying23 size5 _ _ _ _ _ _ rfl rfl w.heap.size (s + i) _ 5 HWd.out (M.map bv) HL1.out (fun hp => ⟨by rw [if_neg (by rw [List.length_map, HLD.out] at hp; omega)], HSR.out.src hp⟩) HL2.out (bv_one _) w.heap.size w HBd.out (Nat.le_refl _) ?_; intro w' Hw' hbw'; rw [List.length_map, HLD.out]))
        have Hw2 : Hid (Bk w' w.heap.size (dbl l)) := by
          have := Hw'.out
          rw [← HDL.out, splice_step] at this
          show Bk _ _ _
          unfold Bk
          rw [this, ← HF.out, HT.out, Nat.sub_self]
          simp [zeros]
        have HB2 := keepd hbw'
        clear hs1 hs2 Hw' hbw' HWd HBd HL1 HL2 HSR
        go_wp2
        all_goals
          go_ret
          exact ⟨_, _, ret_slice (by have := HT.out; omega), Hw2.out.rd Hw2.out.lt (by have := HT.out; omega) (by unfold maxLen; omega), HB2.out⟩

theorem replaceAll_any (A A1 A2 : Option Addr) (l : List UInt8) (n c c1 c2 : Nat) (w : World) (hn : n = l.length) (h : Rd w w.heap.size A l c) (h1 : Rd w w.heap.size A1 [255] c1) (h2 : Rd w w.heap.size A2 [255, 255] c2) (hl : n ≤ 1000) :
    Calls Tryd.prog 36 #[.slice A n c, .slice A1 1 c1, .slice A2 2 c2] w (GotO w (dbl l)) := by
  have HC := replace_any A A1 A2 l n c c1 c2 w hn h h1 h2 hl
  clear h h1 h2 hn
  go_enter Tryd.func36, Tryd.ntmps36
  go_wp2_with fail
  with_reducible refine HC.mono ?_
  rintro e w1 ⟨A', c', rfl, hr, hb⟩
  have H1 := keepd hr
  have H2 := keepd hb
  clear hr hb HC
  go_wp2
  go_ret
  exact ⟨A', c', rfl, H1.out, H2.out⟩

end Go.Proofs.YtmgkfibkeonpmaaDoor
