/-
  The law ReaderKeeps, walked: it returns true, whatever the reader, the octets and the number.
-/
import Derived.Test.YtmgkfibkeonpmaaL1
namespace Go.Proofs.Ytmgkfibkeonpmaa
open Go.RowKit

theorem take_min (l : List UInt8) (n m : Nat) (hn : n = l.length) : (l.take m).length = min n m := by rw [List.length_take, hn]; omega

/-- Octets do not lie in a block of integers and a slice. -/
theorem Rd.not_rd {w : World} {A : Option Addr} {l : List UInt8} {c b : Nat} {t : TypeId} {z0 z1 z2 : Int} {A' : Option Addr} {n' c' : Nat} (h : Rd w w.heap.size A l c) (hl : l ≠ []) (hb : SR t w b [.int .i64 z0, .int .i64 z1, .int .i64 z2, .slice A' n' c']) :
    ∀ ad, A = some ad → ad.block ≠ b := by
  intro ad had e
  have h0 : 0 < l.length := List.length_pos_iff.2 hl
  have := h.2.2.2 ad had 0 l[0] (List.getElem?_eq_getElem h0)
  have ea : ad.add 0 = ad := by unfold Addr.add; simp
  rw [ea] at this
  unfold World.cell? at this
  unfold SR at hb
  rw [e, hb] at this
  simp only at this
  split at this
  · cases this
  · match hof : ad.off with
    | 0 => rw [hof] at this; simp [bv] at this
    | 1 => rw [hof] at this; simp [bv] at this
    | 2 => rw [hof] at this; simp [bv] at this
    | 3 => rw [hof] at this; simp [bv] at this
    | n + 4 => rw [hof] at this; simp at this

set_option maxRecDepth 100000 in
set_option maxHeartbeats 4000000 in
theorem keeps_law (X : Itm) (n : Nat) (hn : n = X.l.length) (A : Option Addr) (l : List UInt8) (m c : Nat) (hm : m = l.length) (z : Int) (hz : 0 ≤ z ∧ z ≤ 255) (w : World) (hX : Rd w w.heap.size X.A X.l X.c) (hr : Rd w w.heap.size A l c) :
    Calls Try.prog 4 #[.agg #[.int .i64 X.k, .int .i64 X.a, .int .i64 X.b, .slice X.A n X.c], .slice A m c, .int .u8 z] w fun e w' => e = .returned (.bool true) ∧ Below w.heap.size w w' := by
  have hXl : n ≤ X.c := by have := hX.1; omega
  have hXm := hX.2.1
  have hrl : m ≤ c := by have := hr.1; omega
  have hrm := hr.2.1
  have HR0 : Hid (Rd w w.heap.size X.A (X.l.take 600) X.c) := hX.take 600
  have HA0 : Hid (Rd w w.heap.size A (l.take 200) c) := hr.take 200
  have e1 := take_min X.l n 600 hn
  have e2 := take_min l m 200 hm
  have n1 : min n 600 ≤ 600 := by omega
  have m1 : min m 200 ≤ 200 := by omega
  clear hX hr hn hm
  go_enter Try.func4, Try.ntmps4
  go_wp2_with fail
  with_reducible refine (one6_any X.k X.a X.b X.A n X.c _ hXl hXm).mono ?_
  rintro e w1 ⟨rfl, hb⟩
  have q0 := (SR.new 24 w [.int .i64 X.k, .int .i64 X.a, .int .i64 X.b, .slice X.A n X.c]).call hb (by simp)
  obtain ⟨⟨c0, c1, c2, c3⟩, f0, f1, f2, f3⟩ := q0.facts4
  have HB1 := keepd (upA hb)
  have HQ0 := keepd q0
  clear hb q0
  generalize X.l.take 600 = xl at *
  generalize l.take 200 = al at *
  generalize min n 600 = xn at *
  go_wp2_with fail
  with_reducible refine (few_any A m c _ hrl hrm).mono ?_
  rintro e w2 ⟨rfl, rfl⟩
  generalize min m 200 = an at *
  go_wp2_with fail
  have H0 : Hid (SR 24 (set4 w1 w.heap.size (.int .i64 X.k) (.int .i64 X.a) (.int .i64 X.b) (.slice X.A xn X.c)) w.heap.size [.int .i64 X.k, .int .i64 X.a, .int .i64 X.b, .slice X.A xn X.c]) := (((HQ0.out.set 0 (.int .i64 X.k)).set 1 (.int .i64 X.a)).set 2 (.int .i64 X.b)).set 3 (.slice X.A xn X.c)
  have HB2 : Hid (Below w.heap.size w (set4 w1 w.heap.size (.int .i64 X.k) (.int .i64 X.a) (.int .i64 X.b) (.slice X.A xn X.c))) := set4_below HB1.out (Nat.le_refl _)
  unfold set4 at H0 HB2
  clear HQ0 HB1 c0 c1 c2 c3 f0 f1 f2 f3
  generalize (((w1.setCell ⟨w.heap.size, 0, none⟩ (.int .i64 X.k)).setCell ⟨w.heap.size, 1, none⟩ (.int .i64 X.a)).setCell ⟨w.heap.size, 2, none⟩ (.int .i64 X.b)).setCell ⟨w.heap.size, 3, none⟩ (.slice X.A xn X.c) = W2 at *
  obtain ⟨v, hv⟩ : ∃ v, mayR ⟨X.k, X.a, X.b, xl⟩ = v := ⟨_, rfl⟩
  with_reducible refine (rcheck_any X.k X.a X.b X.A xl xn X.c _ e1.symm v hv).mono ?_
  rintro e w3 ⟨rfl, hb3⟩
  have HB3 := keepd (bCall HB2.out hb3)
  have HQ3 := keepd (H0.out.call hb3 H0.out.lt)
  have HV := keepd hv
  clear hb3 HB2 H0 hv
  have HAw := keepd rawake_any
  cases v
  · go_wp2_with (go_at_call 13; with_reducible refine (HAw.out _).mono ?_; rintro e w4 ⟨rfl, hb4⟩)
    go_ret
    exact ⟨rfl, bCall HB3.out hb4⟩
  · go_wp2_with fail
    go_loopw [7] (fun vi wr => ∃ (k : Nat) (qk qa qb : Int) (ql : List UInt8) (qn : Nat) (A' : Option Addr) (c' : Nat), k ≤ 6 ∧ vi = .int .i64 k ∧ Hid (SR 24 wr w.heap.size [.int .i64 qk, .int .i64 qa, .int .i64 qb, .slice A' qn c']) ∧ Hid (ql.length = qn) ∧ Hid (mayR ⟨qk, qa, qb, ql⟩ = true) ∧
      Hid (Rd wr wr.heap.size A' ql c') ∧ Hid (Below w.heap.size w wr)) (fun vi _ => 7 - (intOf vi).toNat)
    case atStart => exact ⟨0, X.k, X.a, X.b, xl, xn, X.A, X.c, by omega, rfl, HQ3, e1, HV, HR0.out.at_ HB3.out, HB3⟩
    case round =>
      obtain ⟨k, qk, qa, qb, ql, qn, A', c', hk, rfl, J1, J2, J3, J4, J5⟩ := hrel
      clear HQ3 HV HR0 HB3 e1 n1
      obtain ⟨⟨x0, x1, x2, x3⟩, _⟩ := J1.out.facts4
      have hlq := mayR_len J3.out
      simp only at hlq
      rw [J2.out] at hlq
      by_cases hlt : (k : Int) < 1 + z % 6
      · have hk5 : k ≤ 5 := by omega
        have hltb : decide ((k : Int) < 1 + z % 6) = true := by simpa using hlt
        obtain ⟨⟨⟨k2, a2, b2, l2⟩, out⟩, hf⟩ : ∃ x, feed ⟨qk, qa, qb, ql⟩ al = x := ⟨_, rfl⟩
        have g := feed_may J3.out al
        rw [hf] at g
        obtain ⟨g1, g2, g3⟩ := g
        obtain ⟨n2, hn2⟩ : ∃ n2, l2.length = n2 := ⟨_, rfl⟩
        obtain ⟨s, hs⟩ : ∃ s, out.length = s := ⟨_, rfl⟩
        have hl2 := mayR_len g1
        simp only at hl2 g3
        rw [hn2] at hl2
        rw [hs, e2] at g3
        have HG1 := keepd g1
        have HG2 := keepd g2
        have HN2 := keepd hn2
        have HF := keepd hf
        have HS := keepd hs
        clear g1 g2 hn2 hf hs
        go_wp2_with fail
        with_reducible refine (feed_at qk qa qb A' ql c' A al qn an c wr J2.out.symm e2.symm (by omega) (by omega) J4.out (HA0.out.at_ J5.out) k2 a2 b2 l2 n2 out s 0 ((feedE_yes J3.out al).trans HF.out) HN2.out HS.out (errF_yes J3.out)).mono ?_
        rintro e w4 ⟨A2, c2, B2, d2, L2, rfl, hL2, hR2, hI2, hb2⟩
        have HB4 := keepd hb2
        have HL2 := keepd hL2
        have HR2 := keepd hR2
        have HI2 := keepd hI2
        clear hL2 hR2 hI2 hb2 x0 x1 x2 x3
        go_wp2_with fail
        with_reducible refine (rcheck_any k2 a2 b2 A2 l2 n2 c2 _ HN2.out.symm true HG1.out).mono ?_
        rintro e w5 ⟨rfl, hb5⟩
        have q5 := (SR.new 24 w4 [.int .i64 k2, .int .i64 a2, .int .i64 b2, .slice A2 n2 c2]).call hb5 (by simp)
        obtain ⟨⟨x0, x1, x2, x3⟩, _⟩ := q5.facts4
        have HB5 := keepd (upA hb5)
        have HQ5 := keepd q5
        clear hb5 q5
        have t1 : decide ((512 : Int) < (n2 : Int)) = false := by simp; omega
        have t2 : decide (an < s) = false := by simp; omega
        go_wp2_with fail
        clear t1 t2
        go_loopw [11] (fun vj wj => ∃ j : Nat, j ≤ s ∧ vj = .int .i64 j ∧ Hid (Below w5.heap.size w5 wj)) (fun vj _ => s - (intOf vj).toNat)
        case atStart => exact ⟨0, by omega, rfl, Below.refl _ _⟩
        case round =>
          obtain ⟨j, hj, rfl, JB⟩ := hrel
          clear x0 x1 x2 x3
          by_cases hjs : j < s
          · have hLs : L2.length = s := by rw [← HS.out, ← HL2.out, List.length_map]
            have hjL : j < L2.length := by omega
            have h45 := bCall HB5.out JB.out
            obtain ⟨b, off, hA, hbl, hce⟩ := (HI2.out.at_ h45).2.2.1 (by rintro rfl; simp at hjL)
            have hB2 := HI2.out.1
            have hB3 := HI2.out.2.1
            unfold maxLen at hB3
            rw [hLs] at hB2
            subst hA
            obtain ⟨y0, y1, y2, y3⟩ := hce j hjL
            have hmy : L2[j].may = true := by
              rw [Itm.may_abs]
              exact HG2.out _ (by rw [← HL2.out]; exact List.mem_map_of_mem (List.getElem_mem hjL))
            generalize L2[j] = Y at *
            have HC := keepd (fun w => check_any Y.k Y.a Y.b Y.A Y.l.length Y.c true hmy w)
            clear hce hmy hjL hLs h45
            go_wp2_with fail
            with_reducible refine (HC.out _).mono ?_
            rintro e w6 ⟨rfl, hb6⟩
            have HB6 := keepd (bCall JB.out hb6)
            clear hb6 y0 y1 y2 y3
            go_wp2
            go_roundw
            case rel => exact ⟨j + 1, by omega, by go_num, HB6⟩
            case measure => simp [intOf]; omega
          · obtain rfl : s = j := by omega
            have q5 := HQ5.out.call JB.out HQ5.out.lt
            obtain ⟨⟨x0, x1, x2, x3⟩, _⟩ := q5.facts4
            have q1 := (J1.out.call HB4.out J1.out.lt).call HB5.out (Nat.lt_of_lt_of_le J1.out.lt HB4.out.size)
            have q1' := q1.call JB.out q1.lt
            obtain ⟨⟨y0, y1, y2, y3⟩, f0, f1, f2, f3⟩ := q1'.facts4
            have hne : w.heap.size ≠ w4.heap.size := by have := J1.out.lt; have := HB4.out.size; omega
            have z1 := q1'.lt
            have z2 := q5.lt
            have hB5 := bCall HB4.out (bCall HB5.out JB.out)
            have HBw := keepd (bCall J5.out hB5)
            have HQ1 := keepd q1'
            have HRx := keepd (HR2.out.at_ (bCall HB5.out JB.out))
            clear q5 q1 q1' hB5
            go_wp2
            go_roundw
            case rel =>
              refine ⟨k + 1, k2, a2, b2, l2, n2, A2, c2, by omega, by go_num, ?_, HN2, HG1, ?_, ?_⟩
              · exact (((HQ1.out.set 0 (.int .i64 k2)).set 1 (.int .i64 a2)).set 2 (.int .i64 b2)).set 3 (.slice A2 n2 c2)
              · have : Rd (set4 wr w.heap.size (.int .i64 k2) (.int .i64 a2) (.int .i64 b2) (.slice A2 n2 c2)) (set4 wr w.heap.size (.int .i64 k2) (.int .i64 a2) (.int .i64 b2) (.slice A2 n2 c2)).heap.size A2 l2 c2 :=
                  HRx.out.of_blockN (by rw [set4_size]; exact Nat.le_refl _) fun hl ad had => set4_heap _ _ _ _ _ _ (HRx.out.not_rd hl HQ1.out ad had)
                exact this
              · exact set4_below HBw.out (Nat.le_refl _)
            case measure => simp [intOf]; omega
      · have hltb : decide ((k : Int) < 1 + z % 6) = false := by simpa using hlt
        go_wp2_with (go_at_call 13; with_reducible refine (HAw.out _).mono ?_; rintro e w4 ⟨rfl, hb4⟩)
        go_ret
        exact ⟨rfl, bCall J5.out hb4⟩

end Go.Proofs.Ytmgkfibkeonpmaa
