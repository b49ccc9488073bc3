/-
  The law TableFirst. No conditions beyond those each theorem states.
-/
import Derived.Test.YtmjhagmniipcaaaDoorL1
namespace Go.Proofs.YtmjhagmniipcaaaDoor
open Go.RowKit
set_option maxRecDepth 100000

attribute [local go_sem ↓] ex_ld25 ex_st25 ex_al25 ex_bu25 ex_ix25 ex_eq25 ex_ne25 ex_eq23 ex_ne23
attribute [local go_sem] ptrB_at okPtr_at aggC_at agg62 isC_at isT_at eqV_t eqV_c isRow_new World.setRow_alloc_new

/-- The lowest function above k that has the key, or 0. -/
def LowI (X : Tb) (q : Int) (k l : Nat) : Prop := (l = 0 ∧ ∀ j, k < j → j < 31 → has X q j = false) ∨ (k < l ∧ l < 31 ∧ has X q l = true ∧ ∀ j, k < j → j < l → has X q j = false)
theorem low_yes {X : Tb} {q : Int} {k : Nat} (hk : k < 31) (k0 : 1 ≤ k) (hh : has X q k = true) : LowI X q (k - 1) k :=
  .inr ⟨by omega, hk, hh, fun j h1 h2 => by omega⟩
theorem low_no {X : Tb} {q : Int} {k l : Nat} (h : LowI X q k l) (k0 : 1 ≤ k) (hh : has X q k = false) : LowI X q (k - 1) l := by
  rcases h with ⟨h1, h2⟩ | ⟨h1, h2, h3, h4⟩
  · refine .inl ⟨h1, fun j hj hj2 => ?_⟩
    by_cases e : j = k
    · subst e; exact hh
    · exact h2 j (by omega) hj2
  · refine .inr ⟨by omega, h2, h3, fun j hj hj2 => ?_⟩
    by_cases e : j = k
    · subst e; exact hh
    · exact h4 j (by omega) hj2
theorem has_zero (X : Tb) (q : Int) : has X q 0 = false := rfl
theorem low_end {X : Tb} {q : Int} {l : Nat} (h : LowI X q 0 l) : firstF X q = l := by
  rcases h with ⟨rfl, h2⟩ | ⟨h1, h2, h3, h4⟩
  · refine first_none fun i hi => ?_
    rcases Nat.eq_zero_or_pos i with e | e
    · subst e; rfl
    · exact h2 i e hi
  · refine first_some h2 h3 fun i hi => ?_
    rcases Nat.eq_zero_or_pos i with e | e
    · subst e; rfl
    · exact h4 i e hi
theorem key_out {X : Tb} {f : Int} (h : f < 1 ∨ 31 < f) : keyF X f = (0, false) := by
  unfold keyF
  rw [if_neg (by omega), if_neg (by omega)]
theorem key_none {X : Tb} {z : Nat} (hz : z < 31) (h : (X z).lv = 0) : keyF X (z : Int) = (0, false) := by
  unfold keyF
  rw [if_neg (by omega), Int.toNat_natCast, if_neg]
  rintro ⟨h1, _, h3⟩
  rcases mean_ways h3 with ⟨e, _⟩ | ⟨e, _⟩ | ⟨_, _, _, e, _⟩
  · omega
  · omega
  · exact e h

set_option maxHeartbeats 4000000 in
theorem first_law (X : Tb) (q f : Int) (w : World) (hL : Laid w) : Calls Tryd.prog 6 #[tv X, .int .u8 q, .int .i64 f] w fun e w' => e = .returned (.bool true) ∧ Below w.heap.size w w' := by
  obtain ⟨m, hm⟩ : ∃ m, meanF X q = m := ⟨_, rfl⟩
  have MA := keepd (meaning_any X q m hm)
  have HM := keepd hm
  have HA := keepd (fun w h => awake_any w h)
  have HL := keepd hL
  clear hm hL
  go_enter Tryd.func6, Tryd.ntmps6
  go_upto_region 1 with fail
  generalize hW : w.alloc (.cells (cs X).toArray 25) = W
  obtain ⟨h1, h2, h3⟩ := one_new _ _ _ _ hW
  clear hW
  have HT := keepd h1
  have HB := keepd h2
  obtain ⟨r1, k1⟩ := TB.facts h1
  clear h1 h2 h3
  go_wp2_with fail
  with_reducible refine (MA.out _).mono ?_
  rintro e w5 ⟨rfl, hb5⟩
  have HT5 := keepd (SR.call HT.out hb5 (SR.lt HT.out))
  have HB5 := keepd (bCall HB.out hb5)
  clear hb5 HT HB MA r1 k1
  go_wp2_with fail
  go_loopw [8, 9] (fun vl vi wr => ∃ k l : Nat, k < 31 ∧ vl = .int .i64 l ∧ vi = .int .i64 k ∧ Hid (LowI X q k l) ∧ Hid (TB wr w.heap.size X) ∧ Hid (Below w.heap.size w wr)) (fun _ vi _ => (intOf vi).toNat)
  case atStart => exact ⟨30, 0, by omega, rfl, rfl, .inl ⟨rfl, fun j h1 h2 => by omega⟩, HT5, HB5⟩
  case round =>
    obtain ⟨k, l, hk, rfl, rfl, HI, HT, HB⟩ := hrel
    by_cases k0 : 1 ≤ k
    · obtain ⟨c0, c1⟩ := TB.at HT.out k hk
      have HY := keepd (fun e => low_yes (X := X) (q := q) hk k0 e)
      have HN := keepd (fun e => low_no HI.out k0 e)
      have hh := has_bool X q k
      have g1 : ((k : Int) == 0) = false := by simp; omega
      rw [g1] at hh
      have i0 : (0 : Int) ≤ (k : Int) := by omega
      have i1 : (k : Int) < 31 := by omega
      generalize has X q k = b at *
      clear g1
      cases g2 : ((X k).lv == 0)
      · have p2 : ¬ (X k).lv = 0 := by simpa using g2
        have n2 : ((X k).lv != 0) = true := by rw [bne, g2]; rfl
        cases g3 : ((X k).v == q)
        · have p3 : ¬ (X k).v = q := by simpa using g3
          have HH : b = false := by rw [hh, g2, g3]; rfl
          clear hh
          have H2 := keepd (HN.out HH)
          go_wp2
          go_roundw
          case rel => exact ⟨k - 1, l, by omega, rfl, int_eq (by omega), H2, HT, HB⟩
          case measure => simp [intOf]; omega
        · have p3 : (X k).v = q := by simpa using g3
          have HH : b = true := by rw [hh, g2, g3]; rfl
          clear hh
          have H2 := keepd (HY.out HH)
          go_wp2
          go_roundw
          case rel => exact ⟨k - 1, k, by omega, rfl, int_eq (by omega), H2, HT, HB⟩
          case measure => simp [intOf]; omega
      · have p2 : (X k).lv = 0 := by simpa using g2
        have HH : b = false := by rw [hh, g2]; rfl
        clear hh
        have H2 := keepd (HN.out HH)
        go_wp2
        go_roundw
        case rel => exact ⟨k - 1, l, by omega, rfl, int_eq (by omega), H2, HT, HB⟩
        case measure => simp [intOf]; omega
    · obtain rfl : k = 0 := by omega
      have hl := low_end HI.out
      obtain ⟨r1, k1⟩ := TB.facts HT.out
      clear HI HT5 HB5
      by_cases h13 : q = 13
      · subst h13
        clear hl HM
        by_cases fa : f < 1
        · have ga : decide (f < 1) = true := decide_eq_true fa
          have HK := keepd (key_any X f 0 false (key_out (by omega)))
          go_wp2_with fail
          with_reducible refine (HK.out _).mono ?_
          rintro e w7 ⟨rfl, hb7⟩
          have HB7 := keepd (bCall HB.out hb7)
          have H7 := keepd (SR.call HT.out hb7 (SR.lt HT.out))
          clear hb7 r1 k1 HK HB HT
          go_wp2_with fail
          with_reducible refine (HA.out _ (HL.out.below HB7.out)).mono ?_
          rintro e w9 ⟨rfl, hb9⟩
          have HB9 := keepd (bCall HB7.out hb9)
          clear hb9
          go_wp2
          go_returns
          exact ⟨rfl, HB9.out⟩
        have ga : decide (f < 1) = false := decide_eq_false fa
        by_cases fb : 31 < f
        · have gb : decide (31 < f) = true := decide_eq_true fb
          have gb2 : decide (f > 31) = true := decide_eq_true fb
          have HK := keepd (key_any X f 0 false (key_out (by omega)))
          go_wp2_with fail
          with_reducible refine (HK.out _).mono ?_
          rintro e w7 ⟨rfl, hb7⟩
          have HB7 := keepd (bCall HB.out hb7)
          have H7 := keepd (SR.call HT.out hb7 (SR.lt HT.out))
          clear hb7 r1 k1 HK HB HT
          go_wp2_with fail
          with_reducible refine (HA.out _ (HL.out.below HB7.out)).mono ?_
          rintro e w9 ⟨rfl, hb9⟩
          have HB9 := keepd (bCall HB7.out hb9)
          clear hb9
          go_wp2
          go_returns
          exact ⟨rfl, HB9.out⟩
        have gb : decide (31 < f) = false := decide_eq_false fb
        have gb2 : decide (f > 31) = false := decide_eq_false fb
        by_cases fc : f = 31
        · subst fc
          have HK := keepd (key_any X 31 13 true rfl)
          go_wp2_with fail
          with_reducible refine (HK.out _).mono ?_
          rintro e w7 ⟨rfl, hb7⟩
          have HB7 := keepd (bCall HB.out hb7)
          have H7 := keepd (SR.call HT.out hb7 (SR.lt HT.out))
          clear hb7 r1 k1 HK HB HT
          go_wp2_with fail
          with_reducible refine (HA.out _ (HL.out.below HB7.out)).mono ?_
          rintro e w9 ⟨rfl, hb9⟩
          have HB9 := keepd (bCall HB7.out hb9)
          clear hb9
          go_wp2
          go_returns
          exact ⟨rfl, HB9.out⟩
        obtain ⟨z, rfl⟩ : ∃ z : Nat, f = z := ⟨f.toNat, by omega⟩
        have hz : z < 31 := by omega
        have gc : decide ((z : Int) < 31) = true := decide_eq_true (by omega)
        by_cases fd : (X z).lv = 0
        · have HK := keepd (key_any X z 0 false (key_none hz fd))
          go_wp2_with fail
          with_reducible refine (HK.out _).mono ?_
          rintro e w7 ⟨rfl, hb7⟩
          have HB7 := keepd (bCall HB.out hb7)
          have H7 := keepd (SR.call HT.out hb7 (SR.lt HT.out))
          clear hb7 r1 k1 HK HB HT
          obtain ⟨c0, c1⟩ := TB.at H7.out z hz
          rw [fd] at c0
          go_wp2_with fail
          with_reducible refine (HA.out _ (HL.out.below HB7.out)).mono ?_
          rintro e w9 ⟨rfl, hb9⟩
          have HB9 := keepd (bCall HB7.out hb9)
          clear hb9
          go_wp2
          go_returns
          exact ⟨rfl, HB9.out⟩
        obtain ⟨kk, bb, hkb⟩ : ∃ kk bb, keyF X (z : Int) = (kk, bb) := ⟨_, _, rfl⟩
        have HK := keepd (key_any X z kk bb hkb)
        have gd : ((X z).lv == 0) = false := by simpa using fd
        clear hkb
        go_wp2_with fail
        with_reducible refine (HK.out _).mono ?_
        rintro e w7 ⟨rfl, hb7⟩
        have HB7 := keepd (bCall HB.out hb7)
        have H7 := keepd (SR.call HT.out hb7 (SR.lt HT.out))
        clear hb7 r1 k1 HK HB HT
        obtain ⟨c0, c1⟩ := TB.at H7.out z hz
        go_wp2_with fail
        with_reducible refine (HA.out _ (HL.out.below HB7.out)).mono ?_
        rintro e w9 ⟨rfl, hb9⟩
        have HB9 := keepd (bCall HB7.out hb9)
        clear hb9
        go_wp2
        go_returns
        exact ⟨rfl, HB9.out⟩
      · have g13 : (q == 13) = false := by simpa using h13
        have hml : m = l := by
          rw [← HM.out, ← hl]
          unfold meanF
          rw [if_neg h13]
        subst hml
        have n13 : (q != 13) = true := by rw [bne, g13]; rfl
        clear hl HM
        by_cases fa : f < 1
        · have ga : decide (f < 1) = true := decide_eq_true fa
          have HK := keepd (key_any X f 0 false (key_out (by omega)))
          go_wp2_with fail
          with_reducible refine (HK.out _).mono ?_
          rintro e w7 ⟨rfl, hb7⟩
          have HB7 := keepd (bCall HB.out hb7)
          have H7 := keepd (SR.call HT.out hb7 (SR.lt HT.out))
          clear hb7 r1 k1 HK HB HT
          go_wp2_with fail
          with_reducible refine (HA.out _ (HL.out.below HB7.out)).mono ?_
          rintro e w9 ⟨rfl, hb9⟩
          have HB9 := keepd (bCall HB7.out hb9)
          clear hb9
          go_wp2
          go_returns
          exact ⟨rfl, HB9.out⟩
        have ga : decide (f < 1) = false := decide_eq_false fa
        by_cases fb : 31 < f
        · have gb : decide (31 < f) = true := decide_eq_true fb
          have gb2 : decide (f > 31) = true := decide_eq_true fb
          have HK := keepd (key_any X f 0 false (key_out (by omega)))
          go_wp2_with fail
          with_reducible refine (HK.out _).mono ?_
          rintro e w7 ⟨rfl, hb7⟩
          have HB7 := keepd (bCall HB.out hb7)
          have H7 := keepd (SR.call HT.out hb7 (SR.lt HT.out))
          clear hb7 r1 k1 HK HB HT
          go_wp2_with fail
          with_reducible refine (HA.out _ (HL.out.below HB7.out)).mono ?_
          rintro e w9 ⟨rfl, hb9⟩
          have HB9 := keepd (bCall HB7.out hb9)
          clear hb9
          go_wp2
          go_returns
          exact ⟨rfl, HB9.out⟩
        have gb : decide (31 < f) = false := decide_eq_false fb
        have gb2 : decide (f > 31) = false := decide_eq_false fb
        by_cases fc : f = 31
        · subst fc
          have HK := keepd (key_any X 31 13 true rfl)
          go_wp2_with fail
          with_reducible refine (HK.out _).mono ?_
          rintro e w7 ⟨rfl, hb7⟩
          have HB7 := keepd (bCall HB.out hb7)
          have H7 := keepd (SR.call HT.out hb7 (SR.lt HT.out))
          clear hb7 r1 k1 HK HB HT
          go_wp2_with fail
          with_reducible refine (HA.out _ (HL.out.below HB7.out)).mono ?_
          rintro e w9 ⟨rfl, hb9⟩
          have HB9 := keepd (bCall HB7.out hb9)
          clear hb9
          go_wp2
          go_returns
          exact ⟨rfl, HB9.out⟩
        obtain ⟨z, rfl⟩ : ∃ z : Nat, f = z := ⟨f.toNat, by omega⟩
        have hz : z < 31 := by omega
        have gc : decide ((z : Int) < 31) = true := decide_eq_true (by omega)
        by_cases fd : (X z).lv = 0
        · have HK := keepd (key_any X z 0 false (key_none hz fd))
          go_wp2_with fail
          with_reducible refine (HK.out _).mono ?_
          rintro e w7 ⟨rfl, hb7⟩
          have HB7 := keepd (bCall HB.out hb7)
          have H7 := keepd (SR.call HT.out hb7 (SR.lt HT.out))
          clear hb7 r1 k1 HK HB HT
          obtain ⟨c0, c1⟩ := TB.at H7.out z hz
          rw [fd] at c0
          go_wp2_with fail
          with_reducible refine (HA.out _ (HL.out.below HB7.out)).mono ?_
          rintro e w9 ⟨rfl, hb9⟩
          have HB9 := keepd (bCall HB7.out hb9)
          clear hb9
          go_wp2
          go_returns
          exact ⟨rfl, HB9.out⟩
        obtain ⟨kk, bb, hkb⟩ : ∃ kk bb, keyF X (z : Int) = (kk, bb) := ⟨_, _, rfl⟩
        have HK := keepd (key_any X z kk bb hkb)
        have gd : ((X z).lv == 0) = false := by simpa using fd
        clear hkb
        go_wp2_with fail
        with_reducible refine (HK.out _).mono ?_
        rintro e w7 ⟨rfl, hb7⟩
        have HB7 := keepd (bCall HB.out hb7)
        have H7 := keepd (SR.call HT.out hb7 (SR.lt HT.out))
        clear hb7 r1 k1 HK HB HT
        obtain ⟨c0, c1⟩ := TB.at H7.out z hz
        go_wp2_with fail
        with_reducible refine (HA.out _ (HL.out.below HB7.out)).mono ?_
        rintro e w9 ⟨rfl, hb9⟩
        have HB9 := keepd (bCall HB7.out hb9)
        clear hb9
        go_wp2
        go_returns
        exact ⟨rfl, HB9.out⟩
end Go.Proofs.YtmjhagmniipcaaaDoor
