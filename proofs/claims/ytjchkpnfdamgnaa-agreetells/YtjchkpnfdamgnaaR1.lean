/-
  The contracts of the document's own May of tables and of prefs. No conditions beyond those each theorem states.
-/
import Derived.Test.YtjchkpnfdamgnaaT8
namespace Go.Proofs.Ytjchkpnfdamgnaa
open Go.RowKit
set_option maxRecDepth 100000

attribute [local go_sem ↓] ex_ld31 ex_st31 ex_al31 ex_bu31 ex_ix31 ex_eq31 ex_ne31 ex_eq29 ex_ne29 ex_ld25 ex_st25 ex_al25 ex_bu25 ex_ix25 ex_ld27 ex_st27 ex_eq27 ex_ne27
attribute [local go_sem] ptrB_at okPtr_at aggC_at agg62 isC_at isT_at eqV_t eqV_c isRow_new isRow_newp World.setRow_alloc_new agg6 isRow_new6 isV_at eqV_v

/-- May a cell be there, as the document says it? -/
def mayR (i : Nat) (c : Cl) : Bool := !(decide (c.lv < 0) || (decide (2 < c.lv) || ((c.lv == 0 && !(c.v == 0)) || (((i : Int) == 0) && !(c.lv == 0)))))
theorem mayR_c {c : Cl} {i : Nat} (h : i ≠ 0) : mayR i c = mayC c := by
  obtain ⟨a, b⟩ := c
  rw [Bool.eq_iff_iff]
  simp [mayR, mayC]
  omega
theorem mayR_zero {c : Cl} : mayR 0 c = decide (c = ⟨0, 0⟩) := by
  obtain ⟨a, b⟩ := c
  rw [Bool.eq_iff_iff]
  simp [mayR]
  omega
theorem mayR_all (X : Tb) : mayT X = true ↔ ∀ i, i < 31 → mayR i (X i) = true := by
  rw [mayT_iff]
  constructor
  · rintro ⟨h0, h⟩ i hi
    rcases Nat.eq_zero_or_pos i with e | e
    · subst e; rw [mayR_zero]; exact decide_eq_true h0
    · rw [mayR_c (by omega)]; exact h i hi
  · intro h
    have h0 := h 0 (by omega)
    rw [mayR_zero, decide_eq_true_eq] at h0
    refine ⟨h0, fun i hi => ?_⟩
    rcases Nat.eq_zero_or_pos i with e | e
    · subst e; rw [h0]; rfl
    · rw [← mayR_c (i := i) (by omega)]; exact h i hi
theorem mayR_no {X : Tb} {k : Nat} (hk : k < 31) (h : mayR k (X k) = false) : mayT X = false := by
  cases hm : mayT X
  · rfl
  · rw [(mayR_all X).1 hm k hk] at h
    cases h

set_option maxHeartbeats 2000000 in
theorem refMayT_any (X : Tb) (m : Bool) (hm : mayT X = m) (w : World) : Calls Try.prog 19 #[tv X] w fun e w' => e = .returned (.bool m) ∧ Below w.heap.size w w' := by
  have HM := keepd hm
  clear hm
  go_enter Try.func19, Try.ntmps19
  go_upto_region 1 with fail
  generalize hW : w.alloc (.cells (cs X).toArray 31) = W
  obtain ⟨h1, h2, h3⟩ := one_new _ _ _ _ hW
  clear hW
  have HT := keepd h1
  have HB := keepd h2
  clear h1 h2 h3
  go_wp2_with fail
  go_loopw [3] (fun vi wr => ∃ k : Nat, k ≤ 31 ∧ vi = .int .i64 k ∧ Hid (∀ i, i < k → mayR i (X i) = true) ∧ Hid (TB wr w.heap.size X) ∧ Hid (Below w.heap.size w wr)) (fun vi _ => 31 - (intOf vi).toNat)
  case atStart => exact ⟨0, by omega, rfl, fun i hi => by omega, HT, HB⟩
  case round =>
    clear HT HB
    obtain ⟨k, hk, rfl, HI, HT, HB⟩ := hrel
    by_cases hlt : k < 31
    · obtain ⟨c0, c1⟩ := TB.at HT.out k hlt
      have i0 : (0 : Int) ≤ (k : Int) := by omega
      have i1 : (k : Int) < 31 := by omega
      have hh : mayR k (X k) = !(decide ((X k).lv < 0) || (decide (2 < (X k).lv) || (((X k).lv == 0 && !((X k).v == 0)) || (((k : Int) == 0) && !((X k).lv == 0))))) := rfl
      have HX : Hid (mayR k (X k) = true → Hid (∀ i, i < k + 1 → mayR i (X i) = true)) := fun e i hi => by
        by_cases hik : i = k
        · subst hik; exact e
        · exact HI.out i (by omega)
      have HY : Hid (mayR k (X k) = false → m = false) := fun e => HM.out.symm.trans (mayR_no hlt e)
      generalize mayR k (X k) = v at *
      generalize X k = c at *
      clear HM HI
      cases s1 : decide (c.lv < 0)
      · have p1 : ¬ c.lv < 0 := of_decide_eq_false s1
        cases s2 : decide (2 < c.lv)
        · have p2 : ¬ 2 < c.lv := of_decide_eq_false s2
          have t2 : decide (c.lv > 2) = false := s2
          cases s3 : (c.lv == 0)
          · have n3 : (c.lv != 0) = true := by rw [bne, s3]; rfl
            have p3 : ¬ c.lv = 0 := by simpa using s3
            cases s5 : ((k : Int) == 0)
            · have p5 : ¬ k = 0 := by intro e; subst e; simp at s5
              have HV : v = true := by rw [hh]; simp [s1, s2, s3, s5]
              clear hh
              go_wp2_with fail
              go_roundw
              case rel => exact ⟨k + 1, by omega, by go_num, HX.out HV, SR.alloc HT.out _, bAlloc HB.out _⟩
              case measure => simp [intOf]; omega
            · have HV : v = false := by rw [hh]; simp [s1, s2, s3, s5]
              have hm := HY.out HV
              subst hm
              clear hh
              go_wp2_with fail
              go_returns
              exact ⟨rfl, bAlloc HB.out _⟩
          · have n3 : (c.lv != 0) = false := by rw [bne, s3]; rfl
            cases s4 : (c.v == 0)
            · have n4 : (c.v != 0) = true := by rw [bne, s4]; rfl
              have p4 : ¬ c.v = 0 := by simpa using s4
              have HV : v = false := by rw [hh]; simp [s1, s2, s3, s4]
              have hm := HY.out HV
              subst hm
              clear hh
              go_wp2_with fail
              go_returns
              exact ⟨rfl, bAlloc HB.out _⟩
            · have n4 : (c.v != 0) = false := by rw [bne, s4]; rfl
              cases s5 : ((k : Int) == 0)
              · have HV : v = true := by rw [hh]; simp [s1, s2, s3, s4, s5]
                clear hh
                go_wp2_with fail
                go_roundw
                case rel => exact ⟨k + 1, by omega, by go_num, HX.out HV, SR.alloc HT.out _, bAlloc HB.out _⟩
                case measure => simp [intOf]; omega
              · have HV : v = true := by rw [hh]; simp [s1, s2, s3, s4, s5]
                clear hh
                go_wp2_with fail
                go_roundw
                case rel => exact ⟨k + 1, by omega, by go_num, HX.out HV, SR.alloc HT.out _, bAlloc HB.out _⟩
                case measure => simp [intOf]; omega
        · have p2 : 2 < c.lv := of_decide_eq_true s2
          have t2 : decide (c.lv > 2) = true := s2
          have HV : v = false := by rw [hh]; simp [s1, s2]
          have hm := HY.out HV
          subst hm
          clear hh
          go_wp2_with fail
          go_returns
          exact ⟨rfl, bAlloc HB.out _⟩
      · have p1 : c.lv < 0 := of_decide_eq_true s1
        have HV : v = false := by rw [hh]; simp [s1]
        have hm := HY.out HV
        subst hm
        clear hh
        go_wp2_with fail
        go_returns
        exact ⟨rfl, bAlloc HB.out _⟩
    · obtain rfl : k = 31 := by omega
      have hm : m = true := HM.out.symm.trans ((mayR_all X).2 HI.out)
      subst hm
      go_wp2
      go_returns
      exact ⟨rfl, HB.out⟩

set_option maxHeartbeats 2000000 in
theorem refMayP_any (X : Tb) (m : Bool) (hm : mayT X = m) (w : World) : Calls Try.prog 14 #[tv X] w fun e w' => e = .returned (.bool m) ∧ Below w.heap.size w w' := by
  have HM := keepd hm
  clear hm
  go_enter Try.func14, Try.ntmps14
  go_upto_region 1 with fail
  generalize hW : w.alloc (.cells (cs X).toArray 25) = W
  obtain ⟨h1, h2, h3⟩ := one_new _ _ _ _ hW
  clear hW
  have HT := keepd h1
  have HB := keepd h2
  clear h1 h2 h3
  go_wp2_with fail
  go_loopw [3] (fun vi wr => ∃ k : Nat, k ≤ 31 ∧ vi = .int .i64 k ∧ Hid (∀ i, i < k → mayR i (X i) = true) ∧ Hid (PB wr w.heap.size X) ∧ Hid (Below w.heap.size w wr)) (fun vi _ => 31 - (intOf vi).toNat)
  case atStart => exact ⟨0, by omega, rfl, fun i hi => by omega, HT, HB⟩
  case round =>
    clear HT HB
    obtain ⟨k, hk, rfl, HI, HT, HB⟩ := hrel
    by_cases hlt : k < 31
    · obtain ⟨c0, c1⟩ := PB.at HT.out k hlt
      have i0 : (0 : Int) ≤ (k : Int) := by omega
      have i1 : (k : Int) < 31 := by omega
      have hh : mayR k (X k) = !(decide ((X k).lv < 0) || (decide (2 < (X k).lv) || (((X k).lv == 0 && !((X k).v == 0)) || (((k : Int) == 0) && !((X k).lv == 0))))) := rfl
      have HX : Hid (mayR k (X k) = true → Hid (∀ i, i < k + 1 → mayR i (X i) = true)) := fun e i hi => by
        by_cases hik : i = k
        · subst hik; exact e
        · exact HI.out i (by omega)
      have HY : Hid (mayR k (X k) = false → m = false) := fun e => HM.out.symm.trans (mayR_no hlt e)
      generalize mayR k (X k) = v at *
      generalize X k = c at *
      clear HM HI
      cases s1 : decide (c.lv < 0)
      · have p1 : ¬ c.lv < 0 := of_decide_eq_false s1
        cases s2 : decide (2 < c.lv)
        · have p2 : ¬ 2 < c.lv := of_decide_eq_false s2
          have t2 : decide (c.lv > 2) = false := s2
          cases s3 : (c.lv == 0)
          · have n3 : (c.lv != 0) = true := by rw [bne, s3]; rfl
            have p3 : ¬ c.lv = 0 := by simpa using s3
            cases s5 : ((k : Int) == 0)
            · have p5 : ¬ k = 0 := by intro e; subst e; simp at s5
              have HV : v = true := by rw [hh]; simp [s1, s2, s3, s5]
              clear hh
              go_wp2_with fail
              go_roundw
              case rel => exact ⟨k + 1, by omega, by go_num, HX.out HV, HT, HB⟩
              case measure => simp [intOf]; omega
            · have HV : v = false := by rw [hh]; simp [s1, s2, s3, s5]
              have hm := HY.out HV
              subst hm
              clear hh
              go_wp2_with fail
              go_returns
              exact ⟨rfl, HB.out⟩
          · have n3 : (c.lv != 0) = false := by rw [bne, s3]; rfl
            cases s4 : (c.v == 0)
            · have n4 : (c.v != 0) = true := by rw [bne, s4]; rfl
              have p4 : ¬ c.v = 0 := by simpa using s4
              have HV : v = false := by rw [hh]; simp [s1, s2, s3, s4]
              have hm := HY.out HV
              subst hm
              clear hh
              go_wp2_with fail
              go_returns
              exact ⟨rfl, HB.out⟩
            · have n4 : (c.v != 0) = false := by rw [bne, s4]; rfl
              cases s5 : ((k : Int) == 0)
              · have HV : v = true := by rw [hh]; simp [s1, s2, s3, s4, s5]
                clear hh
                go_wp2_with fail
                go_roundw
                case rel => exact ⟨k + 1, by omega, by go_num, HX.out HV, HT, HB⟩
                case measure => simp [intOf]; omega
              · have HV : v = true := by rw [hh]; simp [s1, s2, s3, s4, s5]
                clear hh
                go_wp2_with fail
                go_roundw
                case rel => exact ⟨k + 1, by omega, by go_num, HX.out HV, HT, HB⟩
                case measure => simp [intOf]; omega
        · have p2 : 2 < c.lv := of_decide_eq_true s2
          have t2 : decide (c.lv > 2) = true := s2
          have HV : v = false := by rw [hh]; simp [s1, s2]
          have hm := HY.out HV
          subst hm
          clear hh
          go_wp2_with fail
          go_returns
          exact ⟨rfl, HB.out⟩
      · have p1 : c.lv < 0 := of_decide_eq_true s1
        have HV : v = false := by rw [hh]; simp [s1]
        have hm := HY.out HV
        subst hm
        clear hh
        go_wp2_with fail
        go_returns
        exact ⟨rfl, HB.out⟩
    · obtain rfl : k = 31 := by omega
      have hm : m = true := HM.out.symm.trans ((mayR_all X).2 HI.out)
      subst hm
      go_wp2
      go_returns
      exact ⟨rfl, HB.out⟩


end Go.Proofs.Ytjchkpnfdamgnaa
