/-
  The contract of the document's own Meaning. No conditions beyond those each theorem states.
-/
import Derived.Test.YtmjhagmniipcaaaDoorR1
namespace Go.Proofs.YtmjhagmniipcaaaDoor
open Go.RowKit
set_option maxRecDepth 100000

attribute [local go_sem ↓] ex_ld25 ex_st25 ex_al25 ex_bu25 ex_ix25 ex_eq25 ex_ne25 ex_eq23 ex_ne23
attribute [local go_sem] ptrB_at okPtr_at aggC_at agg62 isC_at isT_at eqV_t eqV_c isRow_new World.setRow_alloc_new

theorem first_lt (X : Tb) (q : Int) : firstF X q ≤ 30 := by
  unfold firstF
  cases hf : (List.range 31).find? (has X q) with
  | none => simp
  | some m =>
    have := List.mem_range.1 (List.mem_of_find?_eq_some hf)
    simp only [Option.getD_some]
    omega
/-- Does a function below g have the key? -/
def lowB (X : Tb) (q : Int) : Nat → Bool
  | 0 => false
  | g + 1 => lowB X q g || has X q g
theorem lowB_no {X : Tb} {q : Int} : ∀ {k : Nat}, lowB X q k = false → ∀ i, i < k → has X q i = false
  | 0, _, i, hi => by omega
  | k + 1, h, i, hi => by
    simp only [lowB, Bool.or_eq_false_iff] at h
    by_cases e : i = k
    · subst e; exact h.2
    · exact lowB_no h.1 i (by omega)
theorem lowB_yes {X : Tb} {q : Int} : ∀ {k : Nat}, lowB X q k = true → ∃ i, i < k ∧ has X q i = true
  | 0, h => by cases h
  | k + 1, h => by
    simp only [lowB, Bool.or_eq_true] at h
    rcases h with h | h
    · obtain ⟨i, hi, hh⟩ := lowB_yes h
      exact ⟨i, by omega, hh⟩
    · exact ⟨k, by omega, h⟩
theorem first_is {X : Tb} {q : Int} {k : Nat} (hk : k < 31) (h : has X q k = true) (hl : lowB X q k = false) : firstF X q = k := first_some hk h (lowB_no hl)
theorem first_not {X : Tb} {q : Int} {k : Nat} (h1 : 1 ≤ k) (hk : k < 31) (h : (has X q k && !lowB X q k) = false) (hle : firstF X q ≤ k) : firstF X q ≤ k - 1 := by
  by_cases e : firstF X q = k
  · exfalso
    have h2 : has X q k = true ∧ ∀ i, i < k → has X q i = false := by
      by_cases e13 : q = 13
      · subst e13
        unfold firstF at e
        cases hf : (List.range 31).find? (has X 13) with
        | none => rw [hf] at e; simp at e; omega
        | some m =>
          rw [hf] at e
          simp only [Option.getD_some] at e
          subst e
          refine ⟨List.find?_some hf, fun i hi => ?_⟩
          rw [List.find?_eq_some_iff_append] at hf
          obtain ⟨_, la, lb, hab, hn⟩ := hf
          have hlen : la.length = m := by
            have h5 : (List.range 31)[la.length]? = some m := by rw [hab]; simp
            obtain ⟨h6, h7⟩ := List.getElem?_eq_some_iff.1 h5
            simpa using h7
          have hi2 : la[i]? = some i := by
            have := congrArg (·[i]?) hab
            rw [List.getElem?_append_left (by omega), List.getElem?_range (by omega)] at this
            exact this.symm
          simpa using hn i (List.mem_of_getElem? hi2)
      · have hm : meanF X q = k := by unfold meanF; rw [if_neg e13]; exact e
        rcases mean_cases X q with ⟨h3, _⟩ | ⟨_, h3, _⟩ | ⟨_, _, _, h3, h4⟩
        · exact absurd h3 e13
        · omega
        · rw [hm] at h3 h4
          exact ⟨h3, h4⟩
    rw [h2.1, Bool.true_and] at h
    have h3 : lowB X q k = true := by simpa using h
    obtain ⟨i, hi, hh⟩ := lowB_yes h3
    rw [h2.2 i hi] at hh
    cases hh
  · omega

set_option maxHeartbeats 4000000 in
theorem refMeaning_any (X : Tb) (q : Int) (m : Nat) (hm : meanF X q = m) (w : World) : Calls Tryd.prog 14 #[tv X, .int .u8 q] w fun e w' => e = .returned (.int .i64 (m : Int)) ∧ Below w.heap.size w w' := by
  have HM := keepd hm
  clear hm
  go_enter Tryd.func14, Tryd.ntmps14
  go_upto_region 1 with fail
  generalize hW : w.alloc (.cells (cs X).toArray 25) = W
  obtain ⟨h1, h2, h3⟩ := one_new _ _ _ _ hW
  clear hW
  have HT := keepd h1
  have HB := keepd h2
  clear h1 h2 h3
  by_cases h13 : q = 13
  · subst h13
    have hm : m = 31 := HM.out.symm.trans (by simp [meanF])
    subst hm
    go_wp2
    go_returns
    exact ⟨rfl, HB.out⟩
  have g13 : (q == 13) = false := by simpa using h13
  have HF : Hid (firstF X q = m) := by
    have := HM.out
    unfold meanF at this
    rw [if_neg h13] at this
    exact this
  have HF0 := keepd (first_lt X q)
  clear HM h13
  go_wp2_with fail
  go_loopw [5] (fun vi wr => ∃ k : Nat, k < 31 ∧ vi = .int .i64 k ∧ Hid (firstF X q ≤ k) ∧ Hid (TB wr w.heap.size X) ∧ Hid (Below w.heap.size w wr)) (fun vi _ => (intOf vi).toNat)
  case atStart => exact ⟨30, by omega, rfl, HF0, HT, HB⟩
  case round =>
    clear HT HB HF0 g13
    obtain ⟨k, hk, rfl, HI, HT, HB⟩ := hrel
    by_cases k0 : 1 ≤ k
    · go_wp2_with fail
      go_loopw [6, 7] (fun vl vg wi => ∃ (b : Bool) (g : Nat), 1 ≤ g ∧ g ≤ k ∧ vl = .bool b ∧ vg = .int .i64 g ∧ Hid (lowB X q g = b) ∧ Hid (TB wi w.heap.size X) ∧ Hid (Below w.heap.size w wi)) (fun _ vg _ => k - (intOf vg).toNat)
      case atStart => exact ⟨false, 1, by omega, by omega, rfl, rfl, rfl, HT, HB⟩
      case round =>
        clear HT HB
        obtain ⟨b, g, hg1, hgk, rfl, rfl, HLo, HTi, HBi⟩ := hrel
        by_cases hlt : g < k
        · obtain ⟨c0, c1⟩ := TB.at HTi.out g (by omega)
          have i0 : (0 : Int) ≤ (g : Int) := by omega
          have i1 : (g : Int) < 31 := by omega
          have hlo : lowB X q (g + 1) = (lowB X q g || has X q g) := rfl
          have hh := has_bool X q g
          have g1 : ((g : Int) == 0) = false := by simp; omega
          rw [HLo.out, hh, g1] at hlo
          clear g1 hh HLo
          generalize X g = c at *
          cases b
          · cases s2 : (c.lv == 0)
            · have n2 : (c.lv != 0) = true := by rw [bne, s2]; rfl
              have p2 : ¬ c.lv = 0 := by simpa using s2
              cases s3 : (c.v == q)
              · have HS : Hid (lowB X q (g + 1) = false) := by show _ = _; rw [hlo, s2, s3]; rfl
                clear hlo
                go_wp2_with fail
                go_roundw
                case rel => exact ⟨false, g + 1, by omega, by omega, rfl, by go_num, HS, HTi, HBi⟩
                case measure => simp [intOf]; omega
              · have HS : Hid (lowB X q (g + 1) = true) := by show _ = _; rw [hlo, s2, s3]; rfl
                clear hlo
                go_wp2_with fail
                go_roundw
                case rel => exact ⟨true, g + 1, by omega, by omega, rfl, by go_num, HS, HTi, HBi⟩
                case measure => simp [intOf]; omega
            · have n2 : (c.lv != 0) = false := by rw [bne, s2]; rfl
              have HS : Hid (lowB X q (g + 1) = false) := by show _ = _; rw [hlo, s2]; rfl
              clear hlo
              go_wp2_with fail
              go_roundw
              case rel => exact ⟨false, g + 1, by omega, by omega, rfl, by go_num, HS, HTi, HBi⟩
              case measure => simp [intOf]; omega
          · have HS : Hid (lowB X q (g + 1) = true) := by show _ = _; rw [hlo]; rfl
            clear hlo
            go_wp2_with fail
            go_roundw
            case rel => exact ⟨true, g + 1, by omega, by omega, rfl, by go_num, HS, HTi, HBi⟩
            case measure => simp [intOf]; omega
        · obtain rfl : g = k := by omega
          obtain ⟨c0, c1⟩ := TB.at HTi.out g hk
          have i0 : (0 : Int) ≤ (g : Int) := by omega
          have i1 : (g : Int) < 31 := by omega
          have hh := has_bool X q g
          have g1 : ((g : Int) == 0) = false := by simp; omega
          rw [g1] at hh
          have HN : Hid ((has X q g && !b) = false → Hid (firstF X q ≤ g - 1)) := fun e => first_not hg1 hk (by rw [HLo.out]; exact e) HI.out
          have HY : Hid ((has X q g && !b) = true → g = m) := fun e => by
            rw [Bool.and_eq_true] at e
            exact (first_is hk e.1 (by rw [HLo.out]; simpa using e.2)).symm.trans HF.out
          generalize has X q g = hb at *
          generalize X g = c at *
          clear g1 HLo HI
          cases s2 : (c.lv == 0)
          · have n2 : (c.lv != 0) = true := by rw [bne, s2]; rfl
            have p2 : ¬ c.lv = 0 := by simpa using s2
            cases s3 : (c.v == q)
            · have H2 := keepd (HN.out (by rw [hh, s2, s3]; rfl))
              clear hh
              go_wp2_with fail
              go_roundw
              case rel => exact ⟨g - 1, by omega, int_eq (by omega), H2.out, HTi, HBi⟩
              case measure => simp [intOf]; omega
            · cases b
              · have hm := HY.out (by rw [hh, s2, s3]; rfl)
                subst hm
                clear hh
                go_wp2
                go_returns
                exact ⟨rfl, HBi.out⟩
              · have H2 := keepd (HN.out (by rw [Bool.not_true, Bool.and_false]))
                clear hh
                go_wp2_with fail
                go_roundw
                case rel => exact ⟨g - 1, by omega, int_eq (by omega), H2.out, HTi, HBi⟩
                case measure => simp [intOf]; omega
          · have n2 : (c.lv != 0) = false := by rw [bne, s2]; rfl
            have H2 := keepd (HN.out (by rw [hh, s2]; rfl))
            clear hh
            go_wp2_with fail
            go_roundw
            case rel => exact ⟨g - 1, by omega, int_eq (by omega), H2.out, HTi, HBi⟩
            case measure => simp [intOf]; omega
    · obtain rfl : k = 0 := by omega
      have hm : m = 0 := by
        have h1 := HI.out
        have h2 := HF.out
        omega
      subst hm
      go_wp2
      go_returns
      exact ⟨rfl, HB.out⟩

end Go.Proofs.YtmjhagmniipcaaaDoor
