/-
  The contract of Meaning. No conditions beyond those each theorem states.
-/
import Derived.Test.YtmjhagmniipcaaaDoorT2
namespace Go.Proofs.YtmjhagmniipcaaaDoor
open Go.RowKit
set_option maxRecDepth 100000

attribute [local go_sem ↓] ex_ld25 ex_st25 ex_al25 ex_bu25 ex_ix25 ex_eq25 ex_ne25 ex_eq23 ex_ne23
attribute [local go_sem] ptrB_at okPtr_at aggC_at agg62 isC_at isT_at eqV_t eqV_c

theorem has_bool (X : Tb) (q : Int) (k : Nat) : has X q k = (!((k : Int) == 0) && (!((X k).lv == 0) && ((X k).v == q))) := by
  unfold has
  cases k <;> rfl

theorem meaning_any (X : Tb) (q : Int) (m : Nat) (hm : meanF X q = m) (w : World) : Calls Tryd.prog 13 #[tv X, .int .u8 q] w fun e w' => e = .returned (.int .i64 (m : Int)) ∧ Below w.heap.size w w' := by
  have HM := keepd hm
  clear hm
  go_enter Tryd.func13, Tryd.ntmps13
  go_upto_region 1 with fail
  generalize hW : w.alloc (.cells (cs X).toArray 25) = W
  obtain ⟨h1, h2, h3⟩ := one_new _ _ _ _ hW
  clear hW
  obtain ⟨r1, k1⟩ := TB.facts h1
  have HB := keepd h2
  clear h1 h2
  by_cases h13 : q = 13
  · subst h13
    have hm : m = 31 := HM.out.symm.trans (by simp [meanF])
    subst hm
    go_wp2
    go_returns
    exact ⟨rfl, HB.out⟩
  · have g13 : (q == 13) = false := by simpa using h13
    have HF : Hid (firstF X q = m) := by
      have := HM.out
      unfold meanF at this
      rw [if_neg h13] at this
      exact this
    clear HM h13
    go_wp2_with fail
    go_loopw [10] (fun vi wr => ∃ k : Nat, k ≤ 31 ∧ vi = .int .i64 k ∧ Hid (∀ i, i < k → has X q i = false) ∧ Hid (Below w.heap.size w wr)) (fun vi _ => 31 - (intOf vi).toNat)
    case atStart => exact ⟨0, by omega, rfl, fun i hi => by omega, HB⟩
    case round =>
      obtain ⟨k, hk, rfl, HT, HB⟩ := hrel
      clear r1 k1 h3 g13
      by_cases hlt : k < 31
      · obtain ⟨i1, i2⟩ := idx_facts X k hlt
        have hh := has_bool X q k
        have HX : Hid (has X q k = false → Hid (∀ i, i < k + 1 → has X q i = false)) := fun e i hi => by
          by_cases hik : i = k
          · subst hik; exact e
          · exact HT.out i (by omega)
        have HY : Hid (has X q k = true → k = m) := fun e => (first_some hlt e HT.out).symm.trans HF.out
        generalize has X q k = b at *
        generalize X k = c at *
        cases g1 : ((k : Int) == 0)
        · have p1 : ¬ k = 0 := by intro e; subst e; simp at g1
          have n1 : ((k : Int) != 0) = true := by rw [bne, g1]; rfl
          cases g2 : (c.lv == 0)
          · have p2 : ¬ c.lv = 0 := by simpa using g2
            have n2 : (c.lv != 0) = true := by rw [bne, g2]; rfl
            cases g3 : (c.v == q)
            · have p3 : ¬ c.v = q := by simpa using g3
              have HH : b = false := by rw [hh, g1, g2, g3]; rfl
              clear hh
              go_wp2_with fail
              have HB2 := keepd (fun o => bAlloc HB.out o)
              go_roundw
              case rel => exact ⟨k + 1, by omega, by go_num, HX.out HH, HB2.out _⟩
              case measure => simp [intOf]; omega
            · have p3 : c.v = q := by simpa using g3
              have HH : b = true := by rw [hh, g1, g2, g3]; rfl
              clear hh
              have hkm := HY.out HH
              subst hkm
              go_wp2_with fail
              have HB2 := keepd (fun o => bAlloc HB.out o)
              go_returns
              exact ⟨rfl, HB2.out _⟩
          · have p2 : c.lv = 0 := by simpa using g2
            have HH : b = false := by rw [hh, g1, g2]; rfl
            clear hh
            go_wp2_with fail
            have HB2 := keepd (fun o => bAlloc HB.out o)
            go_roundw
            case rel => exact ⟨k + 1, by omega, by go_num, HX.out HH, HB2.out _⟩
            case measure => simp [intOf]; omega
        · have p1 : (k : Int) = 0 := by simpa using g1
          rw [p1] at i1 i2
          have HH : b = false := by rw [hh, g1]; rfl
          obtain rfl : k = 0 := by omega
          clear hh
          go_wp2_with fail
          have HB2 := keepd (fun o => bAlloc HB.out o)
          go_roundw
          case rel => exact ⟨1, by omega, by go_num, HX.out HH, HB2.out _⟩
          case measure => simp [intOf]
      · obtain rfl : k = 31 := by omega
        have hm : m = 0 := HF.out.symm.trans (first_none HT.out)
        subst hm
        go_wp2
        go_returns
        exact ⟨rfl, HB.out⟩

end Go.Proofs.YtmjhagmniipcaaaDoor
