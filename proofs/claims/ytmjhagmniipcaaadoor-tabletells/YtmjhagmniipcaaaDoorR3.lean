/-
  The contract of the document's own Key. No conditions beyond those each theorem states.
-/
import Derived.Test.YtmjhagmniipcaaaDoorR2
namespace Go.Proofs.YtmjhagmniipcaaaDoor
open Go.RowKit
set_option maxRecDepth 100000

attribute [local go_sem ↓] ex_ld25 ex_st25 ex_al25 ex_bu25 ex_ix25 ex_eq25 ex_ne25 ex_eq23 ex_ne23
attribute [local go_sem] ptrB_at okPtr_at aggC_at agg62 isC_at isT_at eqV_t eqV_c isRow_new World.setRow_alloc_new

theorem key_is {X : Tb} {f k : Int} (h : keyF X f = (k, true)) : 1 ≤ f ∧ (meanF X k : Int) = f ∧ (k = 13 ∨ ∃ i, k = (X i).v) := by
  unfold keyF at h
  by_cases e : f = 31
  · rw [if_pos e, Prod.mk.injEq] at h
    rw [← h.1, e]
    exact ⟨by omega, by simp [meanF], .inl rfl⟩
  · rw [if_neg e] at h
    by_cases g : 0 < f ∧ f < 31 ∧ meanF X (X f.toNat).v = f.toNat
    · rw [if_pos g, Prod.mk.injEq] at h
      rw [← h.1]
      exact ⟨by omega, by omega, .inr ⟨_, rfl⟩⟩
    · rw [if_neg g, Prod.mk.injEq] at h
      cases h.2

set_option maxHeartbeats 4000000 in
theorem refKey_any (X : Tb) (f k : Int) (b : Bool) (z : Int) (hk : keyF X f = (k, b)) (hz : (if b then k else 256) = z) (hx : ∀ i, 0 ≤ (X i).v ∧ (X i).v ≤ 255) (w : World) :
    Calls Tryd.prog 10 #[tv X, .int .i64 f] w fun e w' => e = .returned (.int .i64 z) ∧ Below w.heap.size w w' := by
  have HY : Hid (∀ j : Nat, 1 ≤ f → (meanF X (j : Int) : Int) = f → (j : Int) = z) := fun j h1 h2 => by
    have := key_mean (X := X) (a := (j : Int)) rfl (by omega)
    rw [h2, hk, Prod.mk.injEq] at this
    rw [← hz, this.2, this.1]
    rfl
  have HN : Hid ((∀ j : Nat, j < 256 → ¬ (1 ≤ f ∧ (meanF X (j : Int) : Int) = f)) → z = 256) := fun h => by
    cases b
    · exact hz.symm
    · exfalso
      obtain ⟨h1, h2, h3⟩ := key_is hk
      have hb : 0 ≤ k ∧ k ≤ 255 := by
        rcases h3 with e | ⟨i, e⟩
        · omega
        · rw [e]; exact hx i
      obtain ⟨j, rfl⟩ : ∃ j : Nat, k = j := ⟨k.toNat, by omega⟩
      exact h j (by omega) ⟨h1, h2⟩
  clear hk hz hx
  go_enter Tryd.func10, Tryd.ntmps10
  go_upto_region 1 with fail
  generalize hW : w.alloc (.cells (cs X).toArray 25) = W
  obtain ⟨h1, h2, h3⟩ := one_new _ _ _ _ hW
  clear hW
  have HT := keepd h1
  have HB := keepd h2
  clear h1 h2 h3
  go_wp2_with fail
  go_loopw [5] (fun vi wr => ∃ j : Nat, j ≤ 256 ∧ vi = .int .i64 j ∧ Hid (∀ i : Nat, i < j → ¬ (1 ≤ f ∧ (meanF X (i : Int) : Int) = f)) ∧ Hid (TB wr w.heap.size X) ∧ Hid (Below w.heap.size w wr)) (fun vi _ => 256 - (intOf vi).toNat)
  case atStart => exact ⟨0, by omega, rfl, fun i hi => by omega, HT, HB⟩
  case round =>
    clear HT HB
    obtain ⟨j, hj, rfl, HI, HT, HB⟩ := hrel
    by_cases hlt : j < 256
    · have wr1 : IntKind.u8.wrap (j : Int) = (j : Int) := by simp [IntKind.wrap, IntKind.bits, IntKind.signed]; omega
      have HX : Hid (¬ (1 ≤ f ∧ (meanF X (j : Int) : Int) = f) → Hid (∀ i : Nat, i < j + 1 → ¬ (1 ≤ f ∧ (meanF X (i : Int) : Int) = f))) := fun e i hi => by
        by_cases hij : i = j
        · subst hij; exact e
        · exact HI.out i (by omega)
      have HYj := keepd (HY.out j)
      obtain ⟨m, hm⟩ : ∃ m, meanF X (j : Int) = m := ⟨_, rfl⟩
      have HMe := keepd (meaning_any X (j : Int) m hm)
      have HMr := keepd (refMeaning_any X (j : Int) m hm)
      rw [hm] at HX HYj
      clear hm HMe
      by_cases hf : 1 ≤ f
      · have g1 : decide (f ≥ 1) = true := decide_eq_true hf
        have g2 : decide (1 ≤ f) = true := decide_eq_true hf
        obtain ⟨r1, k1⟩ := TB.facts HT.out
        cases s : ((m : Int) == f)
        · have p : ¬ (m : Int) = f := by simpa using s
          have H2 := keepd (HX.out (fun h => p h.2))
          clear HX HYj
          go_wp2_with fail
          with_reducible refine (HMr.out _).mono ?_
          rintro e v1 ⟨rfl, hb⟩
          have HT1 := keepd (SR.call HT.out hb (SR.lt HT.out))
          have HB1 := keepd (bCall HB.out hb)
          clear hb r1 k1 HT HB HMr
          go_wp2
          go_roundw
          case rel => exact ⟨j + 1, by omega, by go_num, H2.out, HT1, HB1⟩
          case measure => simp [intOf]; omega
        · have p : (m : Int) = f := by simpa using s
          have hz := HYj.out hf p
          subst hz
          subst p
          clear HX HYj HN HY HI
          go_wp2_with fail
          with_reducible refine (HMr.out _).mono ?_
          rintro e v1 ⟨rfl, hb⟩
          have HB1 := keepd (bCall HB.out hb)
          clear hb r1 k1 HT HB HMr
          go_wp2
          go_returns
          exact ⟨rfl, HB1.out⟩
      · have g1 : decide (f ≥ 1) = false := decide_eq_false hf
        have g2 : decide (1 ≤ f) = false := decide_eq_false hf
        have H2 := keepd (HX.out (fun h => hf h.1))
        clear HX HYj HMr
        go_wp2
        go_roundw
        case rel => exact ⟨j + 1, by omega, by go_num, H2.out, HT, HB⟩
        case measure => simp [intOf]; omega
    · obtain rfl : j = 256 := by omega
      have hz := HN.out HI.out
      subst hz
      go_wp2
      go_returns
      exact ⟨rfl, HB.out⟩

end Go.Proofs.YtmjhagmniipcaaaDoor
