/-
  The contract of Plain. No conditions beyond those each theorem states.
-/
import Derived.Test.YtecihodifgjkoaaDoorNP
import Derived.Test.YtecihodifgjkoaaDoorW1
namespace Go.Proofs.YtecihodifgjkoaaDoor
open Go.RowKit
set_option maxRecDepth 100000

attribute [local go_sem ↓] ex_ld25 ex_st25 ex_al25 ex_bu25 ex_ix25 ex_eq25 ex_ne25 ex_eq23 ex_ne23 ex_ld25o ex_st65 ex_al65 ex_bu65 ex_bu65s
attribute [local go_sem] ptrB_at okPtr_at aggC_at agg62 agg69 isC_at isT_at eqV_t eqV_c isRow_new isRow_new65 World.setRow_alloc_new ptr4_at okPtr4_at cutT_at isI_at isS_at bW_at bWs_at

theorem plain_or (X : Tb) (u : UInt8) : plainB X u = decide (meanF X (u.toNat : Int) = 0 ∨ meanF X (u.toNat : Int) = 17 ∨ meanF X (u.toNat : Int) = 18) := by
  unfold plainB
  generalize meanF X (u.toNat : Int) = m
  by_cases h0 : m = 0
  · subst h0; rfl
  by_cases h1 : m = 17
  · subst h1; rfl
  by_cases h2 : m = 18
  · subst h2; rfl
  simp [h0, h1, h2]
set_option maxHeartbeats 2000000 in
theorem plain_any (X : Tb) (u : UInt8) (r : Bool) (hr : plainB X u = r) (w : World) : Calls Tryd.prog 10 #[tv X, .int .u8 (u.toNat : Int)] w fun e w' => e = .returned (.bool r) ∧ Below w.heap.size w w' := by
  obtain ⟨m, hm⟩ : ∃ m, meanF X (u.toNat : Int) = m := ⟨_, rfl⟩
  rw [plain_or, hm] at hr
  have HQ := keepd hr
  have CM := keepd fun W : World => meaning_any X (u.toNat : Int) m hm W
  clear hr hm
  go_enter Tryd.func10, Tryd.ntmps10
  go_upto_region 1 with fail
  generalize hV : w.alloc (.cells (cs X).toArray 25) = V
  obtain ⟨HT, HB⟩ := tab_new _ _ _ hV
  obtain ⟨q0, q1⟩ := TB.facts HT.out
  clear hV
  go_wp2_with fail
  with_reducible refine (CM.out _).mono ?_
  rintro e w2 ⟨rfl, hb2⟩
  have HB2 := keepd (bCall HB.out hb2)
  clear hb2 CM q0 q1
  have hq := HQ.out
  by_cases h0 : m = 0
  · subst h0
    obtain rfl : true = r := by rw [← hq]; rfl
    have z0 : ((0 : Nat) : Int) = 0 := rfl
    rw [z0]
    go_wp2_with fail
    go_ret
    exact ⟨rfl, HB2.out⟩
  by_cases h1 : m = 17
  · subst h1
    obtain rfl : true = r := by rw [← hq]; rfl
    have z0 : ((17 : Nat) : Int) = 17 := rfl
    rw [z0]
    go_wp2_with fail
    go_ret
    exact ⟨rfl, HB2.out⟩
  by_cases h2 : m = 18
  · subst h2
    obtain rfl : true = r := by rw [← hq]; rfl
    have z0 : ((18 : Nat) : Int) = 18 := rfl
    rw [z0]
    go_wp2_with fail
    go_ret
    exact ⟨rfl, HB2.out⟩
  obtain rfl : false = r := by rw [← hq]; simp [h0, h1, h2]
  have z0 : ((m : Int) == 0) = false := by simp; omega
  have z1 : ((m : Int) == 17) = false := by simp; omega
  have z2 : ((m : Int) == 18) = false := by simp; omega
  have y0 : ¬ (m : Int) = 0 := by omega
  have y1 : ¬ (m : Int) = 17 := by omega
  have y2 : ¬ (m : Int) = 18 := by omega
  clear h0 h1 h2 hq
  go_wp2_with fail
  go_ret
  exact ⟨rfl, HB2.out⟩

end Go.Proofs.YtecihodifgjkoaaDoor
