/-
  The contracts of the document's own Has and Keys. No conditions beyond those each theorem states.
-/
import Derived.Test.YtopomoghkedbkaaT5
namespace Go.Proofs.Ytopomoghkedbkaa
open Go.RowKit
set_option maxRecDepth 100000

attribute [local go_sem ↓] ex_ld23 ex_st23 ex_al23 ex_bu23 ex_eq23 ex_ne23 ex_ld45 ex_st45 ex_al45 ex_bu45
attribute [local go_sem] ptrB_at okPtr_at aggC_at agg32 agg256 isM_at eqV_m isRow_new isRow_newr World.setRow_alloc_new

theorem tb_div (x : UInt8) (k : Nat) : tb x k = (x.toNat / 2 ^ (7 - k) % 2 == 1) := by
  unfold tb
  rw [Nat.testBit_eq_decide_div_mod_eq, Bool.eq_iff_iff]
  simp

set_option maxHeartbeats 1000000 in
theorem refHas_any (X : Mk) (n : Nat) (hn : n < 256) (r : Bool) (hr : has X n = r) (w : World) : Calls Try.prog 15 #[mv X, .int .u8 (n : Int)] w fun e w' => e = .returned (.bool r) ∧ Below w.heap.size w w' := by
  obtain ⟨d, hd⟩ : ∃ d, n / 8 = d := ⟨_, rfl⟩
  have hd2 : d < 32 := by omega
  obtain ⟨v, hv⟩ : ∃ v, 7 - n % 8 = v := ⟨_, rfl⟩
  obtain ⟨x, hx⟩ : ∃ x, (X.at d).toNat = x := ⟨_, rfl⟩
  have HR : Hid (r = (x / 2 ^ v % 2 == 1)) := by
    show _ = _
    rw [← hr, ← hx, ← hv, ← hd]
    exact tb_div _ _
  have e1 : (n : Int) / 8 = (d : Int) := by omega
  have e2 : Int.tdiv (n : Int) 8 = (d : Int) := by
    rw [Int.tdiv_eq_ediv_of_nonneg (by omega)]
    exact e1
  have e3 : 7 - (n : Int) % 8 = (v : Int) := by omega
  have e4 : 7 - Int.tmod (n : Int) 8 = (v : Int) := by
    rw [Int.tmod_eq_emod_of_nonneg (by omega)]
    exact e3
  clear hr hv hd
  go_enter Try.func15, Try.ntmps15
  go_upto_region 1 with fail
  generalize hW : w.alloc (.cells (ms X).toArray 23) = W
  obtain ⟨h1, h2, h3⟩ := one_new _ _ _ _ hW
  clear hW h3
  have hc := MB.at h1 hd2
  rw [hx] at hc
  have i0 : (0 : Int) ≤ (n : Int) := by omega
  have i1 : (0 : Int) ≤ (d : Int) := by omega
  have i2 : (d : Int) < 32 := by omega
  have HB := keepd h2
  have hxl : x < 256 := by
    rw [← hx]
    exact UInt8.toNat_lt _
  have hwx : wrap64 (x : Int) = (x : Int) := by unfold wrap64; omega
  clear h1 h2 hx
  go_wp2_with fail
  go_loopw [5, 6] (fun vn vi wr => ∃ (j m : Nat), j ≤ v ∧ vi = .int .i64 j ∧ vn = .int .i64 m ∧ Hid (m = x / 2 ^ j) ∧ Hid (wr = W)) (fun _ vi _ => v - (intOf vi).toNat)
  case atStart => exact ⟨0, x, by omega, rfl, rfl, (show x = x / 2 ^ 0 by simp), rfl⟩
  case round =>
    obtain ⟨j, m, hj, rfl, rfl, HM, HW⟩ := hrel
    have hml : m ≤ 255 := by
      rw [HM.out]
      exact Nat.le_trans (Nat.div_le_self _ _) (by omega)
    by_cases hlt : j < v
    · have HN : Hid (m / 2 = x / 2 ^ (j + 1)) := by
        show _ = _
        rw [HM.out, Nat.div_div_eq_div_mul, Nat.pow_succ]
      have g1 : decide ((j : Int) < (v : Int)) = true := decide_eq_true (by omega)
      have i3 : (0 : Int) ≤ (m : Int) := by omega
      clear HM
      go_wp2_with fail
      go_roundw
      case rel => exact ⟨j + 1, m / 2, by omega, by go_num, int_eq (by omega), HN, HW⟩
      case measure => simp [intOf]; omega
    · obtain rfl : j = v := by omega
      have g1 : decide ((j : Int) < (j : Int)) = false := decide_eq_false (by omega)
      have hm := HM.out
      have hr := HR.out
      rw [← hm] at hr
      have hr2 : ((m : Int) % 2 == 1) = r := by
        rw [hr, Bool.eq_iff_iff]
        simp
        omega
      have i3 : (0 : Int) ≤ (m : Int) := by omega
      obtain rfl := HW.out
      clear hm hr HR HM HW
      go_wp2_with fail
      go_returns
      exact ⟨by rw [← hr2]; rfl, HB.out⟩

end Go.Proofs.Ytopomoghkedbkaa
