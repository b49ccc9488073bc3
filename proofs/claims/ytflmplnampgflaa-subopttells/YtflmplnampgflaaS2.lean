/-
  The contracts of the document's own Command and Signal, of second and triple. No conditions beyond those each theorem states.
-/
import Derived.Test.YtflmplnampgflaaS1
namespace Go.Proofs.Ytflmplnampgflaa
open Go.RowKit
set_option maxHeartbeats 4000000 in
theorem second_any (x : Tr) (h : 0 ≤ x.lv ∧ x.lv ≤ 3) (w : World) : Calls Try.prog 35 #[x.val] w fun e w' => e = .returned (.int .u8 (x.sec.toNat : Int)) ∧ Below w.heap.size w w' := by
  have B0 : ∀ o, Below w.heap.size w (w.alloc o) := fun o => bAlloc (Below.refl _ _) o
  obtain ⟨f, lv, a, i, o, v⟩ := x
  have h4 : lv = 0 ∨ lv = 1 ∨ lv = 2 ∨ lv = 3 := by simp only [] at h; omega
  unfold Tr.val
  simp only []
  clear h
  rcases h4 with rfl | rfl | rfl | rfl <;> cases a <;> cases i <;> cases o
  all_goals
    go_enter Try.func35, Try.ntmps35
    go_wp2
    go_ret
    exact ⟨rfl, B0 _⟩

theorem bits_all : ∀ c : Fin 256, bits .and .u8 (c.val : Int) 3 = ((c.val % 4 : Nat) : Int) ∧ (bits .and .u8 (c.val : Int) 128 != 0) = decide (128 ≤ c.val) ∧ (bits .and .u8 (c.val : Int) 64 != 0) = decide (c.val / 64 % 2 = 1) ∧
    (bits .and .u8 (c.val : Int) 32 != 0) = decide (c.val / 32 % 2 = 1) ∧ (bits .andNot .u8 (c.val : Int) 227 != 0) = decide (c.val / 4 % 8 ≠ 0) ∧ (bits .and .u8 (c.val : Int) 28 == 0) = decide (c.val / 4 % 8 = 0) := by decide +kernel

theorem bits_of (c : UInt8) : bits .and .u8 (c.toNat : Int) 3 = (c.toNat : Int) % 4 ∧ (bits .and .u8 (c.toNat : Int) 128 != 0) = decide (128 ≤ c.toNat) ∧ (bits .and .u8 (c.toNat : Int) 64 != 0) = decide (c.toNat / 64 % 2 = 1) ∧
    (bits .and .u8 (c.toNat : Int) 32 != 0) = decide (c.toNat / 32 % 2 = 1) ∧ (bits .andNot .u8 (c.toNat : Int) 227 != 0) = !isS c ∧ (bits .and .u8 (c.toNat : Int) 28 == 0) = isS c := by
  obtain ⟨h1, h2, h3, h4, h5, h6⟩ := bits_all ⟨c.toNat, c.toNat_lt⟩
  simp only [] at h1 h2 h3 h4 h5 h6
  refine ⟨by rw [h1]; omega, h2, h3, h4, ?_, ?_⟩
  · rw [h5]; unfold isS; rw [Bool.eq_iff_iff]; simp
  · rw [h6]; unfold isS; rw [Bool.eq_iff_iff]; simp

theorem wrap64_u8 (f : UInt8) : wrap64 (f.toNat : Int) = (f.toNat : Int) := by
  have := f.toNat_lt
  unfold wrap64
  omega
theorem wrap64_m4 (f : UInt8) : wrap64 ((f.toNat : Int) % 4) = (f.toNat : Int) % 4 := by
  have := f.toNat_lt
  unfold wrap64
  omega

theorem triple_any (f c v : UInt8) (w : World) : Calls Try.prog 48 #[.int .u8 (f.toNat : Int), .int .u8 (c.toNat : Int), .int .u8 (v.toNat : Int)] w fun e w' => e = .returned (tri f c v).val ∧ Below w.heap.size w w' := by
  have B0 : ∀ o, Below w.heap.size w (w.alloc o) := fun o => bAlloc (Below.refl _ _) o
  obtain ⟨h1, h2, h3, h4, _, _⟩ := bits_of c
  go_enter Try.func48, Try.ntmps48
  go_wp2
  simp only [wrap64_u8]
  go_returns
  exact ⟨rfl, B0 _⟩

end Go.Proofs.Ytflmplnampgflaa
