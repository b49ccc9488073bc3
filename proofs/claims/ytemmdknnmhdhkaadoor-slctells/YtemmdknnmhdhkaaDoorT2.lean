/-
  The contracts of the document's own Command and Signal, of second and triple. No conditions beyond those each theorem states.
-/
import Derived.Test.YtemmdknnmhdhkaaDoorT1
namespace Go.Proofs.YtemmdknnmhdhkaaDoor
open Go.RowKit
set_option maxRecDepth 100000

set_option maxHeartbeats 2000000 in
theorem rcmd_any (f : Int) (w : World) : Calls Tryd.prog 15 #[.int .i64 f] w fun e w' => e = .returned (.int .i64 (cmdF f)) ∧ Below w.heap.size w w' := by
  have B0 : ∀ o, Below w.heap.size w (w.alloc o) := fun o => bAlloc (Below.refl _ _) o
  rcases nine_ways f with rfl | rfl | rfl | rfl | rfl | rfl | rfl | rfl | rfl | ⟨h, h0⟩ | ⟨h, h0⟩
  case inr.inr.inr.inr.inr.inr.inr.inr.inr.inl =>
    rw [h0]
    have g1 : decide (f < 1) = true := decide_eq_true h
    go_enter Tryd.func15, Tryd.ntmps15
    go_wp2
    go_returns
    exact ⟨rfl, B0 _⟩
  case inr.inr.inr.inr.inr.inr.inr.inr.inr.inr =>
    rw [h0]
    have g1 : decide (f < 1) = false := decide_eq_false (by omega)
    have g2 : decide (9 < f) = true := decide_eq_true h
    go_enter Tryd.func15, Tryd.ntmps15
    go_wp2
    go_returns
    exact ⟨rfl, B0 _⟩
  all_goals
    go_enter Tryd.func15, Tryd.ntmps15
    go_wp2
    go_returns
    exact ⟨rfl, B0 _⟩

theorem sig_of_cmd (k : Nat) (c : Int) (h : 1 ≤ k ∧ k ≤ 9) (hc : cmdF k = c) : sigF c = k := by
  subst hc
  have : k = 1 ∨ k = 2 ∨ k = 3 ∨ k = 4 ∨ k = 5 ∨ k = 6 ∨ k = 7 ∨ k = 8 ∨ k = 9 := by omega
  rcases this with rfl | rfl | rfl | rfl | rfl | rfl | rfl | rfl | rfl <;> rfl

theorem sig_none (c : Int) (h : ∀ j : Nat, 1 ≤ j → j < 10 → cmdF j ≠ c) : sigF c = 0 := by
  rcases ten_ways c with rfl | rfl | rfl | rfl | rfl | rfl | rfl | rfl | rfl | ⟨_, _, _, _, _, _, _, _, _, h0⟩
  · exact absurd rfl (h 1 (by decide) (by decide))
  · exact absurd rfl (h 2 (by decide) (by decide))
  · exact absurd rfl (h 3 (by decide) (by decide))
  · exact absurd rfl (h 4 (by decide) (by decide))
  · exact absurd rfl (h 5 (by decide) (by decide))
  · exact absurd rfl (h 6 (by decide) (by decide))
  · exact absurd rfl (h 7 (by decide) (by decide))
  · exact absurd rfl (h 8 (by decide) (by decide))
  · exact absurd rfl (h 9 (by decide) (by decide))
  · exact h0

set_option maxHeartbeats 4000000 in
theorem second_any (x : Tr) (h : 0 ≤ x.lv ∧ x.lv ≤ 3) (w : World) : Calls Tryd.prog 24 #[x.val] w fun e w' => e = .returned (.int .u8 (x.sec.toNat : Int)) ∧ Below w.heap.size w w' := by
  have B0 : ∀ o, Below w.heap.size w (w.alloc o) := fun o => bAlloc (Below.refl _ _) o
  obtain ⟨f, lv, a, i, o, v⟩ := x
  have h4 : lv = 0 ∨ lv = 1 ∨ lv = 2 ∨ lv = 3 := by simp only [] at h; omega
  unfold Tr.val
  simp only []
  clear h
  rcases h4 with rfl | rfl | rfl | rfl <;> cases a <;> cases i <;> cases o
  all_goals
    go_enter Tryd.func24, Tryd.ntmps24
    go_wp2
    go_ret
    exact ⟨rfl, B0 _⟩

theorem bits_all : ∀ c : Fin 256, bits .and .u8 (c.val : Int) 3 = ((c.val % 4 : Nat) : Int) ∧ (bits .and .u8 (c.val : Int) 128 != 0) = decide (128 ≤ c.val) ∧ (bits .and .u8 (c.val : Int) 64 != 0) = decide (c.val / 64 % 2 = 1) ∧
    (bits .and .u8 (c.val : Int) 32 != 0) = decide (c.val / 32 % 2 = 1) ∧ (bits .andNot .u8 (c.val : Int) 227 != 0) = decide (c.val / 4 % 8 ≠ 0) ∧ (bits .and .u8 (c.val : Int) 28 == 0) = decide (c.val / 4 % 8 = 0) := by decide +kernel

theorem bits_of (c : UInt8) : bits .and .u8 (c.toNat : Int) 3 = (c.toNat : Int) % 4 ∧ (bits .and .u8 (c.toNat : Int) 128 != 0) = decide (128 ≤ c.toNat) ∧ (bits .and .u8 (c.toNat : Int) 64 != 0) = decide (c.toNat / 64 % 2 = 1) ∧
    (bits .and .u8 (c.toNat : Int) 32 != 0) = decide (c.toNat / 32 % 2 = 1) ∧ (bits .andNot .u8 (c.toNat : Int) 227 != 0) = !isS c ∧ (bits .and .u8 (c.toNat : Int) 28 == 0) = isS c := by
  obtain ⟨h1, h2, h3, h4, h5, h6⟩ := bits_all ⟨c.toNat, c.toNat_lt⟩
  simp only [] at h1 h2 h3 h4 h5 h6
  refine ⟨by rw [h1]; omega, h2, h3, h4, ?_, ?_⟩
  · rw [h5]; unfold isS; rw [Bool.eq_iff_iff]; simp
  · rw [h6]; unfold isS; rw [Bool.eq_iff_iff]; simp

theorem wrap64_u8 (f : UInt8) : wrap64 (f.toNat : Int) = (f.toNat : Int) := by
  have := f.toNat_lt
  unfold wrap64
  omega
theorem wrap64_m4 (f : UInt8) : wrap64 ((f.toNat : Int) % 4) = (f.toNat : Int) % 4 := by
  have := f.toNat_lt
  unfold wrap64
  omega

theorem triple_any (f c v : UInt8) (w : World) : Calls Tryd.prog 25 #[.int .u8 (f.toNat : Int), .int .u8 (c.toNat : Int), .int .u8 (v.toNat : Int)] w fun e w' => e = .returned (tri f c v).val ∧ Below w.heap.size w w' := by
  have B0 : ∀ o, Below w.heap.size w (w.alloc o) := fun o => bAlloc (Below.refl _ _) o
  obtain ⟨h1, h2, h3, h4, _, _⟩ := bits_of c
  go_enter Tryd.func25, Tryd.ntmps25
  go_wp2
  simp only [wrap64_u8]
  go_returns
  exact ⟨rfl, B0 _⟩

theorem rsig_any (c : Int) (w : World) : Calls Tryd.prog 16 #[.int .i64 c] w fun e w' => e = .returned (.int .i64 (sigF c)) ∧ Below w.heap.size w w' := by
  have C := keepd rcmd_any
  go_enter Tryd.func16, Tryd.ntmps16
  go_wp2_with fail
  go_loopw [3] (fun vi wr => ∃ k : Nat, 1 ≤ k ∧ k ≤ 10 ∧ vi = .int .i64 k ∧ Hid (∀ j : Nat, 1 ≤ j → j < k → cmdF j ≠ c) ∧ Hid (Below w.heap.size w wr)) (fun vi _ => 10 - (intOf vi).toNat)
  case atStart => exact ⟨1, by omega, by omega, rfl, fun j h1 h2 => by omega, Below.refl _ _⟩
  case round =>
    obtain ⟨k, hk1, hk2, rfl, HN, HB⟩ := hrel
    by_cases hlt : k ≤ 9
    · by_cases he : cmdF k = c
      · have HS := keepd (sig_of_cmd k c ⟨hk1, hlt⟩ he)
        have hq : (cmdF k == c) = true := by simpa using he
        clear he
        go_wp2_with fail
        with_reducible refine (C.out _ _).mono ?_
        rintro e w1 ⟨rfl, hb⟩
        have HB2 := keepd (bCall HB.out hb)
        clear hb
        go_wp2
        go_returns
        exact ⟨by rw [HS.out]; rfl, HB2.out⟩
      · have hq : (cmdF k == c) = false := by simpa using he
        have HN2 : Hid (∀ j : Nat, 1 ≤ j → j < k + 1 → cmdF j ≠ c) := by
          intro j h1 h2
          rcases Nat.lt_or_ge j k with h | h
          · exact HN.out j h1 h
          · have : j = k := by omega
            subst this
            exact he
        clear he
        go_wp2_with fail
        with_reducible refine (C.out _ _).mono ?_
        rintro e w1 ⟨rfl, hb⟩
        have HB2 := keepd (bCall HB.out hb)
        clear hb
        go_wp2
        go_roundw
        case rel => exact ⟨k + 1, by omega, by omega, by go_num, HN2, HB2⟩
        case measure => simp [intOf]; omega
    · obtain rfl : k = 10 := by omega
      have HS := keepd (sig_none c HN.out)
      go_wp2
      go_returns
      exact ⟨by rw [HS.out]; rfl, HB.out⟩

end Go.Proofs.YtemmdknnmhdhkaaDoor
