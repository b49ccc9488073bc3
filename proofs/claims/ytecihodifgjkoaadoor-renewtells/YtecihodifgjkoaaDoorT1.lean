/-
  Blanks, and which lines may be: the contracts of blank, Check and May. No conditions beyond those each theorem states.
-/
import Derived.Test.YtecihodifgjkoaaDoorP1
namespace Go.Proofs.YtecihodifgjkoaaDoor
open Go.RowKit
set_option maxRecDepth 100000

theorem isB_val (u : UInt8) : isB u = (((u.toNat : Int) == 32) || ((u.toNat : Int) == 9)) ∧ (isB u = true ∨ isB u = false) := by
  refine ⟨?_, by cases isB u <;> simp⟩
  have h : ∀ k : Fin 256, isB (UInt8.ofNat k.val) = (((k.val : Int) == 32) || ((k.val : Int) == 9)) := by decide +kernel
  have := h ⟨u.toNat, u.toNat_lt⟩
  simpa using this

theorem blank_any (u : UInt8) (w : World) : Calls Tryd.prog 82 #[.int .u8 (u.toNat : Int)] w fun e w' => e = .returned (.bool (isB u)) ∧ w' = w := by
  obtain ⟨h1, h2⟩ := isB_val u
  generalize (u.toNat : Int) = z at *
  cases q1 : (z == 32)
  · cases q2 : (z == 9)
    · go_enter Tryd.func82, Tryd.ntmps82
      go_wp2_with fail
      go_ret
      exact ⟨by rw [h1, q1, q2]; rfl, rfl⟩
    · go_enter Tryd.func82, Tryd.ntmps82
      go_wp2_with fail
      go_ret
      exact ⟨by rw [h1, q1, q2]; rfl, rfl⟩
  · go_enter Tryd.func82, Tryd.ntmps82
    go_wp2_with fail
    go_ret
    exact ⟨by rw [h1, q1]; rfl, rfl⟩

/-- May a line of n octets, at z, be? -/
def mayV (n : Nat) (z : Int) : Bool := decide (n ≤ 4096) && (decide (0 ≤ z) && decide (z ≤ (n : Int)))
def cerr (m : Bool) : Int := if m then 0 else 1
theorem mayV_n {n : Nat} {z : Int} (h : ¬ n ≤ 4096) : mayV n z = false := by simp [mayV, h]
theorem mayV_z {n : Nat} {z : Int} (h : ¬ 0 ≤ z) : mayV n z = false := by simp [mayV, h]
theorem mayV_k {n : Nat} {z : Int} (h : ¬ z ≤ (n : Int)) : mayV n z = false := by simp [mayV, h]
theorem mayV_t {n : Nat} {z : Int} (h1 : n ≤ 4096) (h2 : 0 ≤ z) (h3 : z ≤ (n : Int)) : mayV n z = true := by simp [mayV, h1, h2, h3]
theorem mayV_inv {n : Nat} {z : Int} (h : mayV n z = true) : n ≤ 4096 ∧ ∃ t : Nat, z = (t : Int) ∧ t ≤ n := by
  simp only [mayV, Bool.and_eq_true, decide_eq_true_eq] at h
  exact ⟨h.1, z.toNat, by omega, by omega⟩
theorem mayV_nat {n t : Nat} (h1 : n ≤ 4096) (h2 : t ≤ n) : mayV n (t : Int) = true := mayV_t h1 (by omega) (by omega)

theorem check_any (A : Option Addr) (n c : Nat) (z : Int) (m : Bool) (w : World) (hm : mayV n z = m) :
    Calls Tryd.prog 39 #[.agg #[.slice A n c, .int .i64 z]] w fun e w' => e = .returned (.int .i64 (cerr m)) ∧ Below w.heap.size w w' := by
  have HM := keepd hm
  have HB := keepd (bAlloc (Below.refl w.heap.size w) (.cells #[.slice A n c, .int .i64 z] 28))
  clear hm
  by_cases h1 : n ≤ 4096
  case neg =>
    have a0 : (n : Int) > 4096 := by omega
    have a1 : ¬ (n : Int) ≤ 4096 := by omega
    have a2 : 4096 < n := by omega
    go_enter Tryd.func39, Tryd.ntmps39
    go_wp2_with fail
    go_ret
    exact ⟨by rw [← HM.out, mayV_n (n := n) (z := z) (by omega)]; rfl, HB.out⟩
  have a0 : ¬ (n : Int) > 4096 := by omega
  have a1 : (n : Int) ≤ 4096 := by omega
  have a2 : ¬ 4096 < n := by omega
  by_cases h2 : 0 ≤ z
  case neg =>
    have b0 : z < 0 := by omega
    have b1 : ¬ z ≥ 0 := by omega
    go_enter Tryd.func39, Tryd.ntmps39
    go_wp2_with fail
    go_ret
    exact ⟨by rw [← HM.out, mayV_z (n := n) (z := z) (by omega)]; rfl, HB.out⟩
  have b0 : ¬ z < 0 := by omega
  have b1 : z ≥ 0 := by omega
  by_cases h3 : z ≤ (n : Int)
  case neg =>
    have c0 : z > (n : Int) := by omega
    have c1 : (n : Int) < z := by omega
    go_enter Tryd.func39, Tryd.ntmps39
    go_wp2_with fail
    go_ret
    exact ⟨by rw [← HM.out, mayV_k (n := n) (z := z) (by omega)]; rfl, HB.out⟩
  have c0 : ¬ z > (n : Int) := by omega
  have c1 : ¬ (n : Int) < z := by omega
  go_enter Tryd.func39, Tryd.ntmps39
  go_wp2_with fail
  go_ret
  exact ⟨by rw [← HM.out, mayV_t (n := n) (z := z) (by omega) (by omega) (by omega)]; rfl, HB.out⟩

theorem rmay_any (A : Option Addr) (n c : Nat) (z : Int) (m : Bool) (w : World) (hm : mayV n z = m) :
    Calls Tryd.prog 43 #[.agg #[.slice A n c, .int .i64 z]] w fun e w' => e = .returned (.bool m) ∧ Below w.heap.size w w' := by
  have HM := keepd hm
  have HB := keepd (bAlloc (Below.refl w.heap.size w) (.cells #[.slice A n c, .int .i64 z] 28))
  clear hm
  by_cases h1 : n ≤ 4096
  case neg =>
    have a0 : (n : Int) > 4096 := by omega
    have a1 : ¬ (n : Int) ≤ 4096 := by omega
    have a2 : 4096 < n := by omega
    go_enter Tryd.func43, Tryd.ntmps43
    go_wp2_with fail
    go_ret
    exact ⟨by rw [← HM.out, mayV_n (n := n) (z := z) (by omega)]; rfl, HB.out⟩
  have a0 : ¬ (n : Int) > 4096 := by omega
  have a1 : (n : Int) ≤ 4096 := by omega
  have a2 : ¬ 4096 < n := by omega
  by_cases h2 : 0 ≤ z
  case neg =>
    have b0 : z < 0 := by omega
    have b1 : ¬ z ≥ 0 := by omega
    go_enter Tryd.func43, Tryd.ntmps43
    go_wp2_with fail
    go_ret
    exact ⟨by rw [← HM.out, mayV_z (n := n) (z := z) (by omega)]; rfl, HB.out⟩
  have b0 : ¬ z < 0 := by omega
  have b1 : z ≥ 0 := by omega
  by_cases h3 : z ≤ (n : Int)
  case neg =>
    have c0 : z > (n : Int) := by omega
    have c1 : (n : Int) < z := by omega
    go_enter Tryd.func43, Tryd.ntmps43
    go_wp2_with fail
    go_ret
    exact ⟨by rw [← HM.out, mayV_k (n := n) (z := z) (by omega)]; rfl, HB.out⟩
  have c0 : ¬ z > (n : Int) := by omega
  have c1 : ¬ (n : Int) < z := by omega
  go_enter Tryd.func43, Tryd.ntmps43
  go_wp2_with fail
  go_ret
  exact ⟨by rw [← HM.out, mayV_t (n := n) (z := z) (by omega) (by omega) (by omega)]; rfl, HB.out⟩


theorem check_ok (A : Option Addr) (n c t : Nat) (w : World) (h1 : n ≤ 4096) (h2 : t ≤ n) :
    Calls Tryd.prog 39 #[.agg #[.slice A n c, .int .i64 (t : Int)]] w fun e w' => e = .returned (.int .i64 0) ∧ Below w.heap.size w w' := check_any A n c (t : Int) true w (mayV_nat h1 h2)
theorem check_bad (A : Option Addr) (n c : Nat) (z : Int) (w : World) (h : mayV n z = false) :
    Calls Tryd.prog 39 #[.agg #[.slice A n c, .int .i64 z]] w fun e w' => e = .returned (.int .i64 1) ∧ Below w.heap.size w w' := check_any A n c z false w h

end Go.Proofs.YtecihodifgjkoaaDoor
