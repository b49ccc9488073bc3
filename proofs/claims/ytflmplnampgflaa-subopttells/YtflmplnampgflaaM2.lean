/-
  The contracts of bit, Has and With. No conditions beyond those each theorem states.
-/
import Derived.Test.YtflmplnampgflaaM1
namespace Go.Proofs.Ytflmplnampgflaa
open Go.RowKit
set_option maxRecDepth 100000

attribute [local go_sem ↓] ex_ld23 ex_st23 ex_al23 ex_bu23 ex_eq23 ex_ne23
attribute [local go_sem] ptrB_at okPtr_at aggC_at agg32 isM_at eqV_m isRow_new World.setRow_alloc_new

theorem bit_any (n : Nat) (hn : n < 256) (w : World) : Calls Try.prog 41 #[.int .u8 (n : Int)] w fun e w' => e = .returned (.int .u8 (bitN (n % 8) : Int)) ∧ w' = w := by
  have i0 : (0 : Int) ≤ (n : Int) := by omega
  have i1 : (0 : Int) ≤ (n : Int) % 8 := by omega
  have i2 : (n : Int) % 8 ≤ 8 := by omega
  go_enter Try.func41, Try.ntmps41
  go_wp2
  go_ret
  simp [bitN]

theorem wrap_div8 (n : Nat) (hn : n < 256) : IntKind.u8.wrap ((n : Int) / 8) = ((n / 8 : Nat) : Int) := by
  have h : ∀ m : Fin 256, IntKind.u8.wrap ((m.1 : Int) / 8) = ((m.1 / 8 : Nat) : Int) := by decide +kernel
  exact h ⟨n, hn⟩

theorem and_all : ∀ (x : Fin 256) (k : Fin 8), (bits .and .u8 ((UInt8.ofNat x.1).toNat : Int) (bitN k.1 : Int) == 0) = !tb (UInt8.ofNat x.1) k.1 := by decide +kernel
theorem and_bit (x : UInt8) {k : Nat} (hk : k < 8) : (bits .and .u8 (x.toNat : Int) (bitN k : Int) == 0) = !tb x k :=
  allU (p := fun x => (bits .and .u8 (x.toNat : Int) (bitN k : Int) == 0) = !tb x k) (fun x => and_all x ⟨k, hk⟩) x
theorem or_all : ∀ (x : Fin 256) (k : Fin 8), bits .or .u8 ((UInt8.ofNat x.1).toNat : Int) (bitN k.1 : Int) = ((setB (UInt8.ofNat x.1) k.1 true).toNat : Int) ∧ bits .andNot .u8 ((UInt8.ofNat x.1).toNat : Int) (bitN k.1 : Int) = ((setB (UInt8.ofNat x.1) k.1 false).toNat : Int) := by decide +kernel
theorem or_bit (x : UInt8) {k : Nat} (hk : k < 8) : bits .or .u8 (x.toNat : Int) (bitN k : Int) = ((setB x k true).toNat : Int) ∧ bits .andNot .u8 (x.toNat : Int) (bitN k : Int) = ((setB x k false).toNat : Int) :=
  allU (p := fun x => bits .or .u8 (x.toNat : Int) (bitN k : Int) = ((setB x k true).toNat : Int) ∧ bits .andNot .u8 (x.toNat : Int) (bitN k : Int) = ((setB x k false).toNat : Int)) (fun x => or_all x ⟨k, hk⟩) x

theorem has_any (X : Mk) (n : Nat) (hn : n < 256) (r : Bool) (hr : has X n = r) (w : World) : Calls Try.prog 32 #[mv X, .int .u8 (n : Int)] w fun e w' => e = .returned (.bool r) ∧ Below w.heap.size w w' := by
  have HB := fun w => bit_any n hn w
  have hw := wrap_div8 n hn
  have hz := and_bit (X.at (n / 8)) (k := n % 8) (by omega)
  have HR : Hid ((bits .and .u8 ((X.at (n / 8)).toNat : Int) (bitN (n % 8) : Int) == 0) = !r) := by
    show _ = _
    rw [hz, ← hr]
    rfl
  obtain ⟨d, hd⟩ : ∃ d, n / 8 = d := ⟨_, rfl⟩
  have hd2 : d < 32 := by omega
  rw [hd] at hw HR
  clear hz hr hd
  obtain ⟨q, hq⟩ : ∃ q, bitN (n % 8) = q := ⟨_, rfl⟩
  rw [hq] at HR
  simp only [hq] at HB
  clear hq
  go_enter Try.func32, Try.ntmps32
  go_upto_region 1 with fail
  generalize hW : w.alloc (.cells (ms X).toArray 23) = W
  obtain ⟨h1, h2, h3⟩ := one_new _ _ _ _ hW
  clear hW
  have hc := MB.at h1 hd2
  have i0 : (0 : Int) ≤ (n : Int) := by omega
  have i1 : (0 : Int) ≤ (d : Int) := by omega
  have i2 : (d : Int) < 32 := by omega
  have HBe := keepd h2
  clear h1 h2
  obtain ⟨z, hz⟩ : ∃ z, bits .and .u8 ((X.at d).toNat : Int) (q : Int) = z := ⟨_, rfl⟩
  rw [hz] at HR
  go_quiet ((go_at_call 41; exact Calls.quiet_of_same (HB _)))
  go_wp2_with fail
  go_returns
  have e := HR.out
  have ez : (z != 0) = r := by
    rw [bne, e, Bool.not_not]
  exact ⟨by rw [← ez]; rfl, bDrewN HBe.out _⟩

end Go.Proofs.Ytflmplnampgflaa
