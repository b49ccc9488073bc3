/-
  The contracts of bit, Has and With. No conditions beyond those each theorem states.
-/
import Derived.Test.YtopomoghkedbkaaT1
namespace Go.Proofs.Ytopomoghkedbkaa
open Go.RowKit
set_option maxRecDepth 100000

attribute [local go_sem ↓] ex_ld23 ex_st23 ex_al23 ex_bu23 ex_eq23 ex_ne23 ex_ld45 ex_st45 ex_al45 ex_bu45
attribute [local go_sem] ptrB_at okPtr_at aggC_at agg32 agg256 isM_at eqV_m isRow_new isRow_newr World.setRow_alloc_new

theorem bit_any (n : Nat) (hn : n < 256) (w : World) : Calls Try.prog 25 #[.int .u8 (n : Int)] w fun e w' => e = .returned (.int .u8 (bitN (n % 8) : Int)) ∧ w' = w := by
  have i0 : (0 : Int) ≤ (n : Int) := by omega
  have i1 : (0 : Int) ≤ (n : Int) % 8 := by omega
  have i2 : (n : Int) % 8 ≤ 8 := by omega
  go_enter Try.func25, Try.ntmps25
  go_wp2
  go_ret
  simp [bitN]

theorem wrap_div8 (n : Nat) (hn : n < 256) : IntKind.u8.wrap ((n : Int) / 8) = ((n / 8 : Nat) : Int) := by
  have h : ∀ m : Fin 256, IntKind.u8.wrap ((m.1 : Int) / 8) = ((m.1 / 8 : Nat) : Int) := by decide +kernel
  exact h ⟨n, hn⟩

theorem and_all : ∀ (x : Fin 256) (k : Fin 8), (bits .and .u8 ((UInt8.ofNat x.1).toNat : Int) (bitN k.1 : Int) == 0) = !tb (UInt8.ofNat x.1) k.1 := by decide +kernel
theorem and_bit (x : UInt8) {k : Nat} (hk : k < 8) : (bits .and .u8 (x.toNat : Int) (bitN k : Int) == 0) = !tb x k :=
  allU (p := fun x => (bits .and .u8 (x.toNat : Int) (bitN k : Int) == 0) = !tb x k) (fun x => and_all x ⟨k, hk⟩) x
theorem or_all : ∀ (x : Fin 256) (k : Fin 8), bits .or .u8 ((UInt8.ofNat x.1).toNat : Int) (bitN k.1 : Int) = ((setB (UInt8.ofNat x.1) k.1 true).toNat : Int) ∧ bits .andNot .u8 ((UInt8.ofNat x.1).toNat : Int) (bitN k.1 : Int) = ((setB (UInt8.ofNat x.1) k.1 false).toNat : Int) := by decide +kernel
theorem or_bit (x : UInt8) {k : Nat} (hk : k < 8) : bits .or .u8 (x.toNat : Int) (bitN k : Int) = ((setB x k true).toNat : Int) ∧ bits .andNot .u8 (x.toNat : Int) (bitN k : Int) = ((setB x k false).toNat : Int) :=
  allU (p := fun x => bits .or .u8 (x.toNat : Int) (bitN k : Int) = ((setB x k true).toNat : Int) ∧ bits .andNot .u8 (x.toNat : Int) (bitN k : Int) = ((setB x k false).toNat : Int)) (fun x => or_all x ⟨k, hk⟩) x

theorem has_any (X : Mk) (n : Nat) (hn : n < 256) (r : Bool) (hr : has X n = r) (w : World) : Calls Try.prog 14 #[mv X, .int .u8 (n : Int)] w fun e w' => e = .returned (.bool r) ∧ Below w.heap.size w w' := by
  have HB := fun w => bit_any n hn w
  have hw := wrap_div8 n hn
  have hz := and_bit (X.at (n / 8)) (k := n % 8) (by omega)
  have HR : Hid ((bits .and .u8 ((X.at (n / 8)).toNat : Int) (bitN (n % 8) : Int) == 0) = !r) := by
    show _ = _
    rw [hz, ← hr]
    rfl
  obtain ⟨d, hd⟩ : ∃ d, n / 8 = d := ⟨_, rfl⟩
  have hd2 : d < 32 := by omega
  rw [hd] at hw HR
  clear hz hr hd
  obtain ⟨q, hq⟩ : ∃ q, bitN (n % 8) = q := ⟨_, rfl⟩
  rw [hq] at HR
  simp only [hq] at HB
  clear hq
  go_enter Try.func14, Try.ntmps14
  go_upto_region 1 with fail
  generalize hW : w.alloc (.cells (ms X).toArray 23) = W
  obtain ⟨h1, h2, h3⟩ := one_new _ _ _ _ hW
  clear hW
  have hc := MB.at h1 hd2
  have i0 : (0 : Int) ≤ (n : Int) := by omega
  have i1 : (0 : Int) ≤ (d : Int) := by omega
  have i2 : (d : Int) < 32 := by omega
  have HBe := keepd h2
  clear h1 h2
  obtain ⟨z, hz⟩ : ∃ z, bits .and .u8 ((X.at d).toNat : Int) (q : Int) = z := ⟨_, rfl⟩
  rw [hz] at HR
  go_quiet ((go_at_call 25; exact Calls.quiet_of_same (HB _)))
  go_wp2_with fail
  go_returns
  have e := HR.out
  have ez : (z != 0) = r := by
    rw [bne, e, Bool.not_not]
  exact ⟨by rw [← ez]; rfl, bDrewN HBe.out _⟩

set_option maxHeartbeats 1000000 in
theorem with_any (X : Mk) (n : Nat) (hn : n < 256) (on : Bool) (w : World) : Calls Try.prog 16 #[mv X, .int .u8 (n : Int), .bool on] w fun e w' => e = .returned (mv (setM X n on)) ∧ Below w.heap.size w w' := by
  have HB := fun w => bit_any n hn w
  have hw := wrap_div8 n hn
  obtain ⟨ho, ha⟩ := or_bit (X.at (n / 8)) (k := n % 8) (by omega)
  obtain ⟨d, hd⟩ : ∃ d, n / 8 = d := ⟨_, rfl⟩
  have hd2 : d < 32 := by omega
  have HS : Hid (setM X n on = X.set d (setB (X.at d) (n % 8) on)) := by
    show _ = _
    rw [← hd]
    rfl
  rw [hd] at hw ho ha
  clear hd
  obtain ⟨q, hq⟩ : ∃ q, bitN (n % 8) = q := ⟨_, rfl⟩
  rw [hq] at ho ha
  simp only [hq] at HB
  clear hq
  obtain ⟨uo, huo⟩ : ∃ u, setB (X.at d) (n % 8) true = u := ⟨_, rfl⟩
  obtain ⟨ua, hua⟩ : ∃ u, setB (X.at d) (n % 8) false = u := ⟨_, rfl⟩
  rw [huo] at ho
  rw [hua] at ha
  go_enter Try.func16, Try.ntmps16
  go_upto_region 1 with fail
  generalize hW : (w.alloc (.cells (ms X).toArray 23)).alloc (.cells (ms zM).toArray 23) = W
  obtain ⟨h1, h2, h3, h4⟩ := two_new _ _ _ _ _ _ hW
  clear hW
  have hc := MB.at h1 hd2
  have hf := SR.frozen h1 d
  have i0 : (0 : Int) ≤ (n : Int) := by omega
  have i1 : (0 : Int) ≤ (d : Int) := by omega
  have i2 : (d : Int) < 32 := by omega
  have H1 := keepd h1
  have H2 := keepd h2
  have HBe := keepd h3
  clear h1 h2 h3 h4
  obtain ⟨x, hx⟩ : ∃ x, X.at d = x := ⟨_, rfl⟩
  rw [hx] at hc ho ha
  clear hx
  cases on
  · rw [hua] at HS
    clear ho huo hua
    go_upto_region 3 with fail
    go_region_with (with_reducible refine (HB _).mono ?_; rintro e w2 ⟨rfl, rfl⟩)
    all_goals
      generalize hW : (W.setCell ⟨w.heap.size, d, none⟩ (.int .u8 (ua.toNat : Int))).drew = W2
      obtain ⟨h1, h2, h3⟩ : MB W2 w.heap.size (X.set d ua) ∧ MB W2 (w.heap.size + 1) zM ∧ Below w.heap.size w W2 := by
        subst hW
        exact ⟨MB.put H1.out d ua, SR.far (p := ⟨w.heap.size, d, none⟩) H2.out (by show w.heap.size + 1 ≠ w.heap.size; omega) _, (bSet HBe.out (Nat.le_refl _) _).drew⟩
      clear hW H1 H2 HBe hc hf
      rw [← HS.out] at h1
      obtain ⟨r1, k1⟩ := MB.facts h1
      obtain ⟨r2, k2⟩ := MB.facts h2
      have H2 := keepd h2
      have H3 := keepd h3
      clear h1 h2 h3 HS
      go_wp2_with fail
      exact bodyPost_ret (results_m Try.results16 _ _ (w.heap.size + 1) _ rfl (SR.row H2.out _)) rfl ⟨rfl, bRow H3.out (by omega) _⟩
  · rw [huo] at HS
    clear ha huo hua
    go_upto_region 2 with fail
    go_region_with (with_reducible refine (HB _).mono ?_; rintro e w2 ⟨rfl, rfl⟩)
    all_goals
      generalize hW : (W.setCell ⟨w.heap.size, d, none⟩ (.int .u8 (uo.toNat : Int))).drew = W2
      obtain ⟨h1, h2, h3⟩ : MB W2 w.heap.size (X.set d uo) ∧ MB W2 (w.heap.size + 1) zM ∧ Below w.heap.size w W2 := by
        subst hW
        exact ⟨MB.put H1.out d uo, SR.far (p := ⟨w.heap.size, d, none⟩) H2.out (by show w.heap.size + 1 ≠ w.heap.size; omega) _, (bSet HBe.out (Nat.le_refl _) _).drew⟩
      clear hW H1 H2 HBe hc hf
      rw [← HS.out] at h1
      obtain ⟨r1, k1⟩ := MB.facts h1
      obtain ⟨r2, k2⟩ := MB.facts h2
      have H2 := keepd h2
      have H3 := keepd h3
      clear h1 h2 h3 HS
      go_wp2_with fail
      exact bodyPost_ret (results_m Try.results16 _ _ (w.heap.size + 1) _ rfl (SR.row H2.out _)) rfl ⟨rfl, bRow H3.out (by omega) _⟩

end Go.Proofs.Ytopomoghkedbkaa
