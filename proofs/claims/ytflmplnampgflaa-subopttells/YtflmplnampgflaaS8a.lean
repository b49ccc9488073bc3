/-
  The contract of the document's own Get. No conditions beyond those each theorem states.
-/
import Derived.Test.YtflmplnampgflaaS6
namespace Go.Proofs.Ytflmplnampgflaa
open Go.RowKit
set_option maxRecDepth 100000

/-- The tests of an octet's bits, by dividing. -/
theorem div_all : ∀ c : Fin 256, Int.tmod (Int.tdiv (c.val : Int) 4) 8 = ((c.val / 4 % 8 : Nat) : Int) ∧ Int.tmod (c.val : Int) 4 = ((c.val % 4 : Nat) : Int) ∧ (Int.tdiv (c.val : Int) 128 == 1) = decide (128 ≤ c.val) ∧
    (Int.tmod (Int.tdiv (c.val : Int) 64) 2 == 1) = decide (c.val / 64 % 2 = 1) ∧ (Int.tmod (Int.tdiv (c.val : Int) 32) 2 == 1) = decide (c.val / 32 % 2 = 1) := by decide +kernel

theorem div_of (c : UInt8) : (Int.tmod (Int.tdiv (c.toNat : Int) 4) 8 != 0) = !isS c ∧ Int.tmod (c.toNat : Int) 4 = (c.toNat : Int) % 4 ∧ (Int.tdiv (c.toNat : Int) 128 == 1) = decide (128 ≤ c.toNat) ∧
    (Int.tmod (Int.tdiv (c.toNat : Int) 64) 2 == 1) = decide (c.toNat / 64 % 2 = 1) ∧ (Int.tmod (Int.tdiv (c.toNat : Int) 32) 2 == 1) = decide (c.toNat / 32 % 2 = 1) := by
  obtain ⟨h1, h2, h3, h4, h5⟩ := div_all ⟨c.toNat, c.toNat_lt⟩
  simp only [] at h1 h2 h3 h4 h5
  refine ⟨?_, by rw [h2]; omega, h3, h4, h5⟩
  rw [h1]
  unfold isS
  rw [Bool.eq_iff_iff]
  simp
  omega

theorem div_wrap (c : UInt8) : ((wrap64 ((c.toNat : Int) / 4)).tmod 8 != 0) = !isS c := by
  have hl := c.toNat_lt
  have e1 : wrap64 ((c.toNat : Int) / 4) = (c.toNat : Int) / 4 := by unfold wrap64; omega
  have e2 : ((c.toNat : Int) / 4) = Int.tdiv (c.toNat : Int) 4 := by rw [Int.tdiv_eq_ediv_of_nonneg (by omega)]
  rw [e1, e2]
  exact (div_of c).1

theorem rdT_of (w : World) (X : Tr) (cs : Array Value) (h : cs = X.cells.toArray) : RdT (w.alloc (.cells cs 60)) (some ⟨w.heap.size, 0, none⟩) [X] 1 := by
  subst h
  exact one_rdT w X

theorem ref_cells (x y u : UInt8) : #[Value.int .i64 (IntKind.i64.wrap (x.toNat : Int)), Value.int .i64 ((y.toNat : Int).tmod 4), Value.bool (IntKind.i64.wrap ((y.toNat : Int) / 128) == 1), Value.bool ((IntKind.i64.wrap ((y.toNat : Int) / 64)).tmod 2 == 1),
    Value.bool ((IntKind.i64.wrap ((y.toNat : Int) / 32)).tmod 2 == 1), Value.int .u8 (u.toNat : Int)] = (tri x y u).cells.toArray := by
  have hl := y.toNat_lt
  have hx := x.toNat_lt
  obtain ⟨_, h2, h3, h4, h5⟩ := div_of y
  have e0 : IntKind.i64.wrap (x.toNat : Int) = (x.toNat : Int) := wrap_small _ (by omega) (by omega)
  have e1 : IntKind.i64.wrap ((y.toNat : Int) / 128) = Int.tdiv (y.toNat : Int) 128 := by rw [Int.tdiv_eq_ediv_of_nonneg (by clear h3 h4 h5; omega)]; exact wrap_small _ (by clear h3 h4 h5; omega) (by clear h3 h4 h5; omega)
  have e2 : IntKind.i64.wrap ((y.toNat : Int) / 64) = Int.tdiv (y.toNat : Int) 64 := by rw [Int.tdiv_eq_ediv_of_nonneg (by clear h3 h4 h5; omega)]; exact wrap_small _ (by clear h3 h4 h5; omega) (by clear h3 h4 h5; omega)
  have e3 : IntKind.i64.wrap ((y.toNat : Int) / 32) = Int.tdiv (y.toNat : Int) 32 := by rw [Int.tdiv_eq_ediv_of_nonneg (by clear h3 h4 h5; omega)]; exact wrap_small _ (by clear h3 h4 h5; omega) (by clear h3 h4 h5; omega)
  rw [e0, e1, e2, e3, h2, h3, h4, h5]
  rfl

end Go.Proofs.Ytflmplnampgflaa
