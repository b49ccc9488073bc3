/-
  Words for the law SlcMarks. No conditions beyond those each theorem states.
-/
import Derived.Test.YtemmdknnmhdhkaaDoorL2
namespace Go.Proofs.YtemmdknnmhdhkaaDoor
open Go.RowKit
set_option maxRecDepth 100000

theorem xor_all : ∀ (l : Fin 4) (a i o : Bool), bits .xor .u8 (secI (l.val : Int) a i o) (secI (l.val : Int) (!a) i o) = 128 := by decide +kernel

theorem sec_xor (X : Tr) (h : X.may = true) : bits .xor .u8 (X.sec.toNat : Int) (({ X with a := !X.a } : Tr).sec.toNat : Int) = 128 := by
  have hX := mayT_iff.1 h
  have h1 := secI_rng ⟨hX.2.2.1, hX.2.2.2⟩ X.a X.i X.o
  have h2 := secI_rng ⟨hX.2.2.1, hX.2.2.2⟩ (!X.a) X.i X.o
  unfold Tr.sec
  rw [u8_back h1.1 h1.2]
  show bits .xor .u8 _ ((u8 (secI X.lv (!X.a) X.i X.o)).toNat : Int) = 128
  rw [u8_back h2.1 h2.2]
  have hk := xor_all ⟨X.lv.toNat, by omega⟩ X.a X.i X.o
  simp only [] at hk
  rw [show ((X.lv.toNat : Nat) : Int) = X.lv by omega] at hk
  exact hk

theorem get3 (m : UInt8) (h : isS m = true) : getL [7, m, 9] = some [tri 7 m 9] := by
  rw [getL_cons, h, getL_nil]
  rfl
theorem get3_no (m : UInt8) (h : isS m = false) : getL [7, m, 9] = none := by
  rw [getL_cons, h]
  rfl

/-- A new block with three octets. -/
theorem three_rd (w : World) (m : UInt8) : Rd (w.alloc (.cells #[.int .u8 7, .int .u8 (m.toNat : Int), .int .u8 9] 5)) (w.alloc (.cells #[.int .u8 7, .int .u8 (m.toNat : Int), .int .u8 9] 5)).heap.size (some ⟨w.heap.size, 0, none⟩) [7, m, 9] 3 :=
  new_rd w _ [7, m, 9] 3 rfl rfl (by decide)

theorem flip_rd (w : World) (X : Tr) (o : Obj) : RdT ((w.alloc o).alloc (.cells #[.int .i64 X.f, .int .i64 X.lv, .bool (!X.a), .bool X.i, .bool X.o, .int .u8 (X.v.toNat : Int)] 29)) (some ⟨w.heap.size + 1, 0, none⟩) [{ X with a := !X.a }] 1 := by
  have := one_rdT (w.alloc o) { X with a := !X.a }
  rw [World.size_alloc] at this
  exact this

/-- Six cells, in every world that has w's old memory. -/
theorem sSix {w W : World} {g h a0 a1 a2 b0 b1 b2 : Nat} {u0 u1 u2 v0 v1 v2 : Value} (k0 : w.cell? ⟨g, a0, none⟩ = some u0) (k1 : w.cell? ⟨g, a1, none⟩ = some u1) (k2 : w.cell? ⟨g, a2, none⟩ = some u2)
    (l0 : w.cell? ⟨h, b0, none⟩ = some v0) (l1 : w.cell? ⟨h, b1, none⟩ = some v1) (l2 : w.cell? ⟨h, b2, none⟩ = some v2) (hg : g < w.heap.size) (hh : h < w.heap.size) (hb : Below w.heap.size w W) :
    W.cell? ⟨g, a0, none⟩ = some u0 ∧ W.cell? ⟨g, a1, none⟩ = some u1 ∧ W.cell? ⟨g, a2, none⟩ = some u2 ∧ W.cell? ⟨h, b0, none⟩ = some v0 ∧ W.cell? ⟨h, b1, none⟩ = some v1 ∧ W.cell? ⟨h, b2, none⟩ = some v2 ∧ Below w.heap.size w W :=
  ⟨(hb.cell (p := ⟨g, _, none⟩) hg).trans k0, (hb.cell (p := ⟨g, _, none⟩) hg).trans k1, (hb.cell (p := ⟨g, _, none⟩) hg).trans k2, (hb.cell (p := ⟨h, _, none⟩) hh).trans l0, (hb.cell (p := ⟨h, _, none⟩) hh).trans l1, (hb.cell (p := ⟨h, _, none⟩) hh).trans l2, hb⟩

end Go.Proofs.YtemmdknnmhdhkaaDoor
