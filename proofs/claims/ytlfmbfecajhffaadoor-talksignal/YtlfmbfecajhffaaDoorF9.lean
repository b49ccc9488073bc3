/-
  What works, new. No conditions beyond those each theorem states.
-/
import Derived.Test.YtlfmbfecajhffaaDoorF7
import Derived.Test.YtlfmbfecajhffaaDoorE10
namespace Go.Proofs.YtlfmbfecajhffaaDoor.Fr
open Go.RowKit
set_option maxRecDepth 100000

attribute [local go_sem ↓] ex_ld25 ex_st25 ex_al25 ex_bu25 ex_ix25 ex_eq25 ex_ne25 ex_eq23 ex_ne23 ex_ld25o ex_st65 ex_al65 ex_bu65 ex_bu65s
attribute [local go_sem] ptrB_at okPtr_at aggC_at agg62 agg69 isC_at isT_at eqV_t eqV_c isRow_new isRow_new65 World.setRow_alloc_new ptr4_at okPtr4_at cutT_at isI_at isS_at bW_at bWs_at

/-- What works, new. -/
def MidW (V : World) (b : Nat) (l : List UInt8) (n : Nat) (z : Int) (ov li : Bool) (X : Tb) (room : Int) (A : Option Addr) (c : Nat) (wx : World) : Prop :=
  WB wx b A n c z ov li X room (.slice none 0 0) 0 ∧ Rd wx wx.heap.size A l c ∧ (Far wx b (.slice none 0 0) A ∧ Frs V A) ∧ Below V.heap.size V wx ∧ V.heap.size ≤ b
abbrev wk0 : List Value := wk none 0 0 0 false false zT 0 (.slice none 0 0) 0
theorem midw_a {V w4 : World} {B n c : Nat} {l : List UInt8} {A : Option Addr} {z : Int} {ov li : Bool} {X : Tb} {room : Int} (ho : Own w4 B (.slice A n c) l) (hVB : V.heap.size ≤ B) (hb : Below V.heap.size V w4) (_ : n = l.length) :
    MidW V w4.heap.size l n z ov li X room A c (w4.alloc (.cells (wk A n c z ov li X room (.slice none 0 0) 0).toArray 84)) := by
  have ho2 := ho.alloc (.cells (wk A n c z ov li X room (.slice none 0 0) 0).toArray 84)
  refine ⟨heap_alloc_new w4 _, ho2.rdOf, ⟨fun ad had => ?_, Frs.own ho hVB⟩, bAlloc hb _, hb.size⟩
  subst had
  rcases ho.2 with ⟨e, _⟩ | ⟨g, cap, cur, e, hbb, hg, _⟩
  · cases e
  · injection e with e1 _ _
    injection e1 with e1
    subst e1
    have hl : g < w4.heap.size := (Array.getElem?_eq_some_iff.1 hg).1
    exact ⟨by show g < _; simp; omega, by show g ≠ w4.heap.size; omega, by simp [Value.ownBlock]⟩
theorem row_size (w : World) (b : Nat) (cs : Array Value) : (w.setRow b cs).heap.size = w.heap.size := by simp [World.setRow]
theorem zw_of {V w4 : World} (hb : Below (V.alloc (.cells wk0.toArray 84)).drew.heap.size (V.alloc (.cells wk0.toArray 84)).drew w4) : rowOf w4 V.heap.size = wk0.toArray ∧ isRow w4 84 V.heap.size 69 = true := by
  have h0 : SR 84 (V.alloc (.cells wk0.toArray 84)).drew V.heap.size wk0 := heap_alloc_new V _
  exact WB.facts (SR.call h0 hb h0.lt)
theorem midw_b {V w4 : World} {n c : Nat} {l : List UInt8} {A : Option Addr} {z : Int} {ov li : Bool} {X : Tb} {room : Int} (ho : Own w4 (V.alloc (.cells wk0.toArray 84)).drew.heap.size (.slice A n c) l) (hb : Below (V.alloc (.cells wk0.toArray 84)).drew.heap.size (V.alloc (.cells wk0.toArray 84)).drew w4) (_ : n = l.length) :
    MidW V V.heap.size l n z ov li X room A c (w4.setRow V.heap.size (wk A n c z ov li X room (.slice none 0 0) 0).toArray) := by
  have hs : (V.alloc (.cells wk0.toArray 84)).drew.heap.size = V.heap.size + 1 := World.size_alloc _ _
  have h0 : SR 84 (V.alloc (.cells wk0.toArray 84)).drew V.heap.size wk0 := heap_alloc_new V _
  have hf : Far w4 V.heap.size (.slice none 0 0) A := ho.far (by rw [hs]; omega) (by simp [Value.ownBlock])
  refine ⟨SR.row (SR.call h0 hb h0.lt) _, ?_, ⟨fun ad had => ?_, Frs.own ho (by rw [hs]; omega)⟩, bRow (upD hb) (Nat.le_refl _) _, Nat.le_refl _⟩
  · exact ho.rdOf.of_block (by rw [row_size]; exact Nat.le_refl _) fun ad had => setRow_other _ _ _ _ (hf ad had).2.1
  · rw [row_size]
    exact hf ad had


end Go.Proofs.YtlfmbfecajhffaaDoor.Fr
