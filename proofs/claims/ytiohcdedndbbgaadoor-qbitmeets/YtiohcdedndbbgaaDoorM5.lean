/-
  Two cells that stay in every world with the same old memory.
-/
import Derived.Test.YtiohcdedndbbgaaDoorM3
namespace Go.Proofs.YtiohcdedndbbgaaDoor
open Go.RowKit

theorem heldG {w1 W : World} {p q i j : Nat} {u v : Value} (k0 : w1.cell? ⟨p, i, none⟩ = some u) (k1 : w1.cell? ⟨q, j, none⟩ = some v) (hp : p < w1.heap.size) (hq : q < w1.heap.size) (h : Below w1.heap.size w1 W) :
    W.cell? ⟨p, i, none⟩ = some u ∧ W.cell? ⟨q, j, none⟩ = some v ∧ Below w1.heap.size w1 W :=
  ⟨(h.cell (p := ⟨p, i, none⟩) hp).trans k0, (h.cell (p := ⟨q, j, none⟩) hq).trans k1, h⟩

end Go.Proofs.YtiohcdedndbbgaaDoor
