/-
  Two ends in memory, what one of them just said, and what it is then, in a block of its own.
-/
import Derived.Test.YtlgcfpdmklieiaaDoorM9
namespace Go.Proofs.YtlgcfpdmklieiaaDoor
open Go.RowKit

/-- Two ends, what was answered, and the end that is to be put in its place. -/
structure MQ (w : World) (P : List Value) (bO bT : Nat) (A B : O) (v0 v1 : Value) (s t : List (Int × Int)) (b : Nat) (X : O) (sl : Value) (L : List (Int × Int)) (W : World) : Prop where
  ms : MS w P bO bT A B v0 v1 s t sl L W
  x : SR 25 W b X.cs
  lt : bT < b

section
variable {w W w1 : World} {P : List Value} {bO bT : Nat} {A B : O} {v0 v1 : Value} {s t : List (Int × Int)} {sl : Value} {L : List (Int × Int)}

/-- The block first, then the call. -/
theorem MQ.first (h : MJ w P bO bT A B v0 v1 s t W) (cs : List Value) (hb : Below (W.alloc (.cells cs.toArray 25)).heap.size (W.alloc (.cells cs.toArray 25)) w1) (ho : One w1 (W.alloc (.cells cs.toArray 25)).heap.size sl L) (X : O) :
    MQ w P bO bT A B v0 v1 s t W.heap.size X sl L (w1.setRow W.heap.size X.cs.toArray) := by
  have hsz : (W.alloc (.cells cs.toArray 25)).heap.size = W.heap.size + 1 := World.size_alloc _ _
  have hlt := h.tw.lt
  have hB : Below W.heap.size W w1 := bCall (bAlloc (Below.refl _ _) _) hb
  refine ⟨⟨h.call (bRow hB (Nat.le_refl _) _), (ho.row (by omega) _).weak (by omega)⟩, ((SR.new 25 W cs).call hb (by omega)).row _, hlt⟩

/-- The call first, then the block. -/
theorem MQ.last (h : MJ w P bO bT A B v0 v1 s t W) (hb : Below W.heap.size W w1) (ho : One w1 W.heap.size sl L) (X : O) :
    MQ w P bO bT A B v0 v1 s t w1.heap.size X sl L (w1.alloc (.cells X.cs.toArray 25)) := by
  have hlt := h.tw.lt
  have hs := hb.size
  exact ⟨⟨h.call (bAlloc hb _), (ho.below (bAlloc (Below.refl _ _) _)).weak (by omega)⟩, SR.new 25 w1 X.cs, by omega⟩

theorem SR.xf {b : Nat} {X : O} (h : SR 25 W b X.cs) : rowOf W b = X.cs.toArray ∧ isRow W 25 b 16 = true := h.facts 16 rfl
end

end Go.Proofs.YtlgcfpdmklieiaaDoor
