/-
  Contracts over nvt's closures: whatever takes octets one by one (a Putter), the closures for 255 and 13, the array of 256 closures, each.
-/
import Derived.Test.YtmgkfibkeonpmaaT2
namespace Go.Proofs.Ytmgkfibkeonpmaa
open Go.RowKit

/-- A closure (function fn with what it captured) that takes octets one by one. I K L w: the octets L have been taken, and each block of K is as it was. -/
structure Putter (W : World) (fn : Nat) (cap : Value) (I : List (Nat × Obj) → List UInt8 → World → Prop) : Prop where
  put : ∀ (K : List (Nat × Obj)) (L : List UInt8) (w : World) (u : UInt8), L.length ≤ 1000 → I K L w → Calls Try.prog fn #[.int .u8 (u.toNat : Int), cap] w fun e w' => e = .returned (.tuple #[]) ∧ I K (L ++ [u]) w'
  enters : ∀ (args : Array Value) (w : World), (callFunc fn args).run Try.prog w = .ok (.enter fn args) w
  got : ∀ (K : List (Nat × Obj)) (L : List UInt8) (w : World), I K L w → ∀ (k : Nat) (o : Obj), (k, o) ∈ K → w.heap[k]? = some o
  below : ∀ (K : List (Nat × Obj)) (L : List UInt8) (w : World), I K L w → Below W.heap.size W w
  add : ∀ (K K' : List (Nat × Obj)) (L : List UInt8) (w w' : World), I K L w → Below w.heap.size w w' → (∀ (k : Nat) (o : Obj), (k, o) ∈ K' → w.heap.size ≤ k ∧ w'.heap[k]? = some o) → I (K' ++ K) L w'

end Go.Proofs.Ytmgkfibkeonpmaa
