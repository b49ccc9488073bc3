/-
  Contracts over layer 3: what gathers octets (row.add) and what counts them (count.add), as one kind of thing (an Adder). No conditions beyond those each theorem states.
-/
import Derived.Test.YtmgkfibkeonpmaaI3
import Derived.Test.YtmgkfibkeonpmaaI1
namespace Go.Proofs.Ytmgkfibkeonpmaa
open Go.RowKit

/-- A method value (function fn bound to the variable in block p) that takes octets. I K L w: the octets L have been taken, and each block of K is as it was. -/
structure Adder (W : World) (fn p : Nat) (I : List (Nat × Obj) → List UInt8 → World → Prop) : Prop where
  put : ∀ (K : List (Nat × Obj)) (L : List UInt8) (w : World) (A : Option Addr) (l : List UInt8) (n c : Nat), n = l.length → L.length + n ≤ 900000 → I K L w → Rd w w.heap.size A l c →
    Calls Try.prog fn #[.pointer (some ⟨p, 0, none⟩), .slice A n c] w fun e w' => e = .returned (.tuple #[]) ∧ I K (L ++ l) w'
  enters : ∀ (args : Array Value) (w : World), (callFunc fn args).run Try.prog w = .ok (.enter fn args) w
  got : ∀ (K : List (Nat × Obj)) (L : List UInt8) (w : World), I K L w → ∀ (k : Nat) (o : Obj), (k, o) ∈ K → w.heap[k]? = some o
  below : ∀ (K : List (Nat × Obj)) (L : List UInt8) (w : World), I K L w → Below W.heap.size W w
  add : ∀ (K K' : List (Nat × Obj)) (L : List UInt8) (w w' : World), I K L w → Below w.heap.size w w' → (∀ (k : Nat) (o : Obj), (k, o) ∈ K' → w.heap.size ≤ k ∧ w'.heap[k]? = some o) → I (K' ++ K) L w'

end Go.Proofs.Ytmgkfibkeonpmaa
