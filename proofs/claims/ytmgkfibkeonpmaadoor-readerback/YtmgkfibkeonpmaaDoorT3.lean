/-
  Contracts over nvt's closures: whatever takes octets one by one (a Putter), the closures for 255 and 13, the array of 256 closures, each.
-/
import Derived.Test.YtmgkfibkeonpmaaDoorT2
namespace Go.Proofs.YtmgkfibkeonpmaaDoor
open Go.RowKit

/-- A closure (function fn with what it captured) that takes octets one by one. I K L w: the octets L have been taken, and each block of K is as it was. -/
structure Putter (W : World) (fn : Nat) (cap : Value) (I : List (Nat × Obj) → List UInt8 → World → Prop) : Prop where
  put : ∀ (K : List (Nat × Obj)) (L : List UInt8) (w : World) (u : UInt8), L.length ≤ 1000 → I K L w → Calls Tryd.prog fn #[.int .u8 (u.toNat : Int), cap] w fun e w' => e = .returned (.tuple #[]) ∧ I K (L ++ [u]) w'
  enters : ∀ (args : Array Value) (w : World), (callFunc fn args).run Tryd.prog w = .ok (.enter fn args) w
  got : ∀ (K : List (Nat × Obj)) (L : List UInt8) (w : World), I K L w → ∀ (k : Nat) (o : Obj), (k, o) ∈ K → w.heap[k]? = some o
  below : ∀ (K : List (Nat × Obj)) (L : List UInt8) (w : World), I K L w → Below W.heap.size W w
  add : ∀ (K K' : List (Nat × Obj)) (L : List UInt8) (w w' : World), I K L w → Below w.heap.size w w' → (∀ (k : Nat) (o : Obj), (k, o) ∈ K' → w.heap.size ≤ k ∧ w'.heap[k]? = some o) → I (K' ++ K) L w'

set_option maxHeartbeats 400000 in
theorem mark_any {W : World} {fn : Nat} {cap : Value} {I : List (Nat × Obj) → List UInt8 → World → Prop} (P : Putter W fn cap I) (K : List (Nat × Obj)) (L : List UInt8) (w : World) (q : Nat) (u : UInt8)
    (hq : (q, Obj.cells #[.func (.func fn) #[] #[cap]] 57 (0, 0)) ∈ K) (h : I K L w) (hl : L.length ≤ 900) :
    Calls Tryd.prog 52 #[.int .u8 (u.toNat : Int), .pointer (some ⟨q, 0, none⟩)] w fun e w' => e = .returned (.tuple #[]) ∧ I K (L ++ [u, u]) w' := by
  have hc := cell_of_one (P.got _ _ _ h _ _ hq)
  have hin := P.enters
  have H := keepd h
  clear h
  go_enter Tryd.func52, Tryd.ntmps52
  go_wp2_with fail
  with_reducible refine (P.put K L _ u (by omega) H.out).mono ?_
  rintro e w1 ⟨rfl, h1⟩
  have hc1 := cell_of_one (P.got _ _ _ h1 _ _ hq)
  have H1 := keepd h1
  clear h1 hc
  go_wp2_with fail
  with_reducible refine (P.put K (L ++ [u]) _ u (by simp; omega) H1.out).mono ?_
  rintro e w2 ⟨rfl, h2⟩
  have H2 := keepd h2
  clear h2 hc1
  go_wp2
  go_end0
  exact ⟨rfl, by have := H2.out; simpa using this⟩

set_option maxHeartbeats 400000 in
theorem enter_any {W : World} {fn : Nat} {cap : Value} {I : List (Nat × Obj) → List UInt8 → World → Prop} (P : Putter W fn cap I) (K : List (Nat × Obj)) (L : List UInt8) (w : World) (q : Nat) (u : UInt8)
    (hq : (q, Obj.cells #[.func (.func fn) #[] #[cap]] 57 (0, 0)) ∈ K) (h : I K L w) (hl : L.length ≤ 900) :
    Calls Tryd.prog 53 #[.int .u8 (u.toNat : Int), .pointer (some ⟨q, 0, none⟩)] w fun e w' => e = .returned (.tuple #[]) ∧ I K (L ++ [u, 10]) w' := by
  have hc := cell_of_one (P.got _ _ _ h _ _ hq)
  have hin := P.enters
  have H := keepd h
  clear h
  go_enter Tryd.func53, Tryd.ntmps53
  go_wp2_with fail
  with_reducible refine (P.put K L _ u (by omega) H.out).mono ?_
  rintro e w1 ⟨rfl, h1⟩
  have hc1 := cell_of_one (P.got _ _ _ h1 _ _ hq)
  have H1 := keepd h1
  clear h1 hc
  go_wp2_with fail
  have hp := (P.put K (L ++ [u]) w1 10 (by simp; omega) H1.out)
  rw [show ((10 : UInt8).toNat : Int) = 10 from rfl] at hp
  with_reducible refine hp.mono ?_
  rintro e w2 ⟨rfl, h2⟩
  have H2 := keepd h2
  clear h2 hc1
  go_wp2
  go_end0
  exact ⟨rfl, by have := H2.out; simpa using this⟩

end Go.Proofs.YtmgkfibkeonpmaaDoor
