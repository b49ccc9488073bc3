/-
  Contracts over layer 1: both functions named Same.
-/
import Derived.Test.YtifimgachkecpaaT7
namespace Go.Proofs.Ytifimgachkecpaa
open Go.RowKit

set_option maxHeartbeats 400000 in
theorem same14 (cap : Int) (A A' : Option Addr) (l l' : List UInt8) (n n' c c' : Nat) (w : World) (hn : n = l.length) (hn' : n' = l'.length) (h : Rd w w.heap.size A l c) (h' : Rd w w.heap.size A' l' c') :
    Calls Try.prog 14 #[.agg #[.int .i64 cap, .slice A n c], .agg #[.int .i64 cap, .slice A' n' c']] w fun e w' => e = .returned (.bool (l == l')) ∧ Below w.heap.size w w' := by
  subst hn hn'
  have HR := keepd h
  have HR' := keepd h'
  clear h h'
  go_enter Try.func14, Try.ntmps14
  go_wp2_with fail
  with_reducible refine (equal_any A A' l l' c c' _ _ (HR.out.at_ (bAlloc (bAlloc (Below.refl _ _) _) _)) (HR'.out.at_ (bAlloc (bAlloc (Below.refl _ _) _) _))).mono ?_
  rintro e w' ⟨rfl, rfl⟩
  go_wp2
  go_ret
  exact ⟨rfl, bAlloc (bAlloc (Below.refl _ _) _) _⟩

set_option maxHeartbeats 400000 in
theorem other14 (cap cap' : Int) (v v' : Value) (w : World) (hc : (cap == cap') = false) :
    Calls Try.prog 14 #[.agg #[.int .i64 cap, v], .agg #[.int .i64 cap', v']] w fun e w' => e = .returned (.bool false) ∧ Below w.heap.size w w' := by
  go_enter Try.func14, Try.ntmps14
  go_wp2
  go_ret
  exact ⟨rfl, bAlloc (bAlloc (Below.refl _ _) _) _⟩

set_option maxHeartbeats 400000 in
theorem same15 (cap : Int) (A A' : Option Addr) (l l' : List UInt8) (n n' c c' : Nat) (w : World) (hn : n = l.length) (hn' : n' = l'.length) (h : Rd w w.heap.size A l c) (h' : Rd w w.heap.size A' l' c') :
    Calls Try.prog 15 #[.agg #[.int .i64 cap, .slice A n c], .agg #[.int .i64 cap, .slice A' n' c']] w fun e w' => e = .returned (.bool (l == l')) ∧ Below w.heap.size w w' := by
  subst hn hn'
  have HR := keepd h
  have HR' := keepd h'
  clear h h'
  go_enter Try.func15, Try.ntmps15
  go_wp2_with fail
  with_reducible refine (octets_any A A' l l' c c' _ _ (HR.out.at_ (bAlloc (bAlloc (Below.refl _ _) _) _)) (HR'.out.at_ (bAlloc (bAlloc (Below.refl _ _) _) _))).mono ?_
  rintro e w' ⟨rfl, rfl⟩
  go_wp2
  go_ret
  exact ⟨rfl, bAlloc (bAlloc (Below.refl _ _) _) _⟩

set_option maxHeartbeats 400000 in
theorem other15 (cap cap' : Int) (v v' : Value) (w : World) (hc : (cap == cap') = false) :
    Calls Try.prog 15 #[.agg #[.int .i64 cap, v], .agg #[.int .i64 cap', v']] w fun e w' => e = .returned (.bool false) ∧ Below w.heap.size w w' := by
  go_enter Try.func15, Try.ntmps15
  go_wp2
  go_ret
  exact ⟨rfl, bAlloc (bAlloc (Below.refl _ _) _) _⟩

end Go.Proofs.Ytifimgachkecpaa
