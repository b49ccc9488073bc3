/-
  Contracts over the document's answers for layer 4: One. No conditions beyond those each theorem states.
-/
import Derived.Test.YtmgkfibkeonpmaaQ6
namespace Go.Proofs.Ytmgkfibkeonpmaa
open Go.RowKit

set_option maxHeartbeats 1000000 in
theorem done_4 (a b : Int) (A : Option Addr) (n c : Nat) (u : UInt8) (z : Int) (hz : z = (u.toNat : Int)) (w : World) :
    Calls Try.prog 22 #[.agg #[.int .i64 4, .int .i64 a, .int .i64 b, .slice A n c], .int .u8 z] w (GotOne w (⟨5, 0, z, []⟩, [])) := by
  obtain ⟨z0, z1⟩ := u8_rng u z hz
  have B0 : ∀ o o', Below w.heap.size w ((w.alloc o).alloc o') := fun o o' => bAlloc (bAlloc (Below.refl _ _) _) _
  clear hz
  go_enter Try.func22, Try.ntmps22
  go_wp2
  refine bodyPost_ret (v := .tuple #[.agg #[.int .i64 5, .int .i64 0, .int .i64 z, .slice none 0 0], .slice none 0 0]) (by simp [results, Try.results22, go_sem]) rfl ?_
  exact ⟨⟨5, 0, z, none, [], 0⟩, none, 0, [], rfl, rfl, rfl, Rd.nil _ _, RdI.nil _, B0 _ _, fun g off e => by cases e⟩




end Go.Proofs.Ytmgkfibkeonpmaa
