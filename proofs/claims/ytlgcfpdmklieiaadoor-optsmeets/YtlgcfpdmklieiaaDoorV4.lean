/-
  A number's two lowest bits; rows of verbs that came in.
-/
import Derived.Test.YtlgcfpdmklieiaaDoorV3
import Derived.Laws.BitsLemmas
namespace Go.Proofs.YtlgcfpdmklieiaaDoor
open Go.RowKit

theorem i64_and3 (n : Int) : bits .and .i64 n 3 = n % 4 := by
  have h3 : (BitVec.ofInt 64 3).toNat = 2 ^ 2 - 1 := by decide
  have key : (BitVec.ofInt 64 n &&& BitVec.ofInt 64 3).toNat = (n % ((2 ^ 64 : Nat) : Int)).toNat % 2 ^ 2 := by
    rw [BitVec.toNat_and, BitVec.toNat_ofInt, h3, Nat.and_two_pow_sub_one_eq_mod]
  show IntKind.i64.wrap ((BitVec.ofInt 64 n &&& BitVec.ofInt 64 3).toNat : Nat) = n % 4
  rw [key, IntKind.wrap_i64]
  omega

theorem P4_mod (n : Int) : P4 (n % 4) := by unfold P4; omega

/-- A row of verbs: each has a verb and a code. -/
def RdV (w : World) (A : Option Addr) (l : List (Int × Int)) (c : Nat) : Prop :=
  l.length ≤ c ∧ c ≤ maxLen ∧ (l ≠ [] → ∃ b off, A = some ⟨b, off, none⟩ ∧ b < w.heap.size ∧ ∀ i x, l[i]? = some x → w.cell? ⟨b, off + i * 2, none⟩ = some (.int .i64 x.1) ∧ w.cell? ⟨b, off + i * 2 + 1, none⟩ = some (.int .i64 x.2))

/-- What was asked for is wanted then. -/
theorem wF_aF (q : Int) (on : Bool) (h : 0 ≤ q ∧ q ≤ 5) : wF (aF q on).1 = on := by
  have h6 : q = 0 ∨ q = 1 ∨ q = 2 ∨ q = 3 ∨ q = 4 ∨ q = 5 := by omega
  rcases h6 with rfl | rfl | rfl | rfl | rfl | rfl <;> cases on <;> rfl

theorem ok1_range {q : Int} {m : Bool} (h : ok1 q m = true) : 0 ≤ q ∧ q ≤ 5 := by
  have := (ok1_six h).1
  omega
theorem ok1_off {q : Int} {m : Bool} (h : ok1 q m = true) (hm : m = false) : q = 0 := by
  rcases (ok1_six h).2 with e | e
  · exact e
  · rw [hm] at e; cases e

end Go.Proofs.YtlgcfpdmklieiaaDoor
