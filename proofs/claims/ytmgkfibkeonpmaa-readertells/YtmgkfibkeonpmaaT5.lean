/-
  The contract of nvt.each: the octets, as they lie, are told one by one.
-/
import Derived.Test.YtmgkfibkeonpmaaT4
namespace Go.Proofs.Ytmgkfibkeonpmaa
open Go.RowKit

/-- How an octet lies. -/
def lay1 (u : UInt8) : List UInt8 := if u = 255 then [255, 255] else if u = 13 then [13, 10] else [u]
/-- How octets lie, one behind the other. -/
def layL (l : List UInt8) : List UInt8 := l.flatMap lay1

theorem lay1_len (u : UInt8) : 1 ≤ (lay1 u).length ∧ (lay1 u).length ≤ 2 := by unfold lay1; split <;> (try split) <;> simp
theorem layL_len (l : List UInt8) : l.length ≤ (layL l).length ∧ (layL l).length ≤ 2 * l.length := by
  induction l with
  | nil => simp [layL]
  | cons a r ih =>
    have := lay1_len a
    have e : layL (a :: r) = lay1 a ++ layL r := by simp [layL]
    rw [e, List.length_append, List.length_cons]
    omega
theorem layL_take_succ (l : List UInt8) (k : Nat) (h : k < l.length) : layL (l.take (k + 1)) = layL (l.take k) ++ lay1 l[k] := by
  unfold layL
  rw [List.take_succ_eq_append_getElem h, List.flatMap_append]
  simp

end Go.Proofs.Ytmgkfibkeonpmaa
