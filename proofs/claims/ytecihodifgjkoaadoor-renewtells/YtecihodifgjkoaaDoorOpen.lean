/-
  Arguments opened: octets and numbers.
-/
import Derived.Test.YtecihodifgjkoaaDoorWords
import Derived.ProofKit
import Derived.OpenShut
import Derived.Lib.SmallJoins
namespace Go.Proofs.YtecihodifgjkoaaDoor
open Go.ChangeShapes Go.WideShapes Go.ChangeAt Go.RowKit Go.Joins

theorem own : ownKnob Tryd.prog.godebug = none := by kernel_rfl
theorem laidOut : laidOutB Tryd.prog = true := by kernel_rfl
theorem cells5 : Tryd.prog.cellsOf 5 = 1 := by kernel_rfl

/-- The octet of a number. -/
def oct (z : Int) : UInt8 := UInt8.ofNat z.toNat
theorem bv_oct {z : Int} (h : (Lit.int .u8 z).wf = true) : Value.int .u8 z = bv (oct z) := by
  have hx : 0 ≤ z ∧ z ≤ 255 := by simpa [Lit.wf, IntKind.min, IntKind.max, IntKind.signed, IntKind.bits] using h
  unfold bv oct
  have : ((UInt8.ofNat z.toNat).toNat : Int) = z := by
    rw [UInt8.toNat_ofNat']
    omega
  rw [this]

/-- A slice of octets that came in. -/
theorem openB {H : Type} {enc : TypeId × Value → H} {W : World} {spare : Nat → Bool} {held : Bool} {fuel : Nat} {v : Value} {x : DataW H × List MemPlace}
    (h : DataW.trod enc Tryd.prog W 0 spare held fuel 26 [v] = some x) : ∃ (A : Option Addr) (l : List UInt8) (c : Nat), v = .slice A l.length c ∧ Rd W W.heap.size A l c := by
  rcases open_ints Tryd.underlying26 Tryd.underlying5 cells5 h with ⟨hcs, _⟩ | ⟨a, len, cap, zs, hcs, _, hl, hm, hz, _, hcell, hwz⟩
  · simp only [List.cons.injEq, and_true] at hcs
    subst hcs
    exact ⟨none, [], 0, rfl, by simp, by simp, fun h => absurd rfl h, fun _ h => by cases h⟩
  · simp only [List.cons.injEq, and_true] at hcs
    subst hcs
    have hlen : len ≤ zs.length := by rw [hz]; split <;> omega
    have e : ((zs.take len).map oct).length = len := by rw [List.length_map, List.length_take]; omega
    refine ⟨some a, (zs.take len).map oct, cap, by rw [e], by rw [e]; exact hl, hm, fun hne => ⟨a, rfl, ?_⟩, fun ad had j u hu => ?_⟩
    · have h0 : 0 < zs.length := by
        rcases Nat.eq_zero_or_pos len with h0 | h0
        · subst h0; simp at hne
        · omega
      have := World.block_lt_of_cell? W _ (hcell 0 h0)
      rwa [blk_add] at this
    · injection had with had
      subst had
      rw [List.getElem?_map, Option.map_eq_some_iff] at hu
      obtain ⟨z, hz', rfl⟩ := hu
      rw [List.getElem?_take] at hz'
      split at hz'
      · obtain ⟨hj, e2⟩ := List.getElem?_eq_some_iff.1 hz'
        rw [hcell j hj, List.getD_eq_getElem?_getD, hz']
        subst e2
        simp only [Option.getD_some]
        rw [bv_oct (hwz _ (List.getElem_mem hj))]
      · cases hz'

theorem i64_bounds {x : Int} (h : (Lit.int .i64 x).wf = true) : -9223372036854775808 ≤ x ∧ x ≤ 9223372036854775807 := by
  simpa [Lit.wf, IntKind.min, IntKind.max, IntKind.signed, IntKind.bits] using h

/-- An argument reads behind the call as it read before. -/
theorem again {H : Type} {enc : TypeId × Value → H} {W W' : World} {t : TypeId} {v : Value} {d : DataW H} {p : List MemPlace} (hr : Tryd.prog.readableRec t = true) (ht : t < Tryd.prog.types.size)
    (k : DataW.Trod enc Tryd.prog W 0 (fun _ => true) true t v d p) (bel : Below W.heap.size W W') : DataW.Trod enc Tryd.prog W' 0 (fun b => decide (b < W.heap.size)) true t v d p :=
  Below.trod laidOut hr ht k bel (by obtain ⟨m, hm⟩ := k; exact DataW.trod_lt m _ _ _ hm)

end Go.Proofs.YtecihodifgjkoaaDoor
