/-
  No cell of these rows narrows 'for every input' (looked for: loops, veiled, ifaces, maps, wideKeys, modest, calm, conditions, laid).
  DERIVED. THE GIVEN ROWS OF THIS SEAT. 6 by the template 'for every input the law returns true; each argument reads behind the call as it read before'; 0 by the template 'total and deterministic' (their statements: YtflmplnampgflaaTotals.lean).
  GIVEN WITH THE SEED: the statements are not yours to turn. If you find one false, say at which input.
  Laid BY PROGRAM, IN A SANDBOX (cutbox-rows.mjs): the forced cells as the released guide's own fill.sh prints them over the translation cdf5c6829c13ce5f… (all of the seat's roots in one cut). By AI agents, Wed Nov 11 2026. No macro, syntax, notation, axiom, sorry.
-/
import Derived.Test.YtflmplnampgflaaChecked
import GoSem.Claim
import GoSem.ClaimJoined
import GoSem.ClaimMapViews
import Derived.JoinedTies
import Derived.KernelRfl
namespace Go.Proofs.Ytflmplnampgflaa
/- THE CELL 'sum', in the pinned program and in every row, IS THE sha256 OF THE DUMP (.gsa) THAT YtflmplnampgflaaProg.lean LOADS. Nothing in Lean hashes anything: it is a label: what it is worth is what the hold of that sum in a sandbox is worth. -/
noncomputable def Try.pinned : Pinned := { name := "ytflmplnampgflaa", sum := "cdf5c6829c13ce5ff7edcff13d2abdefdbdc1d05e25cf59a5529d78a6cccbed9", checked := Try.checked }
namespace Rows
def none {H : Type} : Left H := { results := [], args := [] }

/-- 'linnetlaw11.SuboptTells': WHATEVER THE INPUT: true; the input reads as it did. -/
def suboptTellsSpec : ChangeSpec := { name := "suboptTells", fn := fun _ => fun
  | [d1, d2, d3] => { results := [.lit (.bool true)], args := [d1, d2, d3] }
  | _ => none }
def suboptTellsRow : OpenClaim := { program := "ytflmplnampgflaa", sum := "cdf5c6829c13ce5ff7edcff13d2abdefdbdc1d05e25cf59a5529d78a6cccbed9", func := "linnet/linnetlaw11.SuboptTells", spec := "suboptTells", unfollowed := true, recurses := true, apart := false }
def SuboptTellsSaid : Prop := suboptTellsRow.holds Try.pinned (OpenSpec.ofChange suboptTellsSpec)

/-- ITS FALSE NEIGHBOUR: 'it returns false'. Refute it at one input. -/
def suboptTellsWrong : ChangeSpec := { name := "suboptTells", fn := fun _ => fun
  | [d1, d2, d3] => { results := [.lit (.bool false)], args := [d1, d2, d3] }
  | _ => none }
def SuboptTellsWrongFalsely : Prop := suboptTellsRow.holds Try.pinned (OpenSpec.ofChange suboptTellsWrong)

/-- 'linnetlaw11.SuboptBack': WHATEVER THE INPUT: true; the input reads as it did. -/
def suboptBackSpec : ChangeSpec := { name := "suboptBack", fn := fun _ => fun
  | [d1, d2] => { results := [.lit (.bool true)], args := [d1, d2] }
  | _ => none }
def suboptBackRow : OpenClaim := { program := "ytflmplnampgflaa", sum := "cdf5c6829c13ce5ff7edcff13d2abdefdbdc1d05e25cf59a5529d78a6cccbed9", func := "linnet/linnetlaw11.SuboptBack", spec := "suboptBack", unfollowed := true, recurses := true, apart := false }
def SuboptBackSaid : Prop := suboptBackRow.holds Try.pinned (OpenSpec.ofChange suboptBackSpec)

/-- ITS FALSE NEIGHBOUR: 'it returns false'. Refute it at one input. -/
def suboptBackWrong : ChangeSpec := { name := "suboptBack", fn := fun _ => fun
  | [d1, d2] => { results := [.lit (.bool false)], args := [d1, d2] }
  | _ => none }
def SuboptBackWrongFalsely : Prop := suboptBackRow.holds Try.pinned (OpenSpec.ofChange suboptBackWrong)

/-- 'linnetlaw11.SuboptKinds': WHATEVER THE INPUT: true; the input reads as it did. -/
def suboptKindsSpec : ChangeSpec := { name := "suboptKinds", fn := fun _ => fun
  | [d] => { results := [.lit (.bool true)], args := [d] }
  | _ => none }
def suboptKindsRow : OpenClaim := { program := "ytflmplnampgflaa", sum := "cdf5c6829c13ce5ff7edcff13d2abdefdbdc1d05e25cf59a5529d78a6cccbed9", func := "linnet/linnetlaw11.SuboptKinds", spec := "suboptKinds", unfollowed := true, recurses := true, apart := false }
def SuboptKindsSaid : Prop := suboptKindsRow.holds Try.pinned (OpenSpec.ofChange suboptKindsSpec)

/-- ITS FALSE NEIGHBOUR: 'it returns false'. Refute it at one input. -/
def suboptKindsWrong : ChangeSpec := { name := "suboptKinds", fn := fun _ => fun
  | [d] => { results := [.lit (.bool false)], args := [d] }
  | _ => none }
def SuboptKindsWrongFalsely : Prop := suboptKindsRow.holds Try.pinned (OpenSpec.ofChange suboptKindsWrong)

/-- 'linnetlaw11.SuboptParts': WHATEVER THE INPUT: true; the input reads as it did. -/
def suboptPartsSpec : ChangeSpec := { name := "suboptParts", fn := fun _ => fun
  | [d1, d2, d3] => { results := [.lit (.bool true)], args := [d1, d2, d3] }
  | _ => none }
def suboptPartsRow : OpenClaim := { program := "ytflmplnampgflaa", sum := "cdf5c6829c13ce5ff7edcff13d2abdefdbdc1d05e25cf59a5529d78a6cccbed9", func := "linnet/linnetlaw11.SuboptParts", spec := "suboptParts", unfollowed := true, recurses := true, apart := false }
def SuboptPartsSaid : Prop := suboptPartsRow.holds Try.pinned (OpenSpec.ofChange suboptPartsSpec)

/-- ITS FALSE NEIGHBOUR: 'it returns false'. Refute it at one input. -/
def suboptPartsWrong : ChangeSpec := { name := "suboptParts", fn := fun _ => fun
  | [d1, d2, d3] => { results := [.lit (.bool false)], args := [d1, d2, d3] }
  | _ => none }
def SuboptPartsWrongFalsely : Prop := suboptPartsRow.holds Try.pinned (OpenSpec.ofChange suboptPartsWrong)

/-- 'linnetlaw11.SuboptLess': WHATEVER THE INPUT: true; the input reads as it did. -/
def suboptLessSpec : ChangeSpec := { name := "suboptLess", fn := fun _ => fun
  | [d1, d2] => { results := [.lit (.bool true)], args := [d1, d2] }
  | _ => none }
def suboptLessRow : OpenClaim := { program := "ytflmplnampgflaa", sum := "cdf5c6829c13ce5ff7edcff13d2abdefdbdc1d05e25cf59a5529d78a6cccbed9", func := "linnet/linnetlaw11.SuboptLess", spec := "suboptLess", unfollowed := true, recurses := true, apart := false }
def SuboptLessSaid : Prop := suboptLessRow.holds Try.pinned (OpenSpec.ofChange suboptLessSpec)

/-- ITS FALSE NEIGHBOUR: 'it returns false'. Refute it at one input. -/
def suboptLessWrong : ChangeSpec := { name := "suboptLess", fn := fun _ => fun
  | [d1, d2] => { results := [.lit (.bool false)], args := [d1, d2] }
  | _ => none }
def SuboptLessWrongFalsely : Prop := suboptLessRow.holds Try.pinned (OpenSpec.ofChange suboptLessWrong)

/-- 'linnetlaw11.SuboptAck': WHATEVER THE INPUT: true; the input reads as it did. -/
def suboptAckSpec : ChangeSpec := { name := "suboptAck", fn := fun _ => fun
  | [d] => { results := [.lit (.bool true)], args := [d] }
  | _ => none }
def suboptAckRow : OpenClaim := { program := "ytflmplnampgflaa", sum := "cdf5c6829c13ce5ff7edcff13d2abdefdbdc1d05e25cf59a5529d78a6cccbed9", func := "linnet/linnetlaw11.SuboptAck", spec := "suboptAck", unfollowed := true, recurses := true, apart := false }
def SuboptAckSaid : Prop := suboptAckRow.holds Try.pinned (OpenSpec.ofChange suboptAckSpec)

/-- ITS FALSE NEIGHBOUR: 'it returns false'. Refute it at one input. -/
def suboptAckWrong : ChangeSpec := { name := "suboptAck", fn := fun _ => fun
  | [d] => { results := [.lit (.bool false)], args := [d] }
  | _ => none }
def SuboptAckWrongFalsely : Prop := suboptAckRow.holds Try.pinned (OpenSpec.ofChange suboptAckWrong)

/- THE SECOND FORM. 'bulk': how many values and letters a reading holds, each counted each time it is reached (what is shared counts as often as it is met; a slice's spare places count too). A statement '..UptoSaid' is the law's where the arguments, and the package variables that the reading takes, are together of bulk at most 1048576: NARROWER than '..Said'. Prove '..Said' where nothing that the law and all that it calls make is longer than what came in: it says more and counts as full. Else prove '..UptoSaid'. A law counts once. -/
mutual
def uptoBulk {H : Type} : DataW H → Nat
  | .lit (.string bytes) => bytes.length + 1
  | .lit _ => 1
  | .nil => 1
  | .ptr d => uptoBulk d + 1
  | .slice elems spare => uptoBulkAll elems + uptoBulkAll spare + 1
  | .agg parts => uptoBulkAll parts + 1
  | .iface _ d => uptoBulk d + 1
  | .map entries => uptoBulkEntries entries + 1
  | .held _ => 1
def uptoBulkAll {H : Type} : List (DataW H) → Nat
  | [] => 0
  | d :: r => uptoBulk d + uptoBulkAll r
def uptoBulkEntries {H : Type} : List (Lit × DataW H) → Nat
  | [] => 0
  | x :: r => uptoBulkEntry x + uptoBulkEntries r
def uptoBulkEntry {H : Type} : Lit × DataW H → Nat
  | (.string bytes, d) => bytes.length + uptoBulk d + 1
  | (_, d) => uptoBulk d + 1
 end
def uptoSmall : (H : Type) → List (DataW H) → Bool := fun _ ds => decide (uptoBulkAll ds ≤ 1048576)
def OpenSpec.upto (s : _root_.Go.ChangeSpec) : _root_.Go.OpenSpec := { _root_.Go.OpenSpec.ofChange s with cond := some uptoSmall }

/-- 'linnetlaw11.SuboptTells', WHERE WHAT IT READS IS OF BULK AT MOST 1048576: true; the input reads as it did. -/
def suboptTellsUptoRow : OpenClaim := { program := "ytflmplnampgflaa", sum := "cdf5c6829c13ce5ff7edcff13d2abdefdbdc1d05e25cf59a5529d78a6cccbed9", func := "linnet/linnetlaw11.SuboptTells", spec := "suboptTells", unfollowed := true, recurses := true, apart := false, narrowed := true }
def SuboptTellsUptoSaid : Prop := suboptTellsUptoRow.holds Try.pinned (OpenSpec.upto suboptTellsSpec)

/-- 'linnetlaw11.SuboptBack', WHERE WHAT IT READS IS OF BULK AT MOST 1048576: true; the input reads as it did. -/
def suboptBackUptoRow : OpenClaim := { program := "ytflmplnampgflaa", sum := "cdf5c6829c13ce5ff7edcff13d2abdefdbdc1d05e25cf59a5529d78a6cccbed9", func := "linnet/linnetlaw11.SuboptBack", spec := "suboptBack", unfollowed := true, recurses := true, apart := false, narrowed := true }
def SuboptBackUptoSaid : Prop := suboptBackUptoRow.holds Try.pinned (OpenSpec.upto suboptBackSpec)

/-- 'linnetlaw11.SuboptKinds', WHERE WHAT IT READS IS OF BULK AT MOST 1048576: true; the input reads as it did. -/
def suboptKindsUptoRow : OpenClaim := { program := "ytflmplnampgflaa", sum := "cdf5c6829c13ce5ff7edcff13d2abdefdbdc1d05e25cf59a5529d78a6cccbed9", func := "linnet/linnetlaw11.SuboptKinds", spec := "suboptKinds", unfollowed := true, recurses := true, apart := false, narrowed := true }
def SuboptKindsUptoSaid : Prop := suboptKindsUptoRow.holds Try.pinned (OpenSpec.upto suboptKindsSpec)

/-- 'linnetlaw11.SuboptParts', WHERE WHAT IT READS IS OF BULK AT MOST 1048576: true; the input reads as it did. -/
def suboptPartsUptoRow : OpenClaim := { program := "ytflmplnampgflaa", sum := "cdf5c6829c13ce5ff7edcff13d2abdefdbdc1d05e25cf59a5529d78a6cccbed9", func := "linnet/linnetlaw11.SuboptParts", spec := "suboptParts", unfollowed := true, recurses := true, apart := false, narrowed := true }
def SuboptPartsUptoSaid : Prop := suboptPartsUptoRow.holds Try.pinned (OpenSpec.upto suboptPartsSpec)

/-- 'linnetlaw11.SuboptLess', WHERE WHAT IT READS IS OF BULK AT MOST 1048576: true; the input reads as it did. -/
def suboptLessUptoRow : OpenClaim := { program := "ytflmplnampgflaa", sum := "cdf5c6829c13ce5ff7edcff13d2abdefdbdc1d05e25cf59a5529d78a6cccbed9", func := "linnet/linnetlaw11.SuboptLess", spec := "suboptLess", unfollowed := true, recurses := true, apart := false, narrowed := true }
def SuboptLessUptoSaid : Prop := suboptLessUptoRow.holds Try.pinned (OpenSpec.upto suboptLessSpec)

/-- 'linnetlaw11.SuboptAck', WHERE WHAT IT READS IS OF BULK AT MOST 1048576: true; the input reads as it did. -/
def suboptAckUptoRow : OpenClaim := { program := "ytflmplnampgflaa", sum := "cdf5c6829c13ce5ff7edcff13d2abdefdbdc1d05e25cf59a5529d78a6cccbed9", func := "linnet/linnetlaw11.SuboptAck", spec := "suboptAck", unfollowed := true, recurses := true, apart := false, narrowed := true }
def SuboptAckUptoSaid : Prop := suboptAckUptoRow.holds Try.pinned (OpenSpec.upto suboptAckSpec)

end Rows
end Go.Proofs.Ytflmplnampgflaa
