/-
  NARROWER THAN 'FOR EVERY INPUT', by the rows' own cells (each row's printed sentence says how): OptsTells: laid · OptsAlone: laid · OptsMeets: laid · OptsOthers: laid · OptsAsks: laid.
  DERIVED. THE GIVEN ROWS OF THIS SEAT. 5 by the template 'for every input the law returns true; each argument reads behind the call as it read before'; 0 by the template 'total and deterministic' (their statements: YtlgcfpdmklieiaaDoorTotals.lean).
  GIVEN WITH THE SEED: the statements are not yours to turn. If you find one false, say at which input.
  Laid BY PROGRAM, IN A SANDBOX (cutbox-rows.mjs): the forced cells as the released guide's own fill.sh prints them over the translation 59d1c4023e9f9443… (all of the seat's roots in one cut). By AI agents, Wed Nov 11 2026. No macro, syntax, notation, axiom, sorry.
-/
import Derived.Test.YtlgcfpdmklieiaaDoorChecked
import GoSem.Claim
import GoSem.ClaimJoined
import GoSem.ClaimMapViews
import Derived.JoinedTies
import Derived.KernelRfl
namespace Go.Proofs.YtlgcfpdmklieiaaDoor
/- THE CELL 'sum', in the pinned program and in every row, IS THE sha256 OF THE DUMP (.gsa) THAT YtlgcfpdmklieiaaDoorProg.lean LOADS. Nothing in Lean hashes anything: it is a label: what it is worth is what the hold of that sum in a sandbox is worth. -/
noncomputable def Tryd.pinned : Pinned := { name := "ytlgcfpdmklieiaadoor", sum := "59d1c4023e9f9443a90f826e705a2d8961f6c8046c6409d6db57b5a59312cd25", checked := Tryd.checked }
namespace Rows
def none {H : Type} : Left H := { results := [], args := [] }

/- WHAT THE LISTED PACKAGE-LEVEL VARIABLES READ AS WHEN THE CALL BEGINS. Each datum BY PROGRAM (the guide's laid-datum.mjs) off the statement by which the dump's own 'gosem.cut.vars' lays the variable. In a bare row this is a premise. The card (YtlgcfpdmklieiaaDoorCards.lean) ties it to the program's text. -/
def laid_linnet_qbit_heard {H : Type} : DataW H := .agg [.agg [.agg [.lit (.int .i64 1), .lit (.int .i64 1), .lit (.int .i64 0)], .agg [.lit (.int .i64 0), .lit (.int .i64 0), .lit (.int .i64 0)]], .agg [.agg [.lit (.int .i64 1), .lit (.int .i64 0), .lit (.int .i64 0)], .agg [.lit (.int .i64 0), .lit (.int .i64 2), .lit (.int .i64 0)]], .agg [.agg [.lit (.int .i64 0), .lit (.int .i64 0), .lit (.int .i64 5)], .agg [.lit (.int .i64 0), .lit (.int .i64 0), .lit (.int .i64 0)]], .agg [.agg [.lit (.int .i64 1), .lit (.int .i64 0), .lit (.int .i64 5)], .agg [.lit (.int .i64 4), .lit (.int .i64 1), .lit (.int .i64 0)]], .agg [.agg [.lit (.int .i64 1), .lit (.int .i64 0), .lit (.int .i64 0)], .agg [.lit (.int .i64 0), .lit (.int .i64 0), .lit (.int .i64 0)]], .agg [.agg [.lit (.int .i64 2), .lit (.int .i64 2), .lit (.int .i64 0)], .agg [.lit (.int .i64 0), .lit (.int .i64 0), .lit (.int .i64 0)]]]
def laid_linnet_qbit_asked {H : Type} : DataW H := .agg [.agg [.agg [.lit (.int .i64 4), .lit (.int .i64 1), .lit (.int .i64 0)], .agg [.lit (.int .i64 0), .lit (.int .i64 0), .lit (.int .i64 5)]], .agg [.agg [.lit (.int .i64 1), .lit (.int .i64 0), .lit (.int .i64 5)], .agg [.lit (.int .i64 2), .lit (.int .i64 2), .lit (.int .i64 0)]], .agg [.agg [.lit (.int .i64 3), .lit (.int .i64 0), .lit (.int .i64 0)], .agg [.lit (.int .i64 2), .lit (.int .i64 0), .lit (.int .i64 5)]], .agg [.agg [.lit (.int .i64 3), .lit (.int .i64 0), .lit (.int .i64 5)], .agg [.lit (.int .i64 2), .lit (.int .i64 0), .lit (.int .i64 0)]], .agg [.agg [.lit (.int .i64 4), .lit (.int .i64 0), .lit (.int .i64 5)], .agg [.lit (.int .i64 5), .lit (.int .i64 0), .lit (.int .i64 0)]], .agg [.agg [.lit (.int .i64 4), .lit (.int .i64 0), .lit (.int .i64 0)], .agg [.lit (.int .i64 5), .lit (.int .i64 0), .lit (.int .i64 5)]]]
def laid_linnet_opts_codes {H : Type} : DataW H := .agg [.lit (.int .i64 0), .lit (.int .i64 1), .lit (.int .i64 3), .lit (.int .i64 34)]

/-- 'linnetlaw06.OptsTells': WHATEVER THE INPUT: true; the input reads as it did. -/
def optsTellsSpec : ChangeSpec := { name := "optsTells", fn := fun _ => fun
  | [d1, d2, d3] => { results := [.lit (.bool true)], args := [d1, d2, d3] }
  | _ => none }
def optsTellsRow : OpenClaim := { program := "ytlgcfpdmklieiaadoor", sum := "59d1c4023e9f9443a90f826e705a2d8961f6c8046c6409d6db57b5a59312cd25", func := "linnet/linnetlaw06.OptsTells", spec := "optsTells", unfollowed := true, recurses := true, named := ["linnet/opts.codes", "linnet/qbit.heard", "linnet/qbit.asked"], apart := false, laid := [("linnet/qbit.heard", laid_linnet_qbit_heard), ("linnet/qbit.asked", laid_linnet_qbit_asked), ("linnet/opts.codes", laid_linnet_opts_codes)] }
def OptsTellsSaid : Prop := optsTellsRow.holds Tryd.pinned (OpenSpec.ofChange optsTellsSpec)

/-- ITS FALSE NEIGHBOUR: 'it returns false'. Refute it at one input. -/
def optsTellsWrong : ChangeSpec := { name := "optsTells", fn := fun _ => fun
  | [d1, d2, d3] => { results := [.lit (.bool false)], args := [d1, d2, d3] }
  | _ => none }
def OptsTellsWrongFalsely : Prop := optsTellsRow.holds Tryd.pinned (OpenSpec.ofChange optsTellsWrong)

/-- 'linnetlaw06.OptsAlone': WHATEVER THE INPUT: true; the input reads as it did. -/
def optsAloneSpec : ChangeSpec := { name := "optsAlone", fn := fun _ => fun
  | [d1, d2, d3] => { results := [.lit (.bool true)], args := [d1, d2, d3] }
  | _ => none }
def optsAloneRow : OpenClaim := { program := "ytlgcfpdmklieiaadoor", sum := "59d1c4023e9f9443a90f826e705a2d8961f6c8046c6409d6db57b5a59312cd25", func := "linnet/linnetlaw06.OptsAlone", spec := "optsAlone", unfollowed := true, recurses := true, named := ["linnet/opts.codes", "linnet/qbit.heard", "linnet/qbit.asked"], apart := false, laid := [("linnet/qbit.heard", laid_linnet_qbit_heard), ("linnet/qbit.asked", laid_linnet_qbit_asked), ("linnet/opts.codes", laid_linnet_opts_codes)] }
def OptsAloneSaid : Prop := optsAloneRow.holds Tryd.pinned (OpenSpec.ofChange optsAloneSpec)

/-- ITS FALSE NEIGHBOUR: 'it returns false'. Refute it at one input. -/
def optsAloneWrong : ChangeSpec := { name := "optsAlone", fn := fun _ => fun
  | [d1, d2, d3] => { results := [.lit (.bool false)], args := [d1, d2, d3] }
  | _ => none }
def OptsAloneWrongFalsely : Prop := optsAloneRow.holds Tryd.pinned (OpenSpec.ofChange optsAloneWrong)

/-- 'linnetlaw06.OptsMeets': WHATEVER THE INPUT: true; the input reads as it did. -/
def optsMeetsSpec : ChangeSpec := { name := "optsMeets", fn := fun _ => fun
  | [d] => { results := [.lit (.bool true)], args := [d] }
  | _ => none }
def optsMeetsRow : OpenClaim := { program := "ytlgcfpdmklieiaadoor", sum := "59d1c4023e9f9443a90f826e705a2d8961f6c8046c6409d6db57b5a59312cd25", func := "linnet/linnetlaw06.OptsMeets", spec := "optsMeets", unfollowed := true, recurses := true, named := ["linnet/opts.codes", "linnet/qbit.heard", "linnet/qbit.asked"], apart := false, laid := [("linnet/qbit.heard", laid_linnet_qbit_heard), ("linnet/qbit.asked", laid_linnet_qbit_asked), ("linnet/opts.codes", laid_linnet_opts_codes)] }
def OptsMeetsSaid : Prop := optsMeetsRow.holds Tryd.pinned (OpenSpec.ofChange optsMeetsSpec)

/-- ITS FALSE NEIGHBOUR: 'it returns false'. Refute it at one input. -/
def optsMeetsWrong : ChangeSpec := { name := "optsMeets", fn := fun _ => fun
  | [d] => { results := [.lit (.bool false)], args := [d] }
  | _ => none }
def OptsMeetsWrongFalsely : Prop := optsMeetsRow.holds Tryd.pinned (OpenSpec.ofChange optsMeetsWrong)

/-- 'linnetlaw06.OptsOthers': WHATEVER THE INPUT: true; the input reads as it did. -/
def optsOthersSpec : ChangeSpec := { name := "optsOthers", fn := fun _ => fun
  | [d1, d2] => { results := [.lit (.bool true)], args := [d1, d2] }
  | _ => none }
def optsOthersRow : OpenClaim := { program := "ytlgcfpdmklieiaadoor", sum := "59d1c4023e9f9443a90f826e705a2d8961f6c8046c6409d6db57b5a59312cd25", func := "linnet/linnetlaw06.OptsOthers", spec := "optsOthers", unfollowed := true, recurses := true, named := ["linnet/opts.codes", "linnet/qbit.heard"], apart := false, laid := [("linnet/qbit.heard", laid_linnet_qbit_heard), ("linnet/opts.codes", laid_linnet_opts_codes)] }
def OptsOthersSaid : Prop := optsOthersRow.holds Tryd.pinned (OpenSpec.ofChange optsOthersSpec)

/-- ITS FALSE NEIGHBOUR: 'it returns false'. Refute it at one input. -/
def optsOthersWrong : ChangeSpec := { name := "optsOthers", fn := fun _ => fun
  | [d1, d2] => { results := [.lit (.bool false)], args := [d1, d2] }
  | _ => none }
def OptsOthersWrongFalsely : Prop := optsOthersRow.holds Tryd.pinned (OpenSpec.ofChange optsOthersWrong)

/-- 'linnetlaw06.OptsAsks': WHATEVER THE INPUT: true; the input reads as it did. -/
def optsAsksSpec : ChangeSpec := { name := "optsAsks", fn := fun _ => fun
  | [d1, d2, d3] => { results := [.lit (.bool true)], args := [d1, d2, d3] }
  | _ => none }
def optsAsksRow : OpenClaim := { program := "ytlgcfpdmklieiaadoor", sum := "59d1c4023e9f9443a90f826e705a2d8961f6c8046c6409d6db57b5a59312cd25", func := "linnet/linnetlaw06.OptsAsks", spec := "optsAsks", unfollowed := true, recurses := true, named := ["linnet/opts.codes", "linnet/qbit.heard", "linnet/qbit.asked"], apart := false, laid := [("linnet/qbit.heard", laid_linnet_qbit_heard), ("linnet/qbit.asked", laid_linnet_qbit_asked), ("linnet/opts.codes", laid_linnet_opts_codes)] }
def OptsAsksSaid : Prop := optsAsksRow.holds Tryd.pinned (OpenSpec.ofChange optsAsksSpec)

/-- ITS FALSE NEIGHBOUR: 'it returns false'. Refute it at one input. -/
def optsAsksWrong : ChangeSpec := { name := "optsAsks", fn := fun _ => fun
  | [d1, d2, d3] => { results := [.lit (.bool false)], args := [d1, d2, d3] }
  | _ => none }
def OptsAsksWrongFalsely : Prop := optsAsksRow.holds Tryd.pinned (OpenSpec.ofChange optsAsksWrong)

/- THE SECOND FORM. 'bulk': how many values and letters a reading holds, each counted each time it is reached (what is shared counts as often as it is met; a slice's spare places count too). A statement '..UptoSaid' is the law's where the arguments, and the package variables that the reading takes, are together of bulk at most 1048576: NARROWER than '..Said'. Prove '..Said' where nothing that the law and all that it calls make is longer than what came in: it says more and counts as full. Else prove '..UptoSaid'. A law counts once. -/
mutual
def uptoBulk {H : Type} : DataW H → Nat
  | .lit (.string bytes) => bytes.length + 1
  | .lit _ => 1
  | .nil => 1
  | .ptr d => uptoBulk d + 1
  | .slice elems spare => uptoBulkAll elems + uptoBulkAll spare + 1
  | .agg parts => uptoBulkAll parts + 1
  | .iface _ d => uptoBulk d + 1
  | .map entries => uptoBulkEntries entries + 1
  | .held _ => 1
def uptoBulkAll {H : Type} : List (DataW H) → Nat
  | [] => 0
  | d :: r => uptoBulk d + uptoBulkAll r
def uptoBulkEntries {H : Type} : List (Lit × DataW H) → Nat
  | [] => 0
  | x :: r => uptoBulkEntry x + uptoBulkEntries r
def uptoBulkEntry {H : Type} : Lit × DataW H → Nat
  | (.string bytes, d) => bytes.length + uptoBulk d + 1
  | (_, d) => uptoBulk d + 1
 end
def uptoSmall : (H : Type) → List (DataW H) → Bool := fun _ ds => decide (uptoBulkAll ds ≤ 1048576)
def OpenSpec.upto (s : _root_.Go.ChangeSpec) : _root_.Go.OpenSpec := { _root_.Go.OpenSpec.ofChange s with cond := some uptoSmall }

/-- 'linnetlaw06.OptsTells', WHERE WHAT IT READS IS OF BULK AT MOST 1048576: true; the input reads as it did. -/
def optsTellsUptoRow : OpenClaim := { program := "ytlgcfpdmklieiaadoor", sum := "59d1c4023e9f9443a90f826e705a2d8961f6c8046c6409d6db57b5a59312cd25", func := "linnet/linnetlaw06.OptsTells", spec := "optsTells", unfollowed := true, recurses := true, named := ["linnet/opts.codes", "linnet/qbit.heard", "linnet/qbit.asked"], apart := false, laid := [("linnet/qbit.heard", laid_linnet_qbit_heard), ("linnet/qbit.asked", laid_linnet_qbit_asked), ("linnet/opts.codes", laid_linnet_opts_codes)], narrowed := true }
def OptsTellsUptoSaid : Prop := optsTellsUptoRow.holds Tryd.pinned (OpenSpec.upto optsTellsSpec)

/-- 'linnetlaw06.OptsAlone', WHERE WHAT IT READS IS OF BULK AT MOST 1048576: true; the input reads as it did. -/
def optsAloneUptoRow : OpenClaim := { program := "ytlgcfpdmklieiaadoor", sum := "59d1c4023e9f9443a90f826e705a2d8961f6c8046c6409d6db57b5a59312cd25", func := "linnet/linnetlaw06.OptsAlone", spec := "optsAlone", unfollowed := true, recurses := true, named := ["linnet/opts.codes", "linnet/qbit.heard", "linnet/qbit.asked"], apart := false, laid := [("linnet/qbit.heard", laid_linnet_qbit_heard), ("linnet/qbit.asked", laid_linnet_qbit_asked), ("linnet/opts.codes", laid_linnet_opts_codes)], narrowed := true }
def OptsAloneUptoSaid : Prop := optsAloneUptoRow.holds Tryd.pinned (OpenSpec.upto optsAloneSpec)

/-- 'linnetlaw06.OptsMeets', WHERE WHAT IT READS IS OF BULK AT MOST 1048576: true; the input reads as it did. -/
def optsMeetsUptoRow : OpenClaim := { program := "ytlgcfpdmklieiaadoor", sum := "59d1c4023e9f9443a90f826e705a2d8961f6c8046c6409d6db57b5a59312cd25", func := "linnet/linnetlaw06.OptsMeets", spec := "optsMeets", unfollowed := true, recurses := true, named := ["linnet/opts.codes", "linnet/qbit.heard", "linnet/qbit.asked"], apart := false, laid := [("linnet/qbit.heard", laid_linnet_qbit_heard), ("linnet/qbit.asked", laid_linnet_qbit_asked), ("linnet/opts.codes", laid_linnet_opts_codes)], narrowed := true }
def OptsMeetsUptoSaid : Prop := optsMeetsUptoRow.holds Tryd.pinned (OpenSpec.upto optsMeetsSpec)

/-- 'linnetlaw06.OptsOthers', WHERE WHAT IT READS IS OF BULK AT MOST 1048576: true; the input reads as it did. -/
def optsOthersUptoRow : OpenClaim := { program := "ytlgcfpdmklieiaadoor", sum := "59d1c4023e9f9443a90f826e705a2d8961f6c8046c6409d6db57b5a59312cd25", func := "linnet/linnetlaw06.OptsOthers", spec := "optsOthers", unfollowed := true, recurses := true, named := ["linnet/opts.codes", "linnet/qbit.heard"], apart := false, laid := [("linnet/qbit.heard", laid_linnet_qbit_heard), ("linnet/opts.codes", laid_linnet_opts_codes)], narrowed := true }
def OptsOthersUptoSaid : Prop := optsOthersUptoRow.holds Tryd.pinned (OpenSpec.upto optsOthersSpec)

/-- 'linnetlaw06.OptsAsks', WHERE WHAT IT READS IS OF BULK AT MOST 1048576: true; the input reads as it did. -/
def optsAsksUptoRow : OpenClaim := { program := "ytlgcfpdmklieiaadoor", sum := "59d1c4023e9f9443a90f826e705a2d8961f6c8046c6409d6db57b5a59312cd25", func := "linnet/linnetlaw06.OptsAsks", spec := "optsAsks", unfollowed := true, recurses := true, named := ["linnet/opts.codes", "linnet/qbit.heard", "linnet/qbit.asked"], apart := false, laid := [("linnet/qbit.heard", laid_linnet_qbit_heard), ("linnet/qbit.asked", laid_linnet_qbit_asked), ("linnet/opts.codes", laid_linnet_opts_codes)], narrowed := true }
def OptsAsksUptoSaid : Prop := optsAsksUptoRow.holds Tryd.pinned (OpenSpec.upto optsAsksSpec)

end Rows
end Go.Proofs.YtlgcfpdmklieiaaDoor
