/-
  NARROWER THAN 'FOR EVERY INPUT', by the rows' own cells (each row's printed sentence says how): QbitTells: laid · QbitAsks: laid · QbitMeets: laid · QbitAnswers: laid · QbitRow: laid · QbitLone: laid.
  DERIVED. THE GIVEN ROWS OF THIS SEAT. 6 by the template 'for every input the law returns true; each argument reads behind the call as it read before'; 0 by the template 'total and deterministic' (their statements: YtiohcdedndbbgaaDoorTotals.lean).
  GIVEN WITH THE SEED: the statements are not yours to turn. If you find one false, say at which input.
  Laid BY PROGRAM, IN A SANDBOX (cutbox-rows.mjs): the forced cells as the released guide's own fill.sh prints them over the translation 1baea04ea9d9c6b1… (all of the seat's roots in one cut). By AI agents, Wed Nov 11 2026. No macro, syntax, notation, axiom, sorry.
-/
import Derived.Test.YtiohcdedndbbgaaDoorChecked
import GoSem.Claim
import GoSem.ClaimJoined
import GoSem.ClaimMapViews
import Derived.JoinedTies
import Derived.KernelRfl
namespace Go.Proofs.YtiohcdedndbbgaaDoor
/- THE CELL 'sum', in the pinned program and in every row, IS THE sha256 OF THE DUMP (.gsa) THAT YtiohcdedndbbgaaDoorProg.lean LOADS. Nothing in Lean hashes anything: it is a label: what it is worth is what the hold of that sum in a sandbox is worth. -/
noncomputable def Tryd.pinned : Pinned := { name := "ytiohcdedndbbgaadoor", sum := "1baea04ea9d9c6b1e5bc245679c790c23402ba610636a8d6d68d143c6c920b36", checked := Tryd.checked }
namespace Rows
def none {H : Type} : Left H := { results := [], args := [] }

/- WHAT THE LISTED PACKAGE-LEVEL VARIABLES READ AS WHEN THE CALL BEGINS. Each datum BY PROGRAM (the guide's laid-datum.mjs) off the statement by which the dump's own 'gosem.cut.vars' lays the variable. In a bare row this is a premise. The card (YtiohcdedndbbgaaDoorCards.lean) ties it to the program's text. -/
def laid_linnet_qbit_heard {H : Type} : DataW H := .agg [.agg [.agg [.lit (.int .i64 1), .lit (.int .i64 1), .lit (.int .i64 0)], .agg [.lit (.int .i64 0), .lit (.int .i64 0), .lit (.int .i64 0)]], .agg [.agg [.lit (.int .i64 1), .lit (.int .i64 0), .lit (.int .i64 0)], .agg [.lit (.int .i64 0), .lit (.int .i64 2), .lit (.int .i64 0)]], .agg [.agg [.lit (.int .i64 0), .lit (.int .i64 0), .lit (.int .i64 5)], .agg [.lit (.int .i64 0), .lit (.int .i64 0), .lit (.int .i64 0)]], .agg [.agg [.lit (.int .i64 1), .lit (.int .i64 0), .lit (.int .i64 5)], .agg [.lit (.int .i64 4), .lit (.int .i64 1), .lit (.int .i64 0)]], .agg [.agg [.lit (.int .i64 1), .lit (.int .i64 0), .lit (.int .i64 0)], .agg [.lit (.int .i64 0), .lit (.int .i64 0), .lit (.int .i64 0)]], .agg [.agg [.lit (.int .i64 2), .lit (.int .i64 2), .lit (.int .i64 0)], .agg [.lit (.int .i64 0), .lit (.int .i64 0), .lit (.int .i64 0)]]]
def laid_linnet_qbit_asked {H : Type} : DataW H := .agg [.agg [.agg [.lit (.int .i64 4), .lit (.int .i64 1), .lit (.int .i64 0)], .agg [.lit (.int .i64 0), .lit (.int .i64 0), .lit (.int .i64 5)]], .agg [.agg [.lit (.int .i64 1), .lit (.int .i64 0), .lit (.int .i64 5)], .agg [.lit (.int .i64 2), .lit (.int .i64 2), .lit (.int .i64 0)]], .agg [.agg [.lit (.int .i64 3), .lit (.int .i64 0), .lit (.int .i64 0)], .agg [.lit (.int .i64 2), .lit (.int .i64 0), .lit (.int .i64 5)]], .agg [.agg [.lit (.int .i64 3), .lit (.int .i64 0), .lit (.int .i64 5)], .agg [.lit (.int .i64 2), .lit (.int .i64 0), .lit (.int .i64 0)]], .agg [.agg [.lit (.int .i64 4), .lit (.int .i64 0), .lit (.int .i64 5)], .agg [.lit (.int .i64 5), .lit (.int .i64 0), .lit (.int .i64 0)]], .agg [.agg [.lit (.int .i64 4), .lit (.int .i64 0), .lit (.int .i64 0)], .agg [.lit (.int .i64 5), .lit (.int .i64 0), .lit (.int .i64 5)]]]

/-- 'linnetlaw05.QbitTells': WHATEVER THE INPUT: true; the input reads as it did. -/
def qbitTellsSpec : ChangeSpec := { name := "qbitTells", fn := fun _ => fun
  | [d1, d2, d3] => { results := [.lit (.bool true)], args := [d1, d2, d3] }
  | _ => none }
def qbitTellsRow : OpenClaim := { program := "ytiohcdedndbbgaadoor", sum := "1baea04ea9d9c6b1e5bc245679c790c23402ba610636a8d6d68d143c6c920b36", func := "linnet/linnetlaw05.QbitTells", spec := "qbitTells", named := ["linnet/qbit.heard", "linnet/qbit.asked"], apart := false, laid := [("linnet/qbit.heard", laid_linnet_qbit_heard), ("linnet/qbit.asked", laid_linnet_qbit_asked)] }
def QbitTellsSaid : Prop := qbitTellsRow.holds Tryd.pinned (OpenSpec.ofChange qbitTellsSpec)

/-- ITS FALSE NEIGHBOUR: 'it returns false'. Refute it at one input. -/
def qbitTellsWrong : ChangeSpec := { name := "qbitTells", fn := fun _ => fun
  | [d1, d2, d3] => { results := [.lit (.bool false)], args := [d1, d2, d3] }
  | _ => none }
def QbitTellsWrongFalsely : Prop := qbitTellsRow.holds Tryd.pinned (OpenSpec.ofChange qbitTellsWrong)

/-- 'linnetlaw05.QbitAsks': WHATEVER THE INPUT: true; the input reads as it did. -/
def qbitAsksSpec : ChangeSpec := { name := "qbitAsks", fn := fun _ => fun
  | [d1, d2] => { results := [.lit (.bool true)], args := [d1, d2] }
  | _ => none }
def qbitAsksRow : OpenClaim := { program := "ytiohcdedndbbgaadoor", sum := "1baea04ea9d9c6b1e5bc245679c790c23402ba610636a8d6d68d143c6c920b36", func := "linnet/linnetlaw05.QbitAsks", spec := "qbitAsks", named := ["linnet/qbit.asked", "linnet/qbit.heard"], apart := false, laid := [("linnet/qbit.heard", laid_linnet_qbit_heard), ("linnet/qbit.asked", laid_linnet_qbit_asked)] }
def QbitAsksSaid : Prop := qbitAsksRow.holds Tryd.pinned (OpenSpec.ofChange qbitAsksSpec)

/-- ITS FALSE NEIGHBOUR: 'it returns false'. Refute it at one input. -/
def qbitAsksWrong : ChangeSpec := { name := "qbitAsks", fn := fun _ => fun
  | [d1, d2] => { results := [.lit (.bool false)], args := [d1, d2] }
  | _ => none }
def QbitAsksWrongFalsely : Prop := qbitAsksRow.holds Tryd.pinned (OpenSpec.ofChange qbitAsksWrong)

/-- 'linnetlaw05.QbitMeets': WHATEVER THE INPUT: true; the input reads as it did. -/
def qbitMeetsSpec : ChangeSpec := { name := "qbitMeets", fn := fun _ => fun
  | [d] => { results := [.lit (.bool true)], args := [d] }
  | _ => none }
def qbitMeetsRow : OpenClaim := { program := "ytiohcdedndbbgaadoor", sum := "1baea04ea9d9c6b1e5bc245679c790c23402ba610636a8d6d68d143c6c920b36", func := "linnet/linnetlaw05.QbitMeets", spec := "qbitMeets", named := ["linnet/qbit.heard", "linnet/qbit.asked"], apart := false, laid := [("linnet/qbit.heard", laid_linnet_qbit_heard), ("linnet/qbit.asked", laid_linnet_qbit_asked)] }
def QbitMeetsSaid : Prop := qbitMeetsRow.holds Tryd.pinned (OpenSpec.ofChange qbitMeetsSpec)

/-- ITS FALSE NEIGHBOUR: 'it returns false'. Refute it at one input. -/
def qbitMeetsWrong : ChangeSpec := { name := "qbitMeets", fn := fun _ => fun
  | [d] => { results := [.lit (.bool false)], args := [d] }
  | _ => none }
def QbitMeetsWrongFalsely : Prop := qbitMeetsRow.holds Tryd.pinned (OpenSpec.ofChange qbitMeetsWrong)

/-- 'linnetlaw05.QbitAnswers': WHATEVER THE INPUT: true; the input reads as it did. -/
def qbitAnswersSpec : ChangeSpec := { name := "qbitAnswers", fn := fun _ => fun
  | [d1, d2, d3] => { results := [.lit (.bool true)], args := [d1, d2, d3] }
  | _ => none }
def qbitAnswersRow : OpenClaim := { program := "ytiohcdedndbbgaadoor", sum := "1baea04ea9d9c6b1e5bc245679c790c23402ba610636a8d6d68d143c6c920b36", func := "linnet/linnetlaw05.QbitAnswers", spec := "qbitAnswers", named := ["linnet/qbit.heard", "linnet/qbit.asked"], apart := false, laid := [("linnet/qbit.heard", laid_linnet_qbit_heard), ("linnet/qbit.asked", laid_linnet_qbit_asked)] }
def QbitAnswersSaid : Prop := qbitAnswersRow.holds Tryd.pinned (OpenSpec.ofChange qbitAnswersSpec)

/-- ITS FALSE NEIGHBOUR: 'it returns false'. Refute it at one input. -/
def qbitAnswersWrong : ChangeSpec := { name := "qbitAnswers", fn := fun _ => fun
  | [d1, d2, d3] => { results := [.lit (.bool false)], args := [d1, d2, d3] }
  | _ => none }
def QbitAnswersWrongFalsely : Prop := qbitAnswersRow.holds Tryd.pinned (OpenSpec.ofChange qbitAnswersWrong)

/-- 'linnetlaw05.QbitRow': WHATEVER THE INPUT: true; the input reads as it did. -/
def qbitRowSpec : ChangeSpec := { name := "qbitRow", fn := fun _ => fun
  | [d1, d2] => { results := [.lit (.bool true)], args := [d1, d2] }
  | _ => none }
def qbitRowRow : OpenClaim := { program := "ytiohcdedndbbgaadoor", sum := "1baea04ea9d9c6b1e5bc245679c790c23402ba610636a8d6d68d143c6c920b36", func := "linnet/linnetlaw05.QbitRow", spec := "qbitRow", named := ["linnet/qbit.heard", "linnet/qbit.asked"], apart := false, laid := [("linnet/qbit.heard", laid_linnet_qbit_heard), ("linnet/qbit.asked", laid_linnet_qbit_asked)] }
def QbitRowSaid : Prop := qbitRowRow.holds Tryd.pinned (OpenSpec.ofChange qbitRowSpec)

/-- ITS FALSE NEIGHBOUR: 'it returns false'. Refute it at one input. -/
def qbitRowWrong : ChangeSpec := { name := "qbitRow", fn := fun _ => fun
  | [d1, d2] => { results := [.lit (.bool false)], args := [d1, d2] }
  | _ => none }
def QbitRowWrongFalsely : Prop := qbitRowRow.holds Tryd.pinned (OpenSpec.ofChange qbitRowWrong)

/-- 'linnetlaw05.QbitLone': WHATEVER THE INPUT: true; the input reads as it did. -/
def qbitLoneSpec : ChangeSpec := { name := "qbitLone", fn := fun _ => fun
  | [d] => { results := [.lit (.bool true)], args := [d] }
  | _ => none }
def qbitLoneRow : OpenClaim := { program := "ytiohcdedndbbgaadoor", sum := "1baea04ea9d9c6b1e5bc245679c790c23402ba610636a8d6d68d143c6c920b36", func := "linnet/linnetlaw05.QbitLone", spec := "qbitLone", named := ["linnet/qbit.heard", "linnet/qbit.asked"], apart := false, laid := [("linnet/qbit.heard", laid_linnet_qbit_heard), ("linnet/qbit.asked", laid_linnet_qbit_asked)] }
def QbitLoneSaid : Prop := qbitLoneRow.holds Tryd.pinned (OpenSpec.ofChange qbitLoneSpec)

/-- ITS FALSE NEIGHBOUR: 'it returns false'. Refute it at one input. -/
def qbitLoneWrong : ChangeSpec := { name := "qbitLone", fn := fun _ => fun
  | [d] => { results := [.lit (.bool false)], args := [d] }
  | _ => none }
def QbitLoneWrongFalsely : Prop := qbitLoneRow.holds Tryd.pinned (OpenSpec.ofChange qbitLoneWrong)

/- THE SECOND FORM. 'bulk': how many values and letters a reading holds, each counted each time it is reached (what is shared counts as often as it is met; a slice's spare places count too). A statement '..UptoSaid' is the law's where the arguments, and the package variables that the reading takes, are together of bulk at most 1048576: NARROWER than '..Said'. Prove '..Said' where nothing that the law and all that it calls make is longer than what came in: it says more and counts as full. Else prove '..UptoSaid'. A law counts once. -/
mutual
def uptoBulk {H : Type} : DataW H → Nat
  | .lit (.string bytes) => bytes.length + 1
  | .lit _ => 1
  | .nil => 1
  | .ptr d => uptoBulk d + 1
  | .slice elems spare => uptoBulkAll elems + uptoBulkAll spare + 1
  | .agg parts => uptoBulkAll parts + 1
  | .iface _ d => uptoBulk d + 1
  | .map entries => uptoBulkEntries entries + 1
  | .held _ => 1
def uptoBulkAll {H : Type} : List (DataW H) → Nat
  | [] => 0
  | d :: r => uptoBulk d + uptoBulkAll r
def uptoBulkEntries {H : Type} : List (Lit × DataW H) → Nat
  | [] => 0
  | x :: r => uptoBulkEntry x + uptoBulkEntries r
def uptoBulkEntry {H : Type} : Lit × DataW H → Nat
  | (.string bytes, d) => bytes.length + uptoBulk d + 1
  | (_, d) => uptoBulk d + 1
 end
def uptoSmall : (H : Type) → List (DataW H) → Bool := fun _ ds => decide (uptoBulkAll ds ≤ 1048576)
def OpenSpec.upto (s : _root_.Go.ChangeSpec) : _root_.Go.OpenSpec := { _root_.Go.OpenSpec.ofChange s with cond := some uptoSmall }

/-- 'linnetlaw05.QbitTells', WHERE WHAT IT READS IS OF BULK AT MOST 1048576: true; the input reads as it did. -/
def qbitTellsUptoRow : OpenClaim := { program := "ytiohcdedndbbgaadoor", sum := "1baea04ea9d9c6b1e5bc245679c790c23402ba610636a8d6d68d143c6c920b36", func := "linnet/linnetlaw05.QbitTells", spec := "qbitTells", named := ["linnet/qbit.heard", "linnet/qbit.asked"], apart := false, laid := [("linnet/qbit.heard", laid_linnet_qbit_heard), ("linnet/qbit.asked", laid_linnet_qbit_asked)], narrowed := true }
def QbitTellsUptoSaid : Prop := qbitTellsUptoRow.holds Tryd.pinned (OpenSpec.upto qbitTellsSpec)

/-- 'linnetlaw05.QbitAsks', WHERE WHAT IT READS IS OF BULK AT MOST 1048576: true; the input reads as it did. -/
def qbitAsksUptoRow : OpenClaim := { program := "ytiohcdedndbbgaadoor", sum := "1baea04ea9d9c6b1e5bc245679c790c23402ba610636a8d6d68d143c6c920b36", func := "linnet/linnetlaw05.QbitAsks", spec := "qbitAsks", named := ["linnet/qbit.asked", "linnet/qbit.heard"], apart := false, laid := [("linnet/qbit.heard", laid_linnet_qbit_heard), ("linnet/qbit.asked", laid_linnet_qbit_asked)], narrowed := true }
def QbitAsksUptoSaid : Prop := qbitAsksUptoRow.holds Tryd.pinned (OpenSpec.upto qbitAsksSpec)

/-- 'linnetlaw05.QbitMeets', WHERE WHAT IT READS IS OF BULK AT MOST 1048576: true; the input reads as it did. -/
def qbitMeetsUptoRow : OpenClaim := { program := "ytiohcdedndbbgaadoor", sum := "1baea04ea9d9c6b1e5bc245679c790c23402ba610636a8d6d68d143c6c920b36", func := "linnet/linnetlaw05.QbitMeets", spec := "qbitMeets", named := ["linnet/qbit.heard", "linnet/qbit.asked"], apart := false, laid := [("linnet/qbit.heard", laid_linnet_qbit_heard), ("linnet/qbit.asked", laid_linnet_qbit_asked)], narrowed := true }
def QbitMeetsUptoSaid : Prop := qbitMeetsUptoRow.holds Tryd.pinned (OpenSpec.upto qbitMeetsSpec)

/-- 'linnetlaw05.QbitAnswers', WHERE WHAT IT READS IS OF BULK AT MOST 1048576: true; the input reads as it did. -/
def qbitAnswersUptoRow : OpenClaim := { program := "ytiohcdedndbbgaadoor", sum := "1baea04ea9d9c6b1e5bc245679c790c23402ba610636a8d6d68d143c6c920b36", func := "linnet/linnetlaw05.QbitAnswers", spec := "qbitAnswers", named := ["linnet/qbit.heard", "linnet/qbit.asked"], apart := false, laid := [("linnet/qbit.heard", laid_linnet_qbit_heard), ("linnet/qbit.asked", laid_linnet_qbit_asked)], narrowed := true }
def QbitAnswersUptoSaid : Prop := qbitAnswersUptoRow.holds Tryd.pinned (OpenSpec.upto qbitAnswersSpec)

/-- 'linnetlaw05.QbitRow', WHERE WHAT IT READS IS OF BULK AT MOST 1048576: true; the input reads as it did. -/
def qbitRowUptoRow : OpenClaim := { program := "ytiohcdedndbbgaadoor", sum := "1baea04ea9d9c6b1e5bc245679c790c23402ba610636a8d6d68d143c6c920b36", func := "linnet/linnetlaw05.QbitRow", spec := "qbitRow", named := ["linnet/qbit.heard", "linnet/qbit.asked"], apart := false, laid := [("linnet/qbit.heard", laid_linnet_qbit_heard), ("linnet/qbit.asked", laid_linnet_qbit_asked)], narrowed := true }
def QbitRowUptoSaid : Prop := qbitRowUptoRow.holds Tryd.pinned (OpenSpec.upto qbitRowSpec)

/-- 'linnetlaw05.QbitLone', WHERE WHAT IT READS IS OF BULK AT MOST 1048576: true; the input reads as it did. -/
def qbitLoneUptoRow : OpenClaim := { program := "ytiohcdedndbbgaadoor", sum := "1baea04ea9d9c6b1e5bc245679c790c23402ba610636a8d6d68d143c6c920b36", func := "linnet/linnetlaw05.QbitLone", spec := "qbitLone", named := ["linnet/qbit.heard", "linnet/qbit.asked"], apart := false, laid := [("linnet/qbit.heard", laid_linnet_qbit_heard), ("linnet/qbit.asked", laid_linnet_qbit_asked)], narrowed := true }
def QbitLoneUptoSaid : Prop := qbitLoneUptoRow.holds Tryd.pinned (OpenSpec.upto qbitLoneSpec)

end Rows
end Go.Proofs.YtiohcdedndbbgaaDoor
