/-
  DERIVED. GIVEN WITH THE SEED: THE CARDS: each row of YtiohcdedndbbgaaDoorRows.lean that lists a variable, with what it lists TIED to the program's text (the seventh form; the later family's looks); each row that meets fmt, with fmt's text TOLD by the authors' own Lean function (tested against real Go, not proved from fmt's source: count such statements apart). THE CARD IS WHAT COUNTS. Prove the row's statement (the work); the ties are given (YtiohcdedndbbgaaDoorTie.lean); close each card by the builder's one call (the guide's Derived/Test/ToyasCard.lean, 'card_holds'). Laid BY PROGRAM, IN A SANDBOX (cutbox-door.mjs). By AI agents, Wed Nov 11 2026. No macro, syntax, notation, axiom, sorry.
-/
import Derived.Test.YtiohcdedndbbgaaDoorRows
import GoSem.ClaimSeven
namespace Go.Proofs.YtiohcdedndbbgaaDoor
namespace Rows

/-- THE TIED CARD OF 'linnetlaw05.QbitTells'. -/
def qbitTellsCard : Claim7 := { stood := { row := qbitTellsRow, standIns := [], harness := (true, "f8828207418138c295aa3d6fc0dd52907b38cb059b53893c9fc9f6f518b920ab"), looks := false }, kinds := [], alts := [], laidByText := true, laidKinds := [.wider, .wider], laidTests := true, laidLooks := .later }
def QbitTellsCardSaid : Prop := Claim7.holds Tryd.pinned (.plain (OpenSpec.ofChange qbitTellsSpec)) qbitTellsCard

/-- THE TIED CARD OF 'linnetlaw05.QbitAsks'. -/
def qbitAsksCard : Claim7 := { stood := { row := qbitAsksRow, standIns := [], harness := (true, "f8828207418138c295aa3d6fc0dd52907b38cb059b53893c9fc9f6f518b920ab"), looks := false }, kinds := [], alts := [], laidByText := true, laidKinds := [.wider, .wider], laidTests := true, laidLooks := .later }
def QbitAsksCardSaid : Prop := Claim7.holds Tryd.pinned (.plain (OpenSpec.ofChange qbitAsksSpec)) qbitAsksCard

/-- THE TIED CARD OF 'linnetlaw05.QbitMeets'. -/
def qbitMeetsCard : Claim7 := { stood := { row := qbitMeetsRow, standIns := [], harness := (true, "f8828207418138c295aa3d6fc0dd52907b38cb059b53893c9fc9f6f518b920ab"), looks := false }, kinds := [], alts := [], laidByText := true, laidKinds := [.wider, .wider], laidTests := true, laidLooks := .later }
def QbitMeetsCardSaid : Prop := Claim7.holds Tryd.pinned (.plain (OpenSpec.ofChange qbitMeetsSpec)) qbitMeetsCard

/-- THE TIED CARD OF 'linnetlaw05.QbitAnswers'. -/
def qbitAnswersCard : Claim7 := { stood := { row := qbitAnswersRow, standIns := [], harness := (true, "f8828207418138c295aa3d6fc0dd52907b38cb059b53893c9fc9f6f518b920ab"), looks := false }, kinds := [], alts := [], laidByText := true, laidKinds := [.wider, .wider], laidTests := true, laidLooks := .later }
def QbitAnswersCardSaid : Prop := Claim7.holds Tryd.pinned (.plain (OpenSpec.ofChange qbitAnswersSpec)) qbitAnswersCard

/-- THE TIED CARD OF 'linnetlaw05.QbitRow'. -/
def qbitRowCard : Claim7 := { stood := { row := qbitRowRow, standIns := [], harness := (true, "f8828207418138c295aa3d6fc0dd52907b38cb059b53893c9fc9f6f518b920ab"), looks := false }, kinds := [], alts := [], laidByText := true, laidKinds := [.wider, .wider], laidTests := true, laidLooks := .later }
def QbitRowCardSaid : Prop := Claim7.holds Tryd.pinned (.plain (OpenSpec.ofChange qbitRowSpec)) qbitRowCard

/-- THE TIED CARD OF 'linnetlaw05.QbitLone'. -/
def qbitLoneCard : Claim7 := { stood := { row := qbitLoneRow, standIns := [], harness := (true, "f8828207418138c295aa3d6fc0dd52907b38cb059b53893c9fc9f6f518b920ab"), looks := false }, kinds := [], alts := [], laidByText := true, laidKinds := [.wider, .wider], laidTests := true, laidLooks := .later }
def QbitLoneCardSaid : Prop := Claim7.holds Tryd.pinned (.plain (OpenSpec.ofChange qbitLoneSpec)) qbitLoneCard

/-- THE SECOND FORM's CARD OF 'linnetlaw05.QbitTells'. -/
def qbitTellsUptoCard : Claim7 := { stood := { row := qbitTellsUptoRow, standIns := [], harness := (true, "f8828207418138c295aa3d6fc0dd52907b38cb059b53893c9fc9f6f518b920ab"), looks := false }, kinds := [], alts := [], laidByText := true, laidKinds := [.wider, .wider], laidTests := true, laidLooks := .later }
def QbitTellsUptoCardSaid : Prop := Claim7.holds Tryd.pinned (.plain (OpenSpec.upto qbitTellsSpec)) qbitTellsUptoCard

/-- THE SECOND FORM's CARD OF 'linnetlaw05.QbitAsks'. -/
def qbitAsksUptoCard : Claim7 := { stood := { row := qbitAsksUptoRow, standIns := [], harness := (true, "f8828207418138c295aa3d6fc0dd52907b38cb059b53893c9fc9f6f518b920ab"), looks := false }, kinds := [], alts := [], laidByText := true, laidKinds := [.wider, .wider], laidTests := true, laidLooks := .later }
def QbitAsksUptoCardSaid : Prop := Claim7.holds Tryd.pinned (.plain (OpenSpec.upto qbitAsksSpec)) qbitAsksUptoCard

/-- THE SECOND FORM's CARD OF 'linnetlaw05.QbitMeets'. -/
def qbitMeetsUptoCard : Claim7 := { stood := { row := qbitMeetsUptoRow, standIns := [], harness := (true, "f8828207418138c295aa3d6fc0dd52907b38cb059b53893c9fc9f6f518b920ab"), looks := false }, kinds := [], alts := [], laidByText := true, laidKinds := [.wider, .wider], laidTests := true, laidLooks := .later }
def QbitMeetsUptoCardSaid : Prop := Claim7.holds Tryd.pinned (.plain (OpenSpec.upto qbitMeetsSpec)) qbitMeetsUptoCard

/-- THE SECOND FORM's CARD OF 'linnetlaw05.QbitAnswers'. -/
def qbitAnswersUptoCard : Claim7 := { stood := { row := qbitAnswersUptoRow, standIns := [], harness := (true, "f8828207418138c295aa3d6fc0dd52907b38cb059b53893c9fc9f6f518b920ab"), looks := false }, kinds := [], alts := [], laidByText := true, laidKinds := [.wider, .wider], laidTests := true, laidLooks := .later }
def QbitAnswersUptoCardSaid : Prop := Claim7.holds Tryd.pinned (.plain (OpenSpec.upto qbitAnswersSpec)) qbitAnswersUptoCard

/-- THE SECOND FORM's CARD OF 'linnetlaw05.QbitRow'. -/
def qbitRowUptoCard : Claim7 := { stood := { row := qbitRowUptoRow, standIns := [], harness := (true, "f8828207418138c295aa3d6fc0dd52907b38cb059b53893c9fc9f6f518b920ab"), looks := false }, kinds := [], alts := [], laidByText := true, laidKinds := [.wider, .wider], laidTests := true, laidLooks := .later }
def QbitRowUptoCardSaid : Prop := Claim7.holds Tryd.pinned (.plain (OpenSpec.upto qbitRowSpec)) qbitRowUptoCard

/-- THE SECOND FORM's CARD OF 'linnetlaw05.QbitLone'. -/
def qbitLoneUptoCard : Claim7 := { stood := { row := qbitLoneUptoRow, standIns := [], harness := (true, "f8828207418138c295aa3d6fc0dd52907b38cb059b53893c9fc9f6f518b920ab"), looks := false }, kinds := [], alts := [], laidByText := true, laidKinds := [.wider, .wider], laidTests := true, laidLooks := .later }
def QbitLoneUptoCardSaid : Prop := Claim7.holds Tryd.pinned (.plain (OpenSpec.upto qbitLoneSpec)) qbitLoneUptoCard
end Rows
end Go.Proofs.YtiohcdedndbbgaaDoor
