/-
  DERIVED. GIVEN WITH THE SEED: THE CARDS: each row of YtlgcfpdmklieiaaDoorRows.lean that lists a variable, with what it lists TIED to the program's text (the seventh form; the later family's looks); each row that meets fmt, with fmt's text TOLD by the authors' own Lean function (tested against real Go, not proved from fmt's source: count such statements apart). THE CARD IS WHAT COUNTS. Prove the row's statement (the work); the ties are given (YtlgcfpdmklieiaaDoorTie.lean); close each card by the builder's one call (the guide's Derived/Test/ToyasCard.lean, 'card_holds'). Laid BY PROGRAM, IN A SANDBOX (cutbox-door.mjs). By AI agents, Wed Nov 11 2026. No macro, syntax, notation, axiom, sorry.
-/
import Derived.Test.YtlgcfpdmklieiaaDoorRows
import GoSem.ClaimSeven
namespace Go.Proofs.YtlgcfpdmklieiaaDoor
namespace Rows

/-- THE TIED CARD OF 'linnetlaw06.OptsTells'. -/
def optsTellsCard : Claim7 := { stood := { row := optsTellsRow, standIns := [], harness := (true, "0291d221337e50928a273af7116dc9e9dd6e81a464f0f388566d7fe81af44d5a"), looks := false }, kinds := [], alts := [], laidByText := true, laidKinds := [.wider, .wider, .data], laidTests := true, laidLooks := .later }
def OptsTellsCardSaid : Prop := Claim7.holds Tryd.pinned (.plain (OpenSpec.ofChange optsTellsSpec)) optsTellsCard

/-- THE TIED CARD OF 'linnetlaw06.OptsAlone'. -/
def optsAloneCard : Claim7 := { stood := { row := optsAloneRow, standIns := [], harness := (true, "0291d221337e50928a273af7116dc9e9dd6e81a464f0f388566d7fe81af44d5a"), looks := false }, kinds := [], alts := [], laidByText := true, laidKinds := [.wider, .wider, .data], laidTests := true, laidLooks := .later }
def OptsAloneCardSaid : Prop := Claim7.holds Tryd.pinned (.plain (OpenSpec.ofChange optsAloneSpec)) optsAloneCard

/-- THE TIED CARD OF 'linnetlaw06.OptsMeets'. -/
def optsMeetsCard : Claim7 := { stood := { row := optsMeetsRow, standIns := [], harness := (true, "0291d221337e50928a273af7116dc9e9dd6e81a464f0f388566d7fe81af44d5a"), looks := false }, kinds := [], alts := [], laidByText := true, laidKinds := [.wider, .wider, .data], laidTests := true, laidLooks := .later }
def OptsMeetsCardSaid : Prop := Claim7.holds Tryd.pinned (.plain (OpenSpec.ofChange optsMeetsSpec)) optsMeetsCard

/-- THE TIED CARD OF 'linnetlaw06.OptsOthers'. -/
def optsOthersCard : Claim7 := { stood := { row := optsOthersRow, standIns := [], harness := (true, "0291d221337e50928a273af7116dc9e9dd6e81a464f0f388566d7fe81af44d5a"), looks := false }, kinds := [], alts := [], laidByText := true, laidKinds := [.wider, .data], laidTests := true, laidLooks := .later }
def OptsOthersCardSaid : Prop := Claim7.holds Tryd.pinned (.plain (OpenSpec.ofChange optsOthersSpec)) optsOthersCard

/-- THE TIED CARD OF 'linnetlaw06.OptsAsks'. -/
def optsAsksCard : Claim7 := { stood := { row := optsAsksRow, standIns := [], harness := (true, "0291d221337e50928a273af7116dc9e9dd6e81a464f0f388566d7fe81af44d5a"), looks := false }, kinds := [], alts := [], laidByText := true, laidKinds := [.wider, .wider, .data], laidTests := true, laidLooks := .later }
def OptsAsksCardSaid : Prop := Claim7.holds Tryd.pinned (.plain (OpenSpec.ofChange optsAsksSpec)) optsAsksCard

/-- THE SECOND FORM's CARD OF 'linnetlaw06.OptsTells'. -/
def optsTellsUptoCard : Claim7 := { stood := { row := optsTellsUptoRow, standIns := [], harness := (true, "0291d221337e50928a273af7116dc9e9dd6e81a464f0f388566d7fe81af44d5a"), looks := false }, kinds := [], alts := [], laidByText := true, laidKinds := [.wider, .wider, .data], laidTests := true, laidLooks := .later }
def OptsTellsUptoCardSaid : Prop := Claim7.holds Tryd.pinned (.plain (OpenSpec.upto optsTellsSpec)) optsTellsUptoCard

/-- THE SECOND FORM's CARD OF 'linnetlaw06.OptsAlone'. -/
def optsAloneUptoCard : Claim7 := { stood := { row := optsAloneUptoRow, standIns := [], harness := (true, "0291d221337e50928a273af7116dc9e9dd6e81a464f0f388566d7fe81af44d5a"), looks := false }, kinds := [], alts := [], laidByText := true, laidKinds := [.wider, .wider, .data], laidTests := true, laidLooks := .later }
def OptsAloneUptoCardSaid : Prop := Claim7.holds Tryd.pinned (.plain (OpenSpec.upto optsAloneSpec)) optsAloneUptoCard

/-- THE SECOND FORM's CARD OF 'linnetlaw06.OptsMeets'. -/
def optsMeetsUptoCard : Claim7 := { stood := { row := optsMeetsUptoRow, standIns := [], harness := (true, "0291d221337e50928a273af7116dc9e9dd6e81a464f0f388566d7fe81af44d5a"), looks := false }, kinds := [], alts := [], laidByText := true, laidKinds := [.wider, .wider, .data], laidTests := true, laidLooks := .later }
def OptsMeetsUptoCardSaid : Prop := Claim7.holds Tryd.pinned (.plain (OpenSpec.upto optsMeetsSpec)) optsMeetsUptoCard

/-- THE SECOND FORM's CARD OF 'linnetlaw06.OptsOthers'. -/
def optsOthersUptoCard : Claim7 := { stood := { row := optsOthersUptoRow, standIns := [], harness := (true, "0291d221337e50928a273af7116dc9e9dd6e81a464f0f388566d7fe81af44d5a"), looks := false }, kinds := [], alts := [], laidByText := true, laidKinds := [.wider, .data], laidTests := true, laidLooks := .later }
def OptsOthersUptoCardSaid : Prop := Claim7.holds Tryd.pinned (.plain (OpenSpec.upto optsOthersSpec)) optsOthersUptoCard

/-- THE SECOND FORM's CARD OF 'linnetlaw06.OptsAsks'. -/
def optsAsksUptoCard : Claim7 := { stood := { row := optsAsksUptoRow, standIns := [], harness := (true, "0291d221337e50928a273af7116dc9e9dd6e81a464f0f388566d7fe81af44d5a"), looks := false }, kinds := [], alts := [], laidByText := true, laidKinds := [.wider, .wider, .data], laidTests := true, laidLooks := .later }
def OptsAsksUptoCardSaid : Prop := Claim7.holds Tryd.pinned (.plain (OpenSpec.upto optsAsksSpec)) optsAsksUptoCard
end Rows
end Go.Proofs.YtlgcfpdmklieiaaDoor
