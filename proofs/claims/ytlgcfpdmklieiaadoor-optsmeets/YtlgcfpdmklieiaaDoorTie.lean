/-
  DERIVED. GIVEN WITH THE SEED: THE PROGRAM's TIES (one call each: nine closed facts by the kernel) AND EACH ROW's TIE, after the 31st guide's Derived/Test/Toyas{Tie, Card}.lean. No idea stands in it: it is a product of the set-up. Laid BY PROGRAM, IN A SANDBOX (cutbox-door.mjs). By AI agents, Wed Nov 11 2026. No macro, syntax, notation, axiom, sorry.
-/
import Derived.Test.YtlgcfpdmklieiaaDoorRows
import Derived.LaidByTextLater
import Derived.SevenTiedAt
import Derived.LaidSub
import Derived.LaidOnce
namespace Go.Proofs.YtlgcfpdmklieiaaDoor
open Go
set_option maxRecDepth 100000
theorem seatTie1 : Tryd.prog.laidByTextLater [("linnet/qbit.heard", Rows.laid_linnet_qbit_heard), ("linnet/qbit.asked", Rows.laid_linnet_qbit_asked), ("linnet/opts.codes", Rows.laid_linnet_opts_codes)] [.wider, .wider, .data] true :=
  Program.laidByTextLater_by_one 60 8 37 (by kernel_rfl) (by kernel_rfl) (by kernel_rfl) (by kernel_rfl) (by kernel_rfl) (by kernel_rfl) (fun _ _ => by kernel_rfl)
theorem noOwnUnsafe : Tryd.pinned.checked.prog.headLifts.contains "ownunsafe" = false := by kernel_rfl
theorem tie : Tryd.prog.laidByTextLater [("linnet/qbit.heard", Rows.laid_linnet_qbit_heard), ("linnet/qbit.asked", Rows.laid_linnet_qbit_asked), ("linnet/opts.codes", Rows.laid_linnet_opts_codes)] [.wider, .wider, .data] true :=
  Program.laidByTextLater.sub seatTie1 ["linnet/qbit.heard", "linnet/qbit.asked", "linnet/opts.codes"] (by kernel_rfl) (by kernel_rfl)
theorem optsTells_row_tie : Rows.optsTellsRow.laidByTextAt .later Tryd.pinned [.wider, .wider, .data] true :=
  OpenClaim.laidByTextAt_later rfl rfl tie noOwnUnsafe
theorem optsAlone_row_tie : Rows.optsAloneRow.laidByTextAt .later Tryd.pinned [.wider, .wider, .data] true :=
  OpenClaim.laidByTextAt_later rfl rfl tie noOwnUnsafe
theorem optsMeets_row_tie : Rows.optsMeetsRow.laidByTextAt .later Tryd.pinned [.wider, .wider, .data] true :=
  OpenClaim.laidByTextAt_later rfl rfl tie noOwnUnsafe
theorem optsAsks_row_tie : Rows.optsAsksRow.laidByTextAt .later Tryd.pinned [.wider, .wider, .data] true :=
  OpenClaim.laidByTextAt_later rfl rfl tie noOwnUnsafe
theorem tie2 : Tryd.prog.laidByTextLater [("linnet/qbit.heard", Rows.laid_linnet_qbit_heard), ("linnet/opts.codes", Rows.laid_linnet_opts_codes)] [.wider, .data] true :=
  Program.laidByTextLater.sub seatTie1 ["linnet/qbit.heard", "linnet/opts.codes"] (by kernel_rfl) (by kernel_rfl)
theorem optsOthers_row_tie : Rows.optsOthersRow.laidByTextAt .later Tryd.pinned [.wider, .data] true :=
  OpenClaim.laidByTextAt_later rfl rfl tie2 noOwnUnsafe
theorem optsTellsUpto_row_tie : Rows.optsTellsUptoRow.laidByTextAt .later Tryd.pinned [.wider, .wider, .data] true :=
  OpenClaim.laidByTextAt_later rfl rfl tie noOwnUnsafe
theorem optsAloneUpto_row_tie : Rows.optsAloneUptoRow.laidByTextAt .later Tryd.pinned [.wider, .wider, .data] true :=
  OpenClaim.laidByTextAt_later rfl rfl tie noOwnUnsafe
theorem optsMeetsUpto_row_tie : Rows.optsMeetsUptoRow.laidByTextAt .later Tryd.pinned [.wider, .wider, .data] true :=
  OpenClaim.laidByTextAt_later rfl rfl tie noOwnUnsafe
theorem optsOthersUpto_row_tie : Rows.optsOthersUptoRow.laidByTextAt .later Tryd.pinned [.wider, .data] true :=
  OpenClaim.laidByTextAt_later rfl rfl tie2 noOwnUnsafe
theorem optsAsksUpto_row_tie : Rows.optsAsksUptoRow.laidByTextAt .later Tryd.pinned [.wider, .wider, .data] true :=
  OpenClaim.laidByTextAt_later rfl rfl tie noOwnUnsafe
end Go.Proofs.YtlgcfpdmklieiaaDoor
