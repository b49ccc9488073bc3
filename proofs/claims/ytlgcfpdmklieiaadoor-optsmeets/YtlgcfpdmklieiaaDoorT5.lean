/-
  Got and Ask with their answers named; the chapter's examples (awake).
-/
import Derived.Test.YtlgcfpdmklieiaaDoorT4
namespace Go.Proofs.YtlgcfpdmklieiaaDoor
open Go.RowKit

theorem got_at (q : Int) (y m : Bool) (a b c : Int) (h : gF q y m = (a, b, c)) (w : World) (hL : Laid w) :
    Calls Tryd.prog 30 #[.int .i64 q, .bool y, .bool m] w fun e w' => e = .returned (.tuple #[.int .i64 a, .int .i64 b, .int .i64 c]) ∧ Below w.heap.size w w' := by
  have := got_any q y m w hL
  rw [h] at this
  exact this

theorem ask_at (q : Int) (y : Bool) (a b c : Int) (h : aF q y = (a, b, c)) (w : World) (hL : LaidA w) :
    Calls Tryd.prog 37 #[.int .i64 q, .bool y] w fun e w' => e = .returned (.tuple #[.int .i64 a, .int .i64 b, .int .i64 c]) ∧ Below w.heap.size w w' := by
  have := ask_any q y w hL
  rw [h] at this
  exact this

end Go.Proofs.YtlgcfpdmklieiaaDoor
