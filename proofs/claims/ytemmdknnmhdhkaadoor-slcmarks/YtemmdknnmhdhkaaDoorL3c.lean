/-
  The law SlcMarks. No conditions beyond those each theorem states.
-/
import Derived.Test.YtemmdknnmhdhkaaDoorL3a
import Derived.Test.YtemmdknnmhdhkaaDoorL3b
namespace Go.Proofs.YtemmdknnmhdhkaaDoor
open Go.RowKit

theorem marks_law (X : Tr) (m : UInt8) (w : World) (hL : Laid w) :
    Calls Tryd.prog 6 #[.agg #[.int .i64 X.f, .int .i64 X.lv, .bool X.a, .bool X.i, .bool X.o, .int .u8 (X.v.toNat : Int)], .int .u8 (m.toNat : Int)] w
      fun e w' => e = .returned (.bool true) ∧ Below w.heap.size w w' := by
  cases hs : isS m
  · exact marks_no X m hs w hL
  · exact marks_yes X m hs w hL

end Go.Proofs.YtemmdknnmhdhkaaDoor
