/-
  The law OptsTells, walked.
-/
import Derived.Test.YtlgcfpdmklieiaaDoorS2a
import Derived.Test.YtlgcfpdmklieiaaDoorS2b0
import Derived.Test.YtlgcfpdmklieiaaDoorS2b1
import Derived.Test.YtlgcfpdmklieiaaDoorS2b2
import Derived.Test.YtlgcfpdmklieiaaDoorS2b3
import Derived.Test.YtlgcfpdmklieiaaDoorS2c
import Derived.Test.YtlgcfpdmklieiaaDoorS2d0
import Derived.Test.YtlgcfpdmklieiaaDoorS2d1
import Derived.Test.YtlgcfpdmklieiaaDoorS2d2
import Derived.Test.YtlgcfpdmklieiaaDoorS2d3
namespace Go.Proofs.YtlgcfpdmklieiaaDoor
open Go.RowKit

theorem tells_law (X : O) (v c : Int) (hm on : Bool) (p : Int) (w : World) (hL : LaidA w) : Calls Tryd.prog 3 #[X.v, .agg #[.int .i64 v, .int .i64 c], .agg #[.bool hm, .bool on, .int .i64 p]] w fun e w' => e = .returned (.bool true) ∧ Below w.heap.size w w' := by
  cases hk : plK c <;> cases hh : okO X
  · exact tells_ff X v c hm on p hk hh w hL
  · cases h1 : (vOk v && cOk c) <;> cases h2 : pOk p
    · exact tells_ft00 X v c hm on p hk hh h1 h2 w hL
    · exact tells_ft01 X v c hm on p hk hh h1 h2 w hL
    · exact tells_ft10 X v c hm on p hk hh h1 h2 w hL
    · exact tells_ft11 X v c hm on p hk hh h1 h2 w hL
  · exact tells_tf X v c hm on p hk hh w hL
  · cases h1 : (vOk v && cOk c) <;> cases h2 : pOk p
    · exact tells_tt00 X v c hm on p hk hh h1 h2 w hL
    · exact tells_tt01 X v c hm on p hk hh h1 h2 w hL
    · exact tells_tt10 X v c hm on p hk hh h1 h2 w hL
    · exact tells_tt11 X v c hm on p hk hh h1 h2 w hL

end Go.Proofs.YtlgcfpdmklieiaaDoor
