/-
  The law OptsAlone, walked.
-/
import Derived.Test.YtlgcfpdmklieiaaDoorL2c
import Derived.Test.YtlgcfpdmklieiaaDoorL2d
import Derived.Test.YtlgcfpdmklieiaaDoorL2e
import Derived.Test.YtlgcfpdmklieiaaDoorL2f
namespace Go.Proofs.YtlgcfpdmklieiaaDoor
open Go.RowKit

theorem alone_law (X : O) (v c : Int) (hm on : Bool) (p : Int) (w : World) (hL : LaidA w) : Calls Tryd.prog 4 #[X.v, .agg #[.int .i64 v, .int .i64 c], .agg #[.bool hm, .bool on, .int .i64 p]] w fun e w' => e = .returned (.bool true) ∧ Below w.heap.size w w' := by
  cases h : okO X
  · exact alone_bad X v c hm on p h w hL
  · have a1 := (got_only X v c h).2
    have a2 := (ask_only X hm p on h).2
    obtain ⟨⟨Y, L, k⟩, z1⟩ : ∃ Z, gotF X v c = Z := ⟨_, rfl⟩
    obtain ⟨⟨Z, M, kk⟩, z2⟩ : ∃ Z, askF X hm p on = Z := ⟨_, rfl⟩
    rw [z1] at a1
    rw [z2] at a2
    rcases a1 with rfl | ⟨u, rfl, ol⟩ <;> rcases a2 with rfl | ⟨u', rfl, om⟩
    · exact alone_nn X v c hm on p h Y Z k kk z1 z2 w hL
    · exact alone_no X v c hm on p h Y Z k kk u' om z1 z2 w hL
    · exact alone_on X v c hm on p h Y Z k kk u ol z1 z2 w hL
    · exact alone_oo X v c hm on p h Y Z k kk u ol u' om z1 z2 w hL

end Go.Proofs.YtlgcfpdmklieiaaDoor
