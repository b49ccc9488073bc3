/-
  The law AgreeTells, its three cases joined. No conditions beyond those each theorem states.
-/
import Derived.Test.YtjchkpnfdamgnaaL5a
import Derived.Test.YtjchkpnfdamgnaaL5b
import Derived.Test.YtjchkpnfdamgnaaL5c
namespace Go.Proofs.Ytjchkpnfdamgnaa
open Go.RowKit

theorem tells_law (X : Tb) (x : Tr) (U : Tb) (w : World) : Calls Try.prog 3 #[tv X, vt x, tv U] w fun e w' => e = .returned (.bool true) ∧ Below w.heap.size w w' := by
  cases hm : mayT X
  · exact tells_a X x U hm w
  · cases ht : mayTr x.f x.lv
    · exact tells_b X x U hm ht w
    · exact tells_c X x U hm ht w

end Go.Proofs.Ytjchkpnfdamgnaa
