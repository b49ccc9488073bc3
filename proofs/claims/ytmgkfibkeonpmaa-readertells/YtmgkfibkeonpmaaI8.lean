/-
  A contract over the law's own Few, of items. No conditions beyond those the theorem states.
-/
import Derived.Test.YtmgkfibkeonpmaaI7
namespace Go.Proofs.Ytmgkfibkeonpmaa
open Go.RowKit

/-- An item with no more than 600 octets. -/
def cut6 (x : Itm) : Itm := { x with l := x.l.take 600 }
def fewI (L : List Itm) : List Itm := (L.take 40).map cut6

theorem fewI_len (L : List Itm) : (fewI L).length = min 40 L.length := by unfold fewI; rw [List.length_map, List.length_take]

def GotFewI (w : World) (L : List Itm) (e : Ending) (w' : World) : Prop :=
  ∃ A c, e = .returned (.slice A (fewI L).length c) ∧ RdI w' A (fewI L) c ∧ Below w.heap.size w w'

theorem ownI_grown {w w' : World} {base : Nat} {v : Value} {L : List Itm} (hown : OwnI w base v L) (hg : w.grownBy w' v.ownBlock) (hbase : base ≤ w.heap.size) : Below base w w' :=
  (Below.refl _ _).grown hg hbase (fun k hk => (hown.ge k hk).1)

theorem one_rdI2 (w : World) (o : Obj) (X : Itm) (hr : Rd w w.heap.size X.A X.l X.c) : RdI ((w.alloc o).alloc (.cells #[.int .i64 X.k, .int .i64 X.a, .int .i64 X.b, .slice X.A X.l.length X.c] 41)) (some ⟨w.heap.size + 1, 0, none⟩) [X] 1 := by
  have e : (w.alloc o).heap.size = w.heap.size + 1 := by simp
  have := one_rdI (w.alloc o) X (hr.at_ (bAlloc (Below.refl _ _) o))
  rw [show (⟨(w.alloc o).heap.size, 0, none⟩ : Addr) = ⟨w.heap.size + 1, 0, none⟩ by rw [e]] at this
  exact this

end Go.Proofs.Ytmgkfibkeonpmaa
