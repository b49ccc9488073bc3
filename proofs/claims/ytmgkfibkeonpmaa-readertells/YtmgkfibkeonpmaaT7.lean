/-
  The chapter's examples: awake answers true.
-/
import Derived.Test.YtmgkfibkeonpmaaT6
import Derived.Lib.SlBytesConst
namespace Go.Proofs.Ytmgkfibkeonpmaa
open Go.RowKit

theorem ex_read1 : readD [13, 0, 10, 255, 1] = ([13, 10], 3) :=
  (((RI.start [13, 0, 10, 255, 1]).step (by decide) (by decide)).step (by decide) (by decide)).fin (.inr (by decide))
theorem ex_read2 : readD [13] = ([13], 1) :=
  ((RI.start [13]).step (by decide) (by decide)).fin (.inl (by decide))

theorem new_bk (w : World) (cs : Array Value) (l : List UInt8) (h : cs = (l.map bv).toArray) : Bk (w.alloc (.cells cs 5)) w.heap.size l := by
  subst h
  exact heap_alloc_new w _

theorem new_rd (w : World) (cs : Array Value) (l : List UInt8) (n : Nat) (h : cs = (l.map bv).toArray) (hn : l.length = n) (hl : n ≤ 1000) : Rd (w.alloc (.cells cs 5)) (w.alloc (.cells cs 5)).heap.size (some ⟨w.heap.size, 0, none⟩) l n :=
  (new_bk w cs l h).rdN hn (by omega)

theorem new_rdf (w : World) (l : List UInt8) (n : Nat) (fr : Nat × Nat) (hn : l.length = n) (hl : n ≤ 1000) : Rd (w.alloc (.cells (l.map bv).toArray 5 fr)) (w.alloc (.cells (l.map bv).toArray 5 fr)).heap.size (some ⟨w.heap.size, 0, none⟩) l n := by
  refine ⟨by omega, by unfold maxLen; omega, fun _ => ⟨_, rfl, by simp⟩, fun ad had j u hu => ?_⟩
  injection had with had
  subst had
  rw [add_lit0]
  have hj : ((l.map bv).toArray)[j]? = some (bv u) := by simp [hu]
  rw [← hj]
  exact cell_of_row _ _ j _ 5 fr (heap_alloc_new w _)

end Go.Proofs.Ytmgkfibkeonpmaa
