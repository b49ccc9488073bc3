/-
  The law OptsTells: what lies in its memory.
-/
import Derived.Test.YtlgcfpdmklieiaaDoorR4
import Derived.Deep.WholeRow
namespace Go.Proofs.YtlgcfpdmklieiaaDoor
open Go.RowKit
set_option maxRecDepth 100000

attribute [local go_sem ↓] ex_ld25 ex_ld67 ex_ld73 ex_st25 ex_st67 ex_st73 ex_eq25 ex_ne25 ex_ix22
attribute [local go_sem] ptrB_at okPtr_at aggC_at agg16 agg11 agg12 isO_at toO_at idx0 idx1 idx2 idx3 okIdx_at isRow_new World.setRow_alloc_new

/-- What lies in the law's memory. -/
structure TM (w : World) (X : O) (v c : Int) (hm on : Bool) (p : Int) (W : World) : Prop where
  x : SR 25 W w.heap.size X.cs
  v : SR 27 W (w.heap.size + 1) [.int .i64 v, .int .i64 c]
  k : SR 29 W (w.heap.size + 1 + 1) [.bool hm, .bool on, .int .i64 p]
  b : Below w.heap.size w W
section
variable {w W : World} {X : O} {v c : Int} {hm on : Bool} {p : Int}
theorem TM.call (h : TM w X v c hm on p W) {W' : World} (hb : Below W.heap.size W W') : TM w X v c hm on p W' :=
  ⟨h.x.call hb h.x.lt, h.v.call hb h.v.lt, h.k.call hb h.k.lt, bCall h.b hb⟩
theorem TM.drew (h : TM w X v c hm on p W) : TM w X v c hm on p W.drew := ⟨h.x, h.v, h.k, h.b.drew⟩
theorem TM.s (h : TM w X v c hm on p W) : rowOf W w.heap.size = X.cs.toArray ∧ isRow W 25 w.heap.size 16 = true ∧
    W.cell? ⟨w.heap.size, 8, none⟩ = some (.bool X.mu.a) ∧ W.cell? ⟨w.heap.size, 9, none⟩ = some (.bool X.mu.b) ∧ W.cell? ⟨w.heap.size, 10, none⟩ = some (.bool X.mu.c) ∧ W.cell? ⟨w.heap.size, 11, none⟩ = some (.bool X.mu.d) ∧
    W.cell? ⟨w.heap.size, 12, none⟩ = some (.bool X.mh.a) ∧ W.cell? ⟨w.heap.size, 13, none⟩ = some (.bool X.mh.b) ∧ W.cell? ⟨w.heap.size, 14, none⟩ = some (.bool X.mh.c) ∧ W.cell? ⟨w.heap.size, 15, none⟩ = some (.bool X.mh.d) ∧ TM w X v c hm on p W :=
  ⟨(h.x.facts 16 rfl).1, (h.x.facts 16 rfl).2, h.x.cell 8, h.x.cell 9, h.x.cell 10, h.x.cell 11, h.x.cell 12, h.x.cell 13, h.x.cell 14, h.x.cell 15, h⟩
end
theorem One.ans0 {W : World} {sl : Value} (h : One W 0 sl []) : sl = .slice none 0 0 := by
  rcases h with ⟨h1, _⟩ | ⟨_, _, _, _, h2, _⟩
  · exact h1
  · cases h2
theorem ok4 {v c : Int} (h : (vOk v && cOk c) = true) : decide (v < 251) = false ∧ decide (254 < v) = false ∧ decide (c < 0) = false ∧ decide (255 < c) = false := by
  unfold vOk cOk at h
  simp at h ⊢
  omega
theorem bad4 {v c : Int} (h : (vOk v && cOk c) = false) : decide (v < 251) = true ∨ (decide (v < 251) = false ∧ decide (254 < v) = true) ∨ (decide (v < 251) = false ∧ decide (254 < v) = false ∧ decide (c < 0) = true) ∨ (decide (v < 251) = false ∧ decide (254 < v) = false ∧ decide (c < 0) = false ∧ decide (255 < c) = true) := by
  unfold vOk cOk at h
  simp only [Bool.and_eq_false_iff, decide_eq_false_iff_not, decide_eq_true_eq] at h ⊢
  omega
theorem bad2 {p : Int} (h : pOk p = false) : decide (p < 0) = true ∨ (decide (p < 0) = false ∧ decide (3 < p) = true) := by
  unfold pOk at h
  simp only [decide_eq_false_iff_not, decide_eq_true_eq] at h ⊢
  omega
theorem sameR_ans {L : List (Int × Int)} {c : Int} (h : Ans L c) : sameR L L = true := by
  rcases h with rfl | ⟨u, rfl, _⟩
  · rfl
  · simp [sameR]

end Go.Proofs.YtlgcfpdmklieiaaDoor
