/-
  All options of an end as a value; the contracts of New, Same, ours, his, sideOf, speaksOf, isYes.
-/
import Derived.Test.YtlgcfpdmklieiaaDoorT6
namespace Go.Proofs.YtlgcfpdmklieiaaDoor
open Go.RowKit

structure Four (α : Type) where
  a : α
  b : α
  c : α
  d : α

/-- All options of an end. -/
structure O where
  us : Four Int
  him : Four Int
  mu : Four Bool
  mh : Four Bool

/-- Its cells, one behind the other. -/
abbrev O.cs (X : O) : List Value := [.int .i64 X.us.a, .int .i64 X.us.b, .int .i64 X.us.c, .int .i64 X.us.d, .int .i64 X.him.a, .int .i64 X.him.b, .int .i64 X.him.c, .int .i64 X.him.d,
  .bool X.mu.a, .bool X.mu.b, .bool X.mu.c, .bool X.mu.d, .bool X.mh.a, .bool X.mh.b, .bool X.mh.c, .bool X.mh.d]
abbrev O.v (X : O) : Value := .agg #[.int .i64 X.us.a, .int .i64 X.us.b, .int .i64 X.us.c, .int .i64 X.us.d, .int .i64 X.him.a, .int .i64 X.him.b, .int .i64 X.him.c, .int .i64 X.him.d,
  .bool X.mu.a, .bool X.mu.b, .bool X.mu.c, .bool X.mu.d, .bool X.mh.a, .bool X.mh.b, .bool X.mh.c, .bool X.mh.d]

/-- A side: whose it is, where its options are, whether they may be, its verbs. -/
structure Sd where
  him : Bool
  at_ : Four Int
  may : Four Bool
  yes : Int
  no : Int

abbrev Sd.v (S : Sd) : Value := .agg #[.bool S.him, .int .i64 S.at_.a, .int .i64 S.at_.b, .int .i64 S.at_.c, .int .i64 S.at_.d, .bool S.may.a, .bool S.may.b, .bool S.may.c, .bool S.may.d, .int .i64 S.yes, .int .i64 S.no]
/-- An option of a side. -/
abbrev Sd.x (S : Sd) (p : Int) : Value := .agg #[.bool S.him, .int .i64 S.at_.a, .int .i64 S.at_.b, .int .i64 S.at_.c, .int .i64 S.at_.d, .bool S.may.a, .bool S.may.b, .bool S.may.c, .bool S.may.d, .int .i64 S.yes, .int .i64 S.no, .int .i64 p]

def sideF (X : O) (h : Bool) : Sd := match h with
  | true => ⟨true, X.him, X.mh, 253, 254⟩
  | false => ⟨false, X.us, X.mu, 251, 252⟩

theorem info25 : (Tryd.prog.info? 25).map (·.size) = some 16 := by kernel_rfl
theorem info67 : (Tryd.prog.info? 67).map (·.size) = some 11 := by kernel_rfl
theorem info73 : (Tryd.prog.info? 73).map (·.size) = some 12 := by kernel_rfl

theorem new2 (w : World) (o o' o'' : Obj) : (((w.alloc o).alloc o').alloc o'').heap[w.heap.size + 1 + 1]? = some o'' := by
  have := heap_alloc_new ((w.alloc o).alloc o') o''
  simpa using this

theorem new_any (m n : Four Bool) (w : World) : Calls Tryd.prog 12 #[.agg #[.bool m.a, .bool m.b, .bool m.c, .bool m.d], .agg #[.bool n.a, .bool n.b, .bool n.c, .bool n.d]] w fun e w' =>
    e = .returned (O.v ⟨⟨0, 0, 0, 0⟩, ⟨0, 0, 0, 0⟩, m, n⟩) ∧ Below w.heap.size w w' := by
  have B0 : ∀ o o' o'', Below w.heap.size w (((w.alloc o).alloc o').alloc o'') := fun o o' o'' => bAlloc (bAlloc (bAlloc (Below.refl _ _) o) o') o''
  go_enter Tryd.func12, Tryd.ntmps12
  go_wp2
  exact bodyPost_ret (v := O.v ⟨⟨0, 0, 0, 0⟩, ⟨0, 0, 0, 0⟩, m, n⟩) (results_cell_row Tryd.results12 _ _ (w.heap.size + 1 + 1) 25 _ (0, 0) _ rfl (new2 w _ _ _) Tryd.underlying25 rfl info25) rfl ⟨rfl, B0 _ _ _⟩

theorem ours_any (X : O) (w : World) : Calls Tryd.prog 23 #[X.v] w fun e w' => e = .returned (sideF X false).v ∧ Below w.heap.size w w' := by
  have B0 : ∀ o o', Below w.heap.size w ((w.alloc o).alloc o') := fun o o' => bAlloc (bAlloc (Below.refl _ _) o) o'
  go_enter Tryd.func23, Tryd.ntmps23
  go_wp2
  exact bodyPost_ret (v := (sideF X false).v) (results_cell_row Tryd.results23 _ _ (w.heap.size + 1) 67 _ (0, 0) _ rfl (heap_alloc2_new w _ _) Tryd.underlying67 rfl info67) rfl ⟨rfl, B0 _ _⟩

theorem his_any (X : O) (w : World) : Calls Tryd.prog 25 #[X.v] w fun e w' => e = .returned (sideF X true).v ∧ Below w.heap.size w w' := by
  have B0 : ∀ o o', Below w.heap.size w ((w.alloc o).alloc o') := fun o o' => bAlloc (bAlloc (Below.refl _ _) o) o'
  go_enter Tryd.func25, Tryd.ntmps25
  go_wp2
  exact bodyPost_ret (v := (sideF X true).v) (results_cell_row Tryd.results25 _ _ (w.heap.size + 1) 67 _ (0, 0) _ rfl (heap_alloc2_new w _ _) Tryd.underlying67 rfl info67) rfl ⟨rfl, B0 _ _⟩

theorem upAA {w w2 : World} {o o' : Obj} (hb : Below ((w.alloc o).alloc o').heap.size ((w.alloc o).alloc o') w2) : Below w.heap.size w w2 := upA (upA hb)

/-- A whole struct out of its block. -/
theorem ld67 {W : World} {b : Nat} {cs : List Value} (h : SR 67 W b cs) (hn : cs.length = 11) : (Instr.loadAt 67 (.pointer (some ⟨b, 0, none⟩))).run Tryd.prog W = .ok (.agg cs.toArray) W := by
  simp only [Instr.loadAt, Instr.sureAddr, Sem.run_bind, Sem.run_pure, Result.andThen]
  exact run_loadVar_row W b 67 67 _ (0, 0) _ h Tryd.underlying67 rfl (by rw [info67]; simp [hn])
/-- A whole struct into its block. -/
theorem st67 {W : World} {b : Nat} {cs : List Value} (h : SR 67 W b cs) (hn : cs.length = 11) (cs' : List Value) (hn' : cs'.length = 11) (h1 : cs'.toArray.all (·.oneCell') = true) : (Instr.storeAt 67 (.pointer (some ⟨b, 0, none⟩)) (.agg cs'.toArray)).run Tryd.prog W = .ok () (W.setRow b cs'.toArray) := by
  simp only [Instr.storeAt, Instr.sureAddr, Sem.run_bind, Sem.run_pure, Result.andThen]
  exact run_storeVar_row W b 67 67 _ _ h (by rw [info67]; simp [hn']) (by simp [hn, hn']) h1

theorem SR.row {t : TypeId} {W : World} {b : Nat} {cs : List Value} (h : SR t W b cs) (cs' : List Value) : SR t (W.setRow b cs'.toArray) b cs' := setRow_heap W b _ _ t _ h
theorem bRow {a w : World} {b : Nat} (h : Below a.heap.size a w) (hb : a.heap.size ≤ b) (cs : Array Value) : Below a.heap.size a (w.setRow b cs) :=
  ⟨h.os, h.tape, h.output, by simpa [World.setRow] using h.size, fun k hk => (setRow_other w b k cs (by omega)).trans (h.block k hk)⟩

abbrev Sd.cs (S : Sd) : List Value := [.bool S.him, .int .i64 S.at_.a, .int .i64 S.at_.b, .int .i64 S.at_.c, .int .i64 S.at_.d, .bool S.may.a, .bool S.may.b, .bool S.may.c, .bool S.may.d, .int .i64 S.yes, .int .i64 S.no]
abbrev Sd.xs (S : Sd) (p : Int) : List Value := [.bool S.him, .int .i64 S.at_.a, .int .i64 S.at_.b, .int .i64 S.at_.c, .int .i64 S.at_.d, .bool S.may.a, .bool S.may.b, .bool S.may.c, .bool S.may.d, .int .i64 S.yes, .int .i64 S.no, .int .i64 p]

end Go.Proofs.YtlgcfpdmklieiaaDoor
