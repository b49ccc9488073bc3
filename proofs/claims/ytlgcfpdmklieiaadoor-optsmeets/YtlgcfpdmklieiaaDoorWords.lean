/-
  Words for memory: what stays behind new blocks, stores and calls; a struct's or an array's block; the tables of the program, as cells.
-/
import Derived.Test.YtlgcfpdmklieiaaDoorRows
import Derived.WalkKit
import Derived.WalkSpells
import Derived.WalkLawsBesides
import Derived.Laws.CopyOwn
import Derived.Laws.AppendOwnNone
import Derived.Maps.AppendAt
import Derived.Deep.RegionHeld3
import Derived.Deep.RegionWith
import Derived.Deep.RegionLaw
import Derived.Deep.DeepCutAuto
import Derived.Deep.QuietTactic
import Derived.BigQuiet
namespace Go.Proofs.YtlgcfpdmklieiaaDoor
open Go.RowKit

theorem keepd {p : Prop} (h : p) : Hid p := h

theorem blk_add (a : Addr) (n : Nat) : (a.add n).block = a.block := by unfold Addr.add; split <;> rfl
theorem add_add (a : Addr) (i j : Nat) : (a.add i).add j = a.add (i + j) := by
  unfold Addr.add
  by_cases hi : i = 0 <;> by_cases hj : j = 0 <;> simp [hi, hj, Nat.add_assoc]

theorem row_alloc {w : World} {g : Nat} {o o' : Obj} (h : w.heap[g]? = some o) : (w.alloc o').heap[g]? = some o :=
  (Below.heap_alloc w o' g (Array.getElem?_eq_some_iff.1 h).1).trans h
theorem row_set (w : World) (b i : Nat) (u : Value) (cs : Array Value) (t : TypeId) (h : w.heap[b]? = some (.cells cs t (0, 0))) : (w.setCell ⟨b, i, none⟩ u).heap[b]? = some (.cells (cs.setIfInBounds i u) t (0, 0)) := by
  simp [World.setCell, Array.getElem?_modify, h]

theorem bAlloc {a w : World} (h : Below a.heap.size a w) (o : Obj) : Below a.heap.size a (w.alloc o) := h.alloc h.size o
theorem bCall {a w w2 : World} (h : Below a.heap.size a w) (hb : Below w.heap.size w w2) : Below a.heap.size a w2 := h.trans (hb.mono h.size)
theorem bDrewN {a w : World} (h : Below a.heap.size a w) (n : Nat) : Below a.heap.size a (w.drewN n) := ⟨h.os, h.tape, h.output, h.size, h.block⟩
theorem upA {w1 w2 : World} {o : Obj} (hb : Below (w1.alloc o).heap.size (w1.alloc o) w2) : Below w1.heap.size w1 w2 :=
  ((Below.refl _ _).alloc (Nat.le_refl _) _).trans (hb.mono (by simp))
theorem noDrew {W w9 : World} (h : Below W.drew.heap.size W.drew w9) : Below W.heap.size W w9 := ⟨h.os, h.tape, h.output, h.size, h.block⟩
theorem bSet {a w : World} {b i : Nat} (h : Below a.heap.size a w) (hb : a.heap.size ≤ b) (u : Value) : Below a.heap.size a (w.setCell ⟨b, i, none⟩ u) := h.setCell (p := ⟨b, i, none⟩) hb u

/-- Block b is a struct (type t) of one-cell fields cs. -/
def SR (t : TypeId) (w : World) (b : Nat) (cs : List Value) : Prop := w.heap[b]? = some (.cells cs.toArray t (0, 0))
theorem SR.lt {t : TypeId} {w : World} {b : Nat} {cs : List Value} (h : SR t w b cs) : b < w.heap.size := (Array.getElem?_eq_some_iff.1 h).1
theorem SR.new (t : TypeId) (w : World) (cs : List Value) : SR t (w.alloc (.cells cs.toArray t)) w.heap.size cs := heap_alloc_new w _
theorem SR.call {t : TypeId} {W W' : World} {b B : Nat} {cs : List Value} (h : SR t W b cs) (hb : Below B W W') (hB : b < B) : SR t W' b cs := (hb.block b hB).trans h
theorem SR.alloc {t : TypeId} {W : World} {b : Nat} {cs : List Value} (h : SR t W b cs) (o : Obj) : SR t (W.alloc o) b cs := row_alloc h
theorem SR.cell {t : TypeId} {W : World} {b : Nat} {cs : List Value} (h : SR t W b cs) (i : Nat) : W.cell? ⟨b, i, none⟩ = cs[i]? := by
  rw [cell_of_row W b i _ t (0, 0) h]
  simp
theorem SR.frozen {t : TypeId} {W : World} {b : Nat} {cs : List Value} (h : SR t W b cs) (i : Nat) : W.frozen? ⟨b, i, none⟩ = false := by
  unfold SR at h
  simp [World.frozen?, h]
theorem SR.set {t : TypeId} {W : World} {b : Nat} {cs : List Value} (h : SR t W b cs) (i : Nat) (u : Value) : SR t (W.setCell ⟨b, i, none⟩ u) b (cs.set i u) := by
  have := row_set W b i u _ t h
  unfold SR
  rw [this]
  simp
theorem SR.far {t : TypeId} {W : World} {b : Nat} {cs : List Value} (h : SR t W b cs) {p : Addr} (hp : b ≠ p.block) (u : Value) : SR t (W.setCell p u) b cs := (Below.heap_setCell W p u b hp).trans h

/-- A row of a table: what comes of yes, or on (three numbers), and of no, or off. -/
abbrev Six := Int × Int × Int × Int × Int × Int

/-- The table 'heard', by where it is. -/
def heardR : List Six := [(1, 1, 0, 0, 0, 0), (1, 0, 0, 0, 2, 0), (0, 0, 5, 0, 0, 0), (1, 0, 5, 4, 1, 0), (1, 0, 0, 0, 0, 0), (2, 2, 0, 0, 0, 0)]
/-- The table 'asked', by where it is. -/
def askedR : List Six := [(4, 1, 0, 0, 0, 5), (1, 0, 5, 2, 2, 0), (3, 0, 0, 2, 0, 5), (3, 0, 5, 2, 0, 0), (4, 0, 5, 5, 0, 0), (4, 0, 0, 5, 0, 5)]

/-- Block g holds the table r, six cells a row. -/
def TabAt (w : World) (g : Nat) (r : List Six) : Prop := ∀ i x, r[i]? = some x →
  w.cell? ⟨g, i * 6, none⟩ = some (.int .i64 x.1) ∧ w.cell? ⟨g, i * 6 + 1, none⟩ = some (.int .i64 x.2.1) ∧ w.cell? ⟨g, i * 6 + 2, none⟩ = some (.int .i64 x.2.2.1) ∧
  w.cell? ⟨g, i * 6 + 3, none⟩ = some (.int .i64 x.2.2.2.1) ∧ w.cell? ⟨g, i * 6 + 4, none⟩ = some (.int .i64 x.2.2.2.2.1) ∧ w.cell? ⟨g, i * 6 + 5, none⟩ = some (.int .i64 x.2.2.2.2.2)

/-- Block 0 holds the codes of the options that are kept. -/
def CodesAt (w : World) : Prop := w.cell? ⟨0, 0, none⟩ = some (.int .i64 0) ∧ w.cell? ⟨0, 1, none⟩ = some (.int .i64 1) ∧ w.cell? ⟨0, 2, none⟩ = some (.int .i64 3) ∧ w.cell? ⟨0, 3, none⟩ = some (.int .i64 34)

/-- The codes and the table 'heard' lie as the program lays them. -/
def Laid (w : World) : Prop := TabAt w 2 heardR ∧ CodesAt w ∧ 3 ≤ w.heap.size

/-- The table 'asked' lies so, too. -/
def LaidA (w : World) : Prop := Laid w ∧ TabAt w 1 askedR

theorem TabAt.below {w w' : World} {B g : Nat} {r : List Six} (h : TabAt w g r) (hb : Below B w w') (hg : g < B) : TabAt w' g r := by
  intro i x hx
  obtain ⟨h0, h1, h2, h3, h4, h5⟩ := h i x hx
  exact ⟨(hb.cell (p := ⟨g, _, none⟩) hg).trans h0, (hb.cell (p := ⟨g, _, none⟩) hg).trans h1, (hb.cell (p := ⟨g, _, none⟩) hg).trans h2, (hb.cell (p := ⟨g, _, none⟩) hg).trans h3, (hb.cell (p := ⟨g, _, none⟩) hg).trans h4, (hb.cell (p := ⟨g, _, none⟩) hg).trans h5⟩

theorem CodesAt.below {w w' : World} {B : Nat} (h : CodesAt w) (hb : Below B w w') (hg : 0 < B) : CodesAt w' :=
  ⟨(hb.cell (p := ⟨0, _, none⟩) hg).trans h.1, (hb.cell (p := ⟨0, _, none⟩) hg).trans h.2.1, (hb.cell (p := ⟨0, _, none⟩) hg).trans h.2.2.1, (hb.cell (p := ⟨0, _, none⟩) hg).trans h.2.2.2⟩

theorem Laid.below {w w' : World} (h : Laid w) (hb : Below w.heap.size w w') : Laid w' :=
  ⟨h.1.below hb (Nat.lt_of_lt_of_le (by decide) h.2.2), h.2.1.below hb (Nat.lt_of_lt_of_le (by decide) h.2.2), Nat.le_trans h.2.2 hb.size⟩

theorem LaidA.below {w w' : World} (h : LaidA w) (hb : Below w.heap.size w w') : LaidA w' :=
  ⟨h.1.below hb, h.2.below hb (Nat.lt_of_lt_of_le (by decide) h.1.2.2)⟩

theorem Laid.alloc {w : World} (h : Laid w) (o : Obj) : Laid (w.alloc o) := h.below (bAlloc (Below.refl _ _) o)
theorem LaidA.alloc {w : World} (h : LaidA w) (o : Obj) : LaidA (w.alloc o) := h.below (bAlloc (Below.refl _ _) o)

end Go.Proofs.YtlgcfpdmklieiaaDoor
