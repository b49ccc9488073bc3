/-
  Steps in memory. No conditions beyond those each theorem states.
-/
import Derived.Test.YtlfmbfecajhffaaDoorWords
namespace Go.Proofs.YtlfmbfecajhffaaDoor
open Go.RowKit
set_option maxRecDepth 100000

/-- A step: a key, how it is typed, and whether what there is is passed on ahead. -/
structure Sp where
  u : UInt8
  e : Bool
  f : Bool
  p : Bool
def Sp.cells (x : Sp) : List Value := [.int .u8 (x.u.toNat : Int), .bool x.e, .bool x.f, .bool x.p]
/-- A step at a place. -/
def AtS (w : World) (b off : Nat) (x : Sp) : Prop := w.cell? ⟨b, off, none⟩ = some (.int .u8 (x.u.toNat : Int)) ∧ w.cell? ⟨b, off + 1, none⟩ = some (.bool x.e) ∧ w.cell? ⟨b, off + 2, none⟩ = some (.bool x.f) ∧ w.cell? ⟨b, off + 3, none⟩ = some (.bool x.p)
theorem AtS.keep {w W : World} {b off : Nat} {x : Sp} {B : Nat} (h : AtS w b off x) (hb : Below B w W) (hB : b < B) : AtS W b off x :=
  ⟨(hb.cell (p := ⟨b, _, none⟩) hB).trans h.1, (hb.cell (p := ⟨b, _, none⟩) hB).trans h.2.1, (hb.cell (p := ⟨b, _, none⟩) hB).trans h.2.2.1, (hb.cell (p := ⟨b, _, none⟩) hB).trans h.2.2.2⟩
/-- The slice value 'slice A L.length c' reads as the steps L. -/
def RdS (w : World) (A : Option Addr) (L : List Sp) (c : Nat) : Prop :=
  L.length ≤ c ∧ c ≤ maxLen ∧ (L ≠ [] → ∃ b off, A = some ⟨b, off, none⟩ ∧ b < w.heap.size ∧ ∀ (i : Nat) (x : Sp), L[i]? = some x → AtS w b (off + i * 4) x)
theorem RdS.at_ {w W : World} {A : Option Addr} {L : List Sp} {c : Nat} (h : RdS w A L c) (hb : Below w.heap.size w W) : RdS W A L c := by
  refine ⟨h.1, h.2.1, fun hne => ?_⟩
  obtain ⟨b, off, e, hlt, hce⟩ := h.2.2 hne
  exact ⟨b, off, e, Nat.lt_of_lt_of_le hlt hb.size, fun i x hi => (hce i x hi).keep hb hlt⟩
theorem RdS.nil (w : World) : RdS w none [] 0 := ⟨by simp, by simp, fun h => absurd rfl h⟩

end Go.Proofs.YtlfmbfecajhffaaDoor
