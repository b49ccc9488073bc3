/-
  Two sides in memory: the pair, whether each lets it be, where each has it, and what is under way to each; how that changes.
-/
import Derived.Test.YtiohcdedndbbgaaDoorM2
import Derived.Test.YtiohcdedndbbgaaDoorOpenL
namespace Go.Proofs.YtiohcdedndbbgaaDoor
open Go.RowKit

/-- What lies in the world wr, behind the world w in which the law began. -/
structure MJ (w wr : World) (a b : Bool) (A : Option Addr) (n c : Nat) (x0 x1 : Int) (A0 : Option Addr) (n0 c0 : Nat) (l0 : List Bool) (A1 : Option Addr) (n1 c1 : Nat) (l1 : List Bool) : Prop where
  bel : Below w.heap.size w wr
  pr : SR 36 wr w.heap.size [.bool a, .bool b, .slice A n c]
  may : SR 37 wr (w.heap.size + 1) [.bool a, .bool b]
  pl : SR 38 wr (w.heap.size + 2) [.int .i64 x0, .int .i64 x1]
  tw : SR 40 wr (w.heap.size + 3) [.slice A0 n0 c0, .slice A1 n1 c1]
  own0 : OwnQ wr (w.heap.size + 4) (.slice A0 n0 c0) l0
  own1 : OwnQ wr (w.heap.size + 4) (.slice A1 n1 c1) l1
  len0 : n0 = l0.length
  len1 : n1 = l1.length
  apart : ∀ g, (Value.slice A0 n0 c0).ownBlock = some g → (Value.slice A1 n1 c1).ownBlock ≠ some g

section
variable {w wr : World} {a b : Bool} {A : Option Addr} {n c : Nat} {x0 x1 : Int} {A0 : Option Addr} {n0 c0 : Nat} {l0 : List Bool} {A1 : Option Addr} {n1 c1 : Nat} {l1 : List Bool}

theorem MJ.size (h : MJ w wr a b A n c x0 x1 A0 n0 c0 l0 A1 n1 c1 l1) : w.heap.size + 4 ≤ wr.heap.size := h.tw.lt

theorem MJ.facts (h : MJ w wr a b A n c x0 x1 A0 n0 c0 l0 A1 n1 c1 l1) :
    (wr.cell? ⟨w.heap.size, 0, none⟩ = some (.bool a) ∧ wr.cell? ⟨w.heap.size, 1, none⟩ = some (.bool b) ∧ wr.cell? ⟨w.heap.size, 2, none⟩ = some (.slice A n c)) ∧
    (wr.cell? ⟨w.heap.size + 1, 0, none⟩ = some (.bool a) ∧ wr.cell? ⟨w.heap.size + 1, 1, none⟩ = some (.bool b)) ∧
    (wr.cell? ⟨w.heap.size + 2, 0, none⟩ = some (.int .i64 x0) ∧ wr.cell? ⟨w.heap.size + 2, 1, none⟩ = some (.int .i64 x1)) ∧
    (wr.cell? ⟨w.heap.size + 3, 0, none⟩ = some (.slice A0 n0 c0) ∧ wr.cell? ⟨w.heap.size + 3, 1, none⟩ = some (.slice A1 n1 c1)) ∧
    (wr.frozen? ⟨w.heap.size + 2, 0, none⟩ = false ∧ wr.frozen? ⟨w.heap.size + 2, 1, none⟩ = false) ∧
    (wr.frozen? ⟨w.heap.size + 3, 0, none⟩ = false ∧ wr.frozen? ⟨w.heap.size + 3, 1, none⟩ = false) :=
  ⟨⟨h.pr.cell 0, h.pr.cell 1, h.pr.cell 2⟩, ⟨h.may.cell 0, h.may.cell 1⟩, ⟨h.pl.cell 0, h.pl.cell 1⟩, ⟨h.tw.cell 0, h.tw.cell 1⟩, ⟨h.pl.frozen 0, h.pl.frozen 1⟩, ⟨h.tw.frozen 0, h.tw.frozen 1⟩⟩

theorem MJ.call (h : MJ w wr a b A n c x0 x1 A0 n0 c0 l0 A1 n1 c1 l1) {w2 : World} (hb : Below wr.heap.size wr w2) : MJ w w2 a b A n c x0 x1 A0 n0 c0 l0 A1 n1 c1 l1 :=
  ⟨bCall h.bel hb, h.pr.call hb h.pr.lt, h.may.call hb h.may.lt, h.pl.call hb h.pl.lt, h.tw.call hb h.tw.lt, h.own0.below hb, h.own1.below hb, h.len0, h.len1, h.apart⟩

theorem own_set {v : Value} {l : List Bool} {base k i : Nat} (h : OwnQ wr base v l) (hk : k < base) (u : Value) : OwnQ (wr.setCell ⟨k, i, none⟩ u) base v l :=
  h.keep fun g hg => Below.heap_setCell wr ⟨k, i, none⟩ u g (fun e => by have := (h.ge g hg).1; simp only at e; omega)

theorem MJ.setX0 (h : MJ w wr a b A n c x0 x1 A0 n0 c0 l0 A1 n1 c1 l1) (z : Int) : MJ w (wr.setCell ⟨w.heap.size + 2, 0, none⟩ (.int .i64 z)) a b A n c z x1 A0 n0 c0 l0 A1 n1 c1 l1 :=
  ⟨bSet h.bel (by omega) _, h.pr.far (by simp) _, h.may.far (by simp) _, h.pl.set 0 _, h.tw.far (by simp) _, own_set h.own0 (by omega) _, own_set h.own1 (by omega) _, h.len0, h.len1, h.apart⟩

theorem MJ.setX1 (h : MJ w wr a b A n c x0 x1 A0 n0 c0 l0 A1 n1 c1 l1) (z : Int) : MJ w (wr.setCell ⟨w.heap.size + 2, 1, none⟩ (.int .i64 z)) a b A n c x0 z A0 n0 c0 l0 A1 n1 c1 l1 :=
  ⟨bSet h.bel (by omega) _, h.pr.far (by simp) _, h.may.far (by simp) _, h.pl.set 1 _, h.tw.far (by simp) _, own_set h.own0 (by omega) _, own_set h.own1 (by omega) _, h.len0, h.len1, h.apart⟩

/-- Another row to side 0, in the world w2, which differs from wr in that row's block alone, and in new ones. -/
theorem MJ.setT0 (h : MJ w wr a b A n c x0 x1 A0 n0 c0 l0 A1 n1 c1 l1) {w2 : World} {A' : Option Addr} {n' c' : Nat} {l' : List Bool} (hg : wr.grownBy w2 (Value.slice A0 n0 c0).ownBlock) (ho : OwnQ w2 (w.heap.size + 4) (.slice A' n' c') l') (hl : n' = l'.length)
    (hw : ∀ g, (Value.slice A' n' c').ownBlock = some g → (Value.slice A0 n0 c0).ownBlock = some g ∨ wr.heap.size ≤ g) : MJ w (w2.setCell ⟨w.heap.size + 3, 0, none⟩ (.slice A' n' c')) a b A n c x0 x1 A' n' c' l' A1 n1 c1 l1 := by
  have hk : ∀ k, k < wr.heap.size → (k < w.heap.size + 4 ∨ (Value.slice A1 n1 c1).ownBlock = some k) → w2.heap[k]? = wr.heap[k]? := by
    intro k hk hor
    refine hg.block k hk (fun e => ?_)
    rcases hor with hlt | e1
    · have := (h.own0.ge k e.symm).1
      omega
    · exact h.apart k e.symm e1
  have hs := h.size
  have hb : Below w.heap.size w w2 := h.bel.grown hg (Nat.le_trans (by omega) hs) (fun k hk' => by have := (h.own0.ge k hk').1; omega)
  have o1 : OwnQ w2 (w.heap.size + 4) (.slice A1 n1 c1) l1 := h.own1.keep fun g hg' => hk g (h.own1.ge g hg').2 (.inr hg')
  have s0 : SR 36 w2 w.heap.size [.bool a, .bool b, .slice A n c] := (hk _ (by omega) (.inl (by omega))).trans h.pr
  have s1 : SR 37 w2 (w.heap.size + 1) [.bool a, .bool b] := (hk _ (by omega) (.inl (by omega))).trans h.may
  have s2 : SR 38 w2 (w.heap.size + 2) [.int .i64 x0, .int .i64 x1] := (hk _ (by omega) (.inl (by omega))).trans h.pl
  have s3 : SR 40 w2 (w.heap.size + 3) [.slice A0 n0 c0, .slice A1 n1 c1] := (hk _ (by omega) (.inl (by omega))).trans h.tw
  refine ⟨bSet hb (by omega) _, s0.far (by simp) _, s1.far (by simp) _, s2.far (by simp) _, s3.set 0 _, own_set ho (by omega) _, own_set o1 (by omega) _, hl, h.len1, fun g hg' e => ?_⟩
  rcases hw g hg' with e0 | hlt
  · exact h.apart g e0 e
  · have := (h.own1.ge g e).2
    omega

theorem MJ.setT1 (h : MJ w wr a b A n c x0 x1 A0 n0 c0 l0 A1 n1 c1 l1) {w2 : World} {A' : Option Addr} {n' c' : Nat} {l' : List Bool} (hg : wr.grownBy w2 (Value.slice A1 n1 c1).ownBlock) (ho : OwnQ w2 (w.heap.size + 4) (.slice A' n' c') l') (hl : n' = l'.length)
    (hw : ∀ g, (Value.slice A' n' c').ownBlock = some g → (Value.slice A1 n1 c1).ownBlock = some g ∨ wr.heap.size ≤ g) : MJ w (w2.setCell ⟨w.heap.size + 3, 1, none⟩ (.slice A' n' c')) a b A n c x0 x1 A0 n0 c0 l0 A' n' c' l' := by
  have hk : ∀ k, k < wr.heap.size → (k < w.heap.size + 4 ∨ (Value.slice A0 n0 c0).ownBlock = some k) → w2.heap[k]? = wr.heap[k]? := by
    intro k hk hor
    refine hg.block k hk (fun e => ?_)
    rcases hor with hlt | e1
    · have := (h.own1.ge k e.symm).1
      omega
    · exact h.apart k e1 e.symm
  have hs := h.size
  have hb : Below w.heap.size w w2 := h.bel.grown hg (Nat.le_trans (by omega) hs) (fun k hk' => by have := (h.own1.ge k hk').1; omega)
  have o0 : OwnQ w2 (w.heap.size + 4) (.slice A0 n0 c0) l0 := h.own0.keep fun g hg' => hk g (h.own0.ge g hg').2 (.inr hg')
  have s0 : SR 36 w2 w.heap.size [.bool a, .bool b, .slice A n c] := (hk _ (by omega) (.inl (by omega))).trans h.pr
  have s1 : SR 37 w2 (w.heap.size + 1) [.bool a, .bool b] := (hk _ (by omega) (.inl (by omega))).trans h.may
  have s2 : SR 38 w2 (w.heap.size + 2) [.int .i64 x0, .int .i64 x1] := (hk _ (by omega) (.inl (by omega))).trans h.pl
  have s3 : SR 40 w2 (w.heap.size + 3) [.slice A0 n0 c0, .slice A1 n1 c1] := (hk _ (by omega) (.inl (by omega))).trans h.tw
  refine ⟨bSet hb (by omega) _, s0.far (by simp) _, s1.far (by simp) _, s2.far (by simp) _, s3.set 1 _, own_set o0 (by omega) _, own_set ho (by omega) _, h.len0, hl, fun g hg' e => ?_⟩
  rcases hw g e with e0 | hlt
  · exact h.apart g hg' e0
  · have := (h.own0.ge g hg').2
    omega

theorem grown_self (w : World) (row : Option Nat) : w.grownBy w row := ⟨rfl, rfl, rfl, Nat.le_refl _, fun _ _ _ => rfl⟩

/-- The first of what is under way to side 0: where it lies; and without it. -/
theorem MJ.pop0 {y : Bool} {r : List Bool} (h : MJ w wr a b A n c x0 x1 A0 n0 c0 (y :: r) A1 n1 c1 l1) :
    ∃ g off, A0 = some ⟨g, off, none⟩ ∧ n0 = r.length + 1 ∧ r.length + 1 ≤ c0 ∧ c0 ≤ maxLen ∧ wr.cell? ⟨g, off, none⟩ = some (.bool y) ∧ ∃ A' c', (if c0 = 1 then some ⟨g, off, none⟩ else (some (⟨g, off, none⟩ : Addr)).map (·.add 1)) = A' ∧ c0 - 1 = c' ∧
      MJ w (wr.setCell ⟨w.heap.size + 3, 0, none⟩ (.slice A' r.length c')) a b A n c x0 x1 A' r.length c' r A1 n1 c1 l1 := by
  obtain ⟨g, off, cc, e, h1, h2, _, _, hc, ho⟩ := h.own0.head
  injection e with e1 e2 e3
  subst e1 e2 e3
  refine ⟨g, off, rfl, rfl, h1, h2, hc, _, _, rfl, rfl, h.setT0 (grown_self _ _) ho rfl fun g' hg' => .inl ?_⟩
  have : (Value.slice (if c0 = 1 then some ⟨g, off, none⟩ else (some (⟨g, off, none⟩ : Addr)).map (·.add 1)) r.length (c0 - 1)).ownBlock = some g := by
    split <;> simp [Value.ownBlock, Addr.add]
  rw [this] at hg'
  exact hg'

theorem MJ.pop1 {y : Bool} {r : List Bool} (h : MJ w wr a b A n c x0 x1 A0 n0 c0 l0 A1 n1 c1 (y :: r)) :
    ∃ g off, A1 = some ⟨g, off, none⟩ ∧ n1 = r.length + 1 ∧ r.length + 1 ≤ c1 ∧ c1 ≤ maxLen ∧ wr.cell? ⟨g, off, none⟩ = some (.bool y) ∧ ∃ A' c', (if c1 = 1 then some ⟨g, off, none⟩ else (some (⟨g, off, none⟩ : Addr)).map (·.add 1)) = A' ∧ c1 - 1 = c' ∧
      MJ w (wr.setCell ⟨w.heap.size + 3, 1, none⟩ (.slice A' r.length c')) a b A n c x0 x1 A0 n0 c0 l0 A' r.length c' r := by
  obtain ⟨g, off, cc, e, h1, h2, _, _, hc, ho⟩ := h.own1.head
  injection e with e1 e2 e3
  subst e1 e2 e3
  refine ⟨g, off, rfl, rfl, h1, h2, hc, _, _, rfl, rfl, h.setT1 (grown_self _ _) ho rfl fun g' hg' => .inl ?_⟩
  have : (Value.slice (if c1 = 1 then some ⟨g, off, none⟩ else (some (⟨g, off, none⟩ : Addr)).map (·.add 1)) r.length (c1 - 1)).ownBlock = some g := by
    split <;> simp [Value.ownBlock, Addr.add]
  rw [this] at hg'
  exact hg'
end

end Go.Proofs.YtiohcdedndbbgaaDoor
