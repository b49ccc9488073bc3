/-
  Two ends in memory: what lies there, and its changes.
-/
import Derived.Test.YtlgcfpdmklieiaaDoorM6
namespace Go.Proofs.YtlgcfpdmklieiaaDoor
open Go.RowKit

/-- What lies in the law's memory: the pair that came in, both ends, what is under way to each. -/
structure MJ (w : World) (P : List Value) (bO bT : Nat) (A B : O) (v0 v1 : Value) (s t : List (Int × Int)) (W : World) : Prop where
  pr : SR 55 W w.heap.size P
  o : SR 56 W bO (A.cs ++ B.cs)
  tw : SR 57 W bT [v0, v1]
  own0 : OwnT W (bT + 1) v0 s
  own1 : OwnT W (bT + 1) v1 t
  apart : ∀ g, v0.ownBlock = some g → v1.ownBlock ≠ some g
  lt1 : w.heap.size < bO
  lt2 : bO < bT
  bel : Below w.heap.size w W

section
variable {w W : World} {P : List Value} {bO bT : Nat} {A B : O} {v0 v1 : Value} {s t : List (Int × Int)}

theorem MJ.call (h : MJ w P bO bT A B v0 v1 s t W) {W' : World} (hb : Below W.heap.size W W') : MJ w P bO bT A B v0 v1 s t W' :=
  ⟨h.pr.call hb h.pr.lt, h.o.call hb h.o.lt, h.tw.call hb h.tw.lt, h.own0.below hb, h.own1.below hb, h.apart, h.lt1, h.lt2, bCall h.bel hb⟩
theorem MJ.drew (h : MJ w P bO bT A B v0 v1 s t W) : MJ w P bO bT A B v0 v1 s t W.drew := ⟨h.pr, h.o, h.tw, h.own0, h.own1, h.apart, h.lt1, h.lt2, h.bel.drew⟩
theorem MJ.drewN (h : MJ w P bO bT A B v0 v1 s t W) (n : Nat) : MJ w P bO bT A B v0 v1 s t (W.drewN n) := ⟨h.pr, h.o, h.tw, h.own0, h.own1, h.apart, h.lt1, h.lt2, bDrewN h.bel n⟩
theorem MJ.f (h : MJ w P bO bT A B v0 v1 s t W) : rowOf W bO = (A.cs ++ B.cs).toArray ∧ isRow W 56 bO 32 = true := h.o.facts 32 rfl
theorem MJ.ft (h : MJ w P bO bT A B v0 v1 s t W) : (W.cell? ⟨bT, 0, none⟩ = some v0 ∧ W.cell? ⟨bT, 1, none⟩ = some v1) ∧ W.frozen? ⟨bT, 0, none⟩ = false ∧ W.frozen? ⟨bT, 1, none⟩ = false :=
  ⟨⟨h.tw.cell 0, h.tw.cell 1⟩, h.tw.frozen 0, h.tw.frozen 1⟩

theorem own_row {v : Value} {l : List (Int × Int)} {base k : Nat} (h : OwnT W base v l) (hk : k < base) (cs : Array Value) : OwnT (W.setRow k cs) base v l :=
  h.keep fun g hg => setRow_other W k g cs (by have := (h.ge g hg).1; omega)
theorem own_set {v : Value} {l : List (Int × Int)} {base k i : Nat} (h : OwnT W base v l) (hk : k < base) (u : Value) : OwnT (W.setCell ⟨k, i, none⟩ u) base v l :=
  h.keep fun g hg => Below.heap_setCell W ⟨k, i, none⟩ u g (fun e => by have := (h.ge g hg).1; simp only at e; omega)

/-- Another row for both ends. -/
theorem MJ.setO (h : MJ w P bO bT A B v0 v1 s t W) (A' B' : O) : MJ w P bO bT A' B' v0 v1 s t (W.setRow bO (A'.cs ++ B'.cs).toArray) := by
  have l1 := h.lt1
  have l2 := h.lt2
  exact ⟨(setRow_other W bO _ _ (by omega)).trans h.pr, h.o.row _, (setRow_other W bO _ _ (by omega)).trans h.tw, own_row h.own0 (by omega) _, own_row h.own1 (by omega) _, h.apart, l1, l2, bRow h.bel (by omega) _⟩

/-- Another row to the first end, in the world W2, which differs from W in that row's block alone, and in new ones. -/
theorem MJ.setT0 (h : MJ w P bO bT A B v0 v1 s t W) {W2 : World} {v' : Value} {s' : List (Int × Int)} (hg : W.grownBy W2 v0.ownBlock) (ho : OwnT W2 (bT + 1) v' s')
    (hw : ∀ g, v'.ownBlock = some g → v0.ownBlock = some g ∨ W.heap.size ≤ g) : MJ w P bO bT A B v' v1 s' t (W2.setCell ⟨bT, 0, none⟩ v') := by
  have l1 := h.lt1
  have l2 := h.lt2
  have l3 := h.tw.lt
  have hk : ∀ k, k < W.heap.size → (k < bT + 1 ∨ v1.ownBlock = some k) → W2.heap[k]? = W.heap[k]? := by
    intro k hk hor
    refine hg.block k hk (fun e => ?_)
    rcases hor with hlt | e1
    · have := (h.own0.ge k e.symm).1
      omega
    · exact h.apart k e.symm e1
  have hb : Below w.heap.size w W2 := h.bel.grown hg (by omega) (fun k hk' => by have := (h.own0.ge k hk').1; omega)
  have o1 : OwnT W2 (bT + 1) v1 t := h.own1.keep fun g hg' => hk g (h.own1.ge g hg').2 (.inr hg')
  have s0 : SR 55 W2 w.heap.size P := (hk _ (by omega) (.inl (by omega))).trans h.pr
  have s1 : SR 56 W2 bO (A.cs ++ B.cs) := (hk _ (by omega) (.inl (by omega))).trans h.o
  have s2 : SR 57 W2 bT [v0, v1] := (hk _ (by omega) (.inl (by omega))).trans h.tw
  refine ⟨s0.far (by simp; omega) _, s1.far (by simp; omega) _, s2.set 0 _, own_set ho (by omega) _, own_set o1 (by omega) _, fun g hg' e => ?_, l1, l2, bSet hb (by omega) _⟩
  rcases hw g hg' with e0 | hlt
  · exact h.apart g e0 e
  · have := (h.own1.ge g e).2
    omega

theorem MJ.setT1 (h : MJ w P bO bT A B v0 v1 s t W) {W2 : World} {v' : Value} {t' : List (Int × Int)} (hg : W.grownBy W2 v1.ownBlock) (ho : OwnT W2 (bT + 1) v' t')
    (hw : ∀ g, v'.ownBlock = some g → v1.ownBlock = some g ∨ W.heap.size ≤ g) : MJ w P bO bT A B v0 v' s t' (W2.setCell ⟨bT, 1, none⟩ v') := by
  have l1 := h.lt1
  have l2 := h.lt2
  have l3 := h.tw.lt
  have hk : ∀ k, k < W.heap.size → (k < bT + 1 ∨ v0.ownBlock = some k) → W2.heap[k]? = W.heap[k]? := by
    intro k hk hor
    refine hg.block k hk (fun e => ?_)
    rcases hor with hlt | e1
    · have := (h.own1.ge k e.symm).1
      omega
    · exact h.apart k e1 e.symm
  have hb : Below w.heap.size w W2 := h.bel.grown hg (by omega) (fun k hk' => by have := (h.own1.ge k hk').1; omega)
  have o0 : OwnT W2 (bT + 1) v0 s := h.own0.keep fun g hg' => hk g (h.own0.ge g hg').2 (.inr hg')
  have s0 : SR 55 W2 w.heap.size P := (hk _ (by omega) (.inl (by omega))).trans h.pr
  have s1 : SR 56 W2 bO (A.cs ++ B.cs) := (hk _ (by omega) (.inl (by omega))).trans h.o
  have s2 : SR 57 W2 bT [v0, v1] := (hk _ (by omega) (.inl (by omega))).trans h.tw
  refine ⟨s0.far (by simp; omega) _, s1.far (by simp; omega) _, s2.set 1 _, own_set o0 (by omega) _, own_set ho (by omega) _, fun g hg' e => ?_, l1, l2, bSet hb (by omega) _⟩
  rcases hw g e with e0 | hlt
  · exact h.apart g hg' e0
  · have := (h.own0.ge g hg').2
    omega

theorem grown_self (w : World) (row : Option Nat) : w.grownBy w row := ⟨rfl, rfl, rfl, Nat.le_refl _, fun _ _ _ => rfl⟩

/-- The first of what is under way: where it lies, and without it. -/
theorem MJ.pop0 {x : Int × Int} (h : MJ w P bO bT A B v0 v1 (x :: s) t W) :
    ∃ g off c, v0 = .slice (some ⟨g, off, none⟩) (s.length + 1) c ∧ s.length + 1 ≤ c ∧ c ≤ maxLen ∧
      (W.cell? ⟨g, off, none⟩ = some (.int .i64 3) ∧ W.cell? ⟨g, off + 1, none⟩ = some (.int .i64 x.1) ∧ W.cell? ⟨g, off + 2, none⟩ = some (.int .i64 x.2) ∧ W.cell? ⟨g, off + 3, none⟩ = some (.slice none 0 0)) ∧
      ∃ A' c', (if c = 1 then some ⟨g, off, none⟩ else (some (⟨g, off, none⟩ : Addr)).map (·.add 4)) = A' ∧ c - 1 = c' ∧ g < W.heap.size ∧ MJ w P bO bT A B (.slice A' s.length c') v1 s t (W.setCell ⟨bT, 0, none⟩ (.slice A' s.length c')) := by
  obtain ⟨g, off, cc, e, h1, h2, _, hlt, hc, ho⟩ := h.own0.head
  subst e
  refine ⟨g, off, cc, rfl, h1, h2, hc, _, _, rfl, rfl, hlt, h.setT0 (grown_self _ _) ho fun g' hg' => .inl ?_⟩
  have : (Value.slice (if cc = 1 then some ⟨g, off, none⟩ else (some (⟨g, off, none⟩ : Addr)).map (·.add 4)) s.length (cc - 1)).ownBlock = some g := by
    split <;> simp [Value.ownBlock, Addr.add]
  rw [this] at hg'
  exact hg'

theorem MJ.pop1 {x : Int × Int} (h : MJ w P bO bT A B v0 v1 s (x :: t) W) :
    ∃ g off c, v1 = .slice (some ⟨g, off, none⟩) (t.length + 1) c ∧ t.length + 1 ≤ c ∧ c ≤ maxLen ∧
      (W.cell? ⟨g, off, none⟩ = some (.int .i64 3) ∧ W.cell? ⟨g, off + 1, none⟩ = some (.int .i64 x.1) ∧ W.cell? ⟨g, off + 2, none⟩ = some (.int .i64 x.2) ∧ W.cell? ⟨g, off + 3, none⟩ = some (.slice none 0 0)) ∧
      ∃ A' c', (if c = 1 then some ⟨g, off, none⟩ else (some (⟨g, off, none⟩ : Addr)).map (·.add 4)) = A' ∧ c - 1 = c' ∧ g < W.heap.size ∧ MJ w P bO bT A B v0 (.slice A' t.length c') s t (W.setCell ⟨bT, 1, none⟩ (.slice A' t.length c')) := by
  obtain ⟨g, off, cc, e, h1, h2, _, hlt, hc, ho⟩ := h.own1.head
  subst e
  refine ⟨g, off, cc, rfl, h1, h2, hc, _, _, rfl, rfl, hlt, h.setT1 (grown_self _ _) ho fun g' hg' => .inl ?_⟩
  have : (Value.slice (if cc = 1 then some ⟨g, off, none⟩ else (some (⟨g, off, none⟩ : Addr)).map (·.add 4)) t.length (cc - 1)).ownBlock = some g := by
    split <;> simp [Value.ownBlock, Addr.add]
  rw [this] at hg'
  exact hg'
end

end Go.Proofs.YtlgcfpdmklieiaaDoor
