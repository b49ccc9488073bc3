/-
  Two ends in memory, and what one of them just said.
-/
import Derived.Test.YtlgcfpdmklieiaaDoorN0
import Derived.Test.YtlgcfpdmklieiaaDoorU9
namespace Go.Proofs.YtlgcfpdmklieiaaDoor
open Go.RowKit

/-- Two ends, and a row of at most one item that was just answered. -/
structure MS (w : World) (P : List Value) (bO bT : Nat) (A B : O) (v0 v1 : Value) (s t : List (Int × Int)) (sl : Value) (L : List (Int × Int)) (W : World) : Prop where
  j : MJ w P bO bT A B v0 v1 s t W
  one : One W (bT + 1) sl L

/-- The cells of both ends, as one word. -/
def two (A B : O) : Array Value := (A.cs ++ B.cs).toArray
theorem get2_0 (A B : O) : get16 (two A B) 0 = A.cs.toArray := rfl
theorem get2_1 (A B : O) : get16 (two A B) 16 = B.cs.toArray := rfl
theorem put2_0 (A B X : O) : put16 (two A B) 0 X.cs.toArray = two X B := rfl
theorem put2_1 (A B X : O) : put16 (two A B) 16 X.cs.toArray = two A X := rfl
theorem rowOf_dr (W : World) (b : Nat) : rowOf W.drew b = rowOf W b := rfl
theorem isRow_dr (W : World) (t b n : Nat) : isRow W.drew t b n = isRow W t b n := rfl

/-- A cell of another block. -/
theorem cell_row_ne (W : World) {b g : Nat} (o : Nat) (h : b ≠ g) (cs : Array Value) : (W.setRow b cs).cell? ⟨g, o, none⟩ = W.cell? ⟨g, o, none⟩ := by
  simp only [World.cell?, setRow_other W b g cs (fun e => h e.symm)]

section
variable {w W : World} {P : List Value} {bO bT : Nat} {A B : O} {v0 v1 : Value} {s t : List (Int × Int)} {sl : Value} {L : List (Int × Int)}

theorem One.weak {base base' : Nat} (h : One W base sl L) (hb : base' ≤ base) : One W base' sl L := by
  rcases h with h | ⟨b, v, c, h1, h2, h3, h4⟩
  · exact .inl h
  · exact .inr ⟨b, v, c, h1, h2, Nat.le_trans hb h3, h4⟩

theorem MS.setO (h : MS w P bO bT A B v0 v1 s t sl L W) (A' B' : O) : MS w P bO bT A' B' v0 v1 s t sl L (W.setRow bO (A'.cs ++ B'.cs).toArray) := by
  have l2 := h.j.lt2
  refine ⟨h.j.setO A' B', ?_⟩
  rcases h.one with h1 | ⟨b, v, c, h1, h2, h3, h4⟩
  · exact .inl h1
  · exact .inr ⟨b, v, c, h1, h2, h3, (setRow_other W bO b _ (by omega)).trans h4⟩

theorem MS.set2 (h : MS w P bO bT A B v0 v1 s t sl L W) (A' B' : O) : MS w P bO bT A' B' v0 v1 s t sl L (W.setRow bO (two A' B')) := h.setO A' B'
theorem MJ.f2 (h : MJ w P bO bT A B v0 v1 s t W) : rowOf W bO = two A B ∧ isRow W 56 bO 32 = true := h.f

/-- The two rows' own places, behind a row's growing. -/
theorem MJ.tw_0 (h : MJ w P bO bT A B v0 v1 s t W) {W2 : World} (hg : W.grownBy W2 v0.ownBlock) : SR 57 W2 bT [v0, v1] :=
  (hg.block bT h.tw.lt (fun e => by have := (h.own0.ge bT e.symm).1; omega)).trans h.tw
theorem MJ.tw_1 (h : MJ w P bO bT A B v0 v1 s t W) {W2 : World} (hg : W.grownBy W2 v1.ownBlock) : SR 57 W2 bT [v0, v1] :=
  (hg.block bT h.tw.lt (fun e => by have := (h.own1.ge bT e.symm).1; omega)).trans h.tw
theorem MJ.same0 (h : MJ w P bO bT A B v0 v1 s t W) : MJ w P bO bT A B v0 v1 s t (W.setCell ⟨bT, 0, none⟩ v0) := h.setT0 (grown_self _ _) h.own0 fun _ e => .inl e
theorem MJ.same1 (h : MJ w P bO bT A B v0 v1 s t W) : MJ w P bO bT A B v0 v1 s t (W.setCell ⟨bT, 1, none⟩ v1) := h.setT1 (grown_self _ _) h.own1 fun _ e => .inl e
theorem hw_of {v v' : Value} {n : Nat} (h : v'.ownBlock = v.ownBlock ∨ v'.ownBlock = some n) : ∀ g, v'.ownBlock = some g → v.ownBlock = some g ∨ n ≤ g := by
  intro g hg
  rcases h with h | h
  · exact .inl (h ▸ hg)
  · rw [h] at hg
    exact .inr (by simpa using Nat.le_of_eq (Option.some.inj hg))

/-- What a call answered. -/
theorem MS.got (h : MJ w P bO bT A B v0 v1 s t W) {W' : World} (hb : Below W.heap.size W W') (ho : One W' W.heap.size sl L) : MS w P bO bT A B v0 v1 s t sl L W' :=
  ⟨h.call hb, ho.weak h.tw.lt⟩
theorem MS.drew (h : MS w P bO bT A B v0 v1 s t sl L W) : MS w P bO bT A B v0 v1 s t sl L W.drew := ⟨h.j.drew, h.one.below (Below.refl _ _).drew⟩
end

end Go.Proofs.YtlgcfpdmklieiaaDoor
