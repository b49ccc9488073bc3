/-
  The contracts of nvt.Lay, nvt.Size and nvt.Plain.
-/
import Derived.Test.YtmgkfibkeonpmaaT5
namespace Go.Proofs.Ytmgkfibkeonpmaa
open Go.RowKit

/-- Lay's closure: the octets L lie in an owned row, which the variable in block p holds. -/
def LayI (W : World) (p : Nat) (K : List (Nat × Obj)) (L : List UInt8) (w : World) : Prop :=
  ∃ A c, w.heap[p]? = some (.cells #[.slice A L.length c] 22 (0, 0)) ∧ Own w W.heap.size (.slice A L.length c) L ∧ (Value.slice A L.length c).ownBlock ≠ some p ∧
    (∀ (k : Nat) (o : Obj), (k, o) ∈ K → w.heap[k]? = some o ∧ k ≠ p ∧ (Value.slice A L.length c).ownBlock ≠ some k) ∧ Below W.heap.size W w ∧ W.heap.size ≤ p

theorem app_below' {W w w' : World} {v : Value} {l : List UInt8} (h : Below W.heap.size W w) (hown : Own w W.heap.size v l) (hg : w.grownBy w' v.ownBlock) (hz : W.heap.size ≤ w.heap.size) : Below W.heap.size W w' :=
  h.trans (grown_below hown hg hz)

theorem layI_put {W w w' : World} {p : Nat} {K : List (Nat × Obj)} {L L' : List UInt8} {A A' : Option Addr} {c c' : Nat} {o : Obj}
    (hp : w.heap[p]? = some (.cells #[.slice A L.length c] 22 (0, 0))) (hw : Own w W.heap.size (.slice A L.length c) L) (hn : (Value.slice A L.length c).ownBlock ≠ some p)
    (hK : ∀ (k : Nat) (o : Obj), (k, o) ∈ K → w.heap[k]? = some o ∧ k ≠ p ∧ (Value.slice A L.length c).ownBlock ≠ some k) (hb : Below W.heap.size W w) (hWp : W.heap.size ≤ p)
    (ho : Own w' W.heap.size (.slice A' L'.length c') L') (hg : (w.alloc o).grownBy w' (Value.slice A L.length c).ownBlock)
    (hat : (Value.slice A' L'.length c').ownBlock = (Value.slice A L.length c).ownBlock ∨ (Value.slice A' L'.length c').ownBlock = some (w.heap.size + 1)) :
    LayI W p K L' (w'.setCell ⟨p, 0, none⟩ (.slice A' L'.length c')) := by
  have hlt : p < w.heap.size := lt_of_block hp
  have hsz : (w.alloc o).heap.size = w.heap.size + 1 := by simp
  have hp' : w'.heap[p]? = some (.cells #[.slice A L.length c] 22 (0, 0)) := (hg.block p (by omega) (fun e => hn e.symm)).trans (row_alloc hp)
  have hn' : (Value.slice A' L'.length c').ownBlock ≠ some p := by
    rcases hat with e | e
    · rw [e]; exact hn
    · rw [e]; intro e2; injection e2 with e2; omega
  refine ⟨A', c', one_setCell hp', ho.setOne hn' _, hn', fun k o' hk => ?_, (app_below' (bAl (Nat.le_refl _) hb o) (hw.alloc o) hg (by rw [hsz]; have := hb.size; omega)).setCell hWp _, hWp⟩
  obtain ⟨h1, h2, h3⟩ := hK k o' hk
  have hkl : k < w.heap.size := (Array.getElem?_eq_some_iff.1 h1).1
  refine ⟨far_set h2 ((hg.block k (by omega) (fun e => h3 e.symm)).trans (row_alloc h1)), h2, ?_⟩
  rcases hat with e | e
  · rw [e]; exact h3
  · rw [e]; intro e2; injection e2 with e2; omega

/-- Size's closure: the variable in block p holds how many there were. -/
def SizeI (W : World) (p : Nat) (K : List (Nat × Obj)) (L : List UInt8) (w : World) : Prop :=
  w.heap[p]? = some (.cells #[.int .i64 (L.length : Int)] 3 (0, 0)) ∧ (∀ (k : Nat) (o : Obj), (k, o) ∈ K → w.heap[k]? = some o ∧ k ≠ p) ∧ Below W.heap.size W w ∧ W.heap.size ≤ p

theorem make0 (n : Nat) (hn : n ≤ 1000000) (W : World) :
    (Instr.makeSlice 22 (.int .i64 0) (.int .i64 (n : Int))).run Try.prog W = .ok (.slice (some ⟨W.heap.size, 0, none⟩) 0 n) (W.alloc (.cells ((zeros n).map bv).toArray 5)) := by
  obtain ⟨i0, hi, hz0, hz1, hz2⟩ := info_parts info5
  have := run_make (P := Try.prog) W 22 5 i0 _ Try.underlying22 hi hz0 .i64 .i64 0 n (by omega) (by omega) (by rw [hz2]; omega) (by omega)
  rw [this, hz1]
  simp [Value.cells, zs_eq]

theorem own0 {w : World} {g base n : Nat} (h : w.heap[g]? = some (.cells ((zeros n).map bv).toArray 5 (0, 0))) (hn : n ≤ 1000000) (hb : base ≤ g) : Own w base (.slice (some ⟨g, 0, none⟩) 0 n) [] :=
  ⟨by simp, .inr ⟨g, n, _, rfl, hb, h, by simp, by unfold maxLen; omega, by simp [zeros], by simp⟩⟩

end Go.Proofs.Ytmgkfibkeonpmaa
