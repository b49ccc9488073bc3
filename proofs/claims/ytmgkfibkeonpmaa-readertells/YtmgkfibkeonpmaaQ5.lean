/-
  Contracts over the document's answers for layer 4: One. No conditions beyond those each theorem states.
-/
import Derived.Test.YtmgkfibkeonpmaaQ4
namespace Go.Proofs.Ytmgkfibkeonpmaa
open Go.RowKit

/-- The two blocks with which One begins. -/
def oneV (w : World) (k a b : Int) (A : Option Addr) (n c : Nat) : World := (w.alloc (.cells #[.int .i64 k, .int .i64 a, .int .i64 b, .slice A n c] 24)).alloc (.cells #[.int .i64 0, .int .i64 0, .int .i64 0, .slice none 0 0] 24)

theorem oneV_facts (w : World) (k a b : Int) (A : Option Addr) (n c : Nat) :
    SR 24 (oneV w k a b A n c) w.heap.size [.int .i64 k, .int .i64 a, .int .i64 b, .slice A n c] ∧ SR 24 (oneV w k a b A n c) (w.heap.size + 1) [.int .i64 0, .int .i64 0, .int .i64 0, .slice none 0 0] ∧ Below w.heap.size w (oneV w k a b A n c) ∧ (oneV w k a b A n c).heap.size = w.heap.size + 2 :=
  ⟨(SR.new 24 w [.int .i64 k, .int .i64 a, .int .i64 b, .slice A n c]).alloc _, n3 w _ _, bAlloc (bAlloc (Below.refl _ _) _) _, by unfold oneV; simp⟩

/-- An answer that is passed on. -/
theorem pass_end {w V w2 : World} {Q : Itm} {B : Option Addr} {d : Nat} {L : List Itm} {x : Abs × List Abs} (h0 : Below w.heap.size w V) (hp : SR 24 V (w.heap.size + 1) [.int .i64 0, .int .i64 0, .int .i64 0, .slice none 0 0])
    (h1 : Q.abs = x.1) (h2 : L.map Itm.abs = x.2) (h3 : Rd w2 w2.heap.size Q.A Q.l Q.c) (h4 : RdI w2 B L d) (h5 : Below V.heap.size V w2) (h6 : ∀ g off, B = some ⟨g, off, none⟩ → V.heap.size ≤ g) :
    GotOne w x (.returned (.tuple #[.agg #[.int .i64 Q.k, .int .i64 Q.a, .int .i64 Q.b, .slice Q.A Q.l.length Q.c], .slice B L.length d])) (set4 w2 (w.heap.size + 1) (.int .i64 Q.k) (.int .i64 Q.a) (.int .i64 Q.b) (.slice Q.A Q.l.length Q.c)) := by
  have hlt := hp.lt
  obtain ⟨e1, e2, e3⟩ := one_end (v := zeroI) (k := Q.k) (a := Q.a) (b := Q.b) (n := Q.l.length) (bCall h0 h5) (hp.call h5 hlt) (Nat.le_succ _) h3 h4 (fun g off e => by have := h6 g off e; omega)
  exact ⟨Q, B, d, L, rfl, h1, h2, e1, e2, e3, fun g off e => by have := h6 g off e; have := h0.size; omega⟩

end Go.Proofs.Ytmgkfibkeonpmaa
