/-
  A contract over the document's answer for layer 4: Feed. No conditions beyond those the theorem states.
-/
import Derived.Test.YtmgkfibkeonpmaaQ9
namespace Go.Proofs.Ytmgkfibkeonpmaa
open Go.RowKit

/-- Octets apart from a row of items. -/
def FarV (v : Value) (Q : Itm) : Prop := Q.l ≠ [] → ∀ ad, Q.A = some ad → v.ownBlock ≠ some ad.block

/-- Where the document's Feed is, behind some octets: the reader, in the block b0; the block b1 of the answer; the items. -/
structure FJ (w : World) (base : Nat) (q : Abs) (L : List Itm) (wr : World) (A : Option Addr) (c : Nat) (vo : Value) : Prop where
  s0 : SR 24 wr w.heap.size [.int .i64 q.k, .int .i64 q.a, .int .i64 q.b, .slice A q.l.length c]
  s1 : SR 24 wr (w.heap.size + 1) [.int .i64 0, .int .i64 0, .int .i64 0, .slice none 0 0]
  rd : Rd wr wr.heap.size A q.l c
  far : FarV vo ⟨q.k, q.a, q.b, A, q.l, c⟩
  own : OwnI wr base vo L
  rds : ∀ x ∈ L, Rd wr wr.heap.size x.A x.l x.c
  fars : ∀ x ∈ L, FarV vo x
  below : Below w.heap.size w wr
  big : w.heap.size + 2 ≤ base

/-- What an octet more does. -/
theorem FJ.next {w : World} {base : Nat} {q : Abs} {L : List Itm} {wr w2 w3 : World} {A : Option Addr} {c : Nat} {vo vo' : Value} {Q : Itm} {B : Option Addr} {d : Nat} {M : List Itm} (h : FJ w base q L wr A c vo) (hb : Below wr.heap.size wr w2)
    (hQ : Rd w2 w2.heap.size Q.A Q.l Q.c) (hQf : FarG wr A q.l Q) (hM : RdI w2 B M d) (hMf : ∀ y ∈ M, FarG wr A q.l y)
    (ho : OwnI w3 base vo' (L ++ M)) (hg : (set4 w2 w.heap.size (.int .i64 Q.k) (.int .i64 Q.a) (.int .i64 Q.b) (.slice Q.A Q.l.length Q.c)).grownBy w3 vo.ownBlock) (hat : vo'.ownBlock = vo.ownBlock ∨ vo'.ownBlock = some w2.heap.size) :
    FJ w base Q.abs (L ++ M) w3 Q.A Q.c vo' := by
  have hsz := hb.size
  have hs0 := h.s0.lt
  have hs1 := h.s1.lt
  have hbig := h.big
  have hge : ∀ g, vo.ownBlock = some g → base ≤ g ∧ g < wr.heap.size := h.own.ge
  have n0 : vo.ownBlock ≠ some w.heap.size := fun e => by have := hge _ e; omega
  have n1 : vo.ownBlock ≠ some (w.heap.size + 1) := fun e => by have := hge _ e; omega
  have hW : (set4 w2 w.heap.size (.int .i64 Q.k) (.int .i64 Q.a) (.int .i64 Q.b) (.slice Q.A Q.l.length Q.c)).heap.size = w2.heap.size := set4_size _ _ _ _ _ _
  have hgs := hg.size
  rw [hW] at hgs
  have q0 := h.s0.call hb hs0
  -- octets that are far from the row stay
  have keep : ∀ X : Itm, Rd w2 w2.heap.size X.A X.l X.c → (X.l ≠ [] → ∀ ad, X.A = some ad → vo.ownBlock ≠ some ad.block) → Rd w3 w3.heap.size X.A X.l X.c := by
    intro X hX hf
    refine hX.of_blockN hgs fun hl ad had => ?_
    obtain ⟨ad', e', hlt⟩ := hX.2.2.1 hl
    rw [had] at e'
    injection e' with e'
    subst e'
    exact (hg.block ad.block (by rw [hW]; exact hlt) (fun e => hf hl ad had e.symm)).trans (set4_heap _ _ _ _ _ _ (hX.not_rd' hl q0 ad had))
  -- what is far stays far
  have far2 : ∀ X : Itm, Rd w2 w2.heap.size X.A X.l X.c → (X.l ≠ [] → ∀ ad, X.A = some ad → vo.ownBlock ≠ some ad.block) → FarV vo' X := by
    intro X hX hf hl ad had
    rcases hat with e | e
    · rw [e]; exact hf hl ad had
    · rw [e]
      intro e2
      injection e2 with e2
      obtain ⟨ad', e', hlt⟩ := hX.2.2.1 hl
      rw [had] at e'
      injection e' with e'
      subst e'
      omega
  have fg : ∀ X : Itm, FarG wr A q.l X → X.l ≠ [] → ∀ ad, X.A = some ad → vo.ownBlock ≠ some ad.block := by
    intro X hX hl ad had
    rcases hX hl ad had with ⟨h1, h2⟩ | h1
    · exact h.far h1 ad h2
    · intro e
      have := (hge _ e).2
      omega
  have hX : ∀ x ∈ L ++ M, Rd w2 w2.heap.size x.A x.l x.c ∧ (x.l ≠ [] → ∀ ad, x.A = some ad → vo.ownBlock ≠ some ad.block) := by
    intro x hx
    rcases List.mem_append.1 hx with hx | hx
    · exact ⟨(h.rds x hx).at_ hb, h.fars x hx⟩
    · exact ⟨hM.2.2.2 x hx, fg x (hMf x hx)⟩
  exact {
    s0 := (hg.block w.heap.size (by rw [hW]; omega) (fun e => n0 e.symm)).trans ((((q0.set 0 (.int .i64 Q.k)).set 1 (.int .i64 Q.a)).set 2 (.int .i64 Q.b)).set 3 (.slice Q.A Q.l.length Q.c))
    s1 := (hg.block (w.heap.size + 1) (by rw [hW]; omega) (fun e => n1 e.symm)).trans ((set4_heap _ _ _ _ _ _ (by omega)).trans (h.s1.call hb hs1))
    rd := keep Q hQ (fg Q hQf)
    far := far2 Q hQ (fg Q hQf)
    own := ho
    rds := fun x hx => keep x (hX x hx).1 (hX x hx).2
    fars := fun x hx => far2 x (hX x hx).1 (hX x hx).2
    below := (set4_below (bCall h.below hb) (Nat.le_refl _)).grown hg (by rw [hW]; have := h.below.size; omega) (fun k hk => by have := hge k hk; omega)
    big := h.big }

theorem FarG.mono {w W : World} {A : Option Addr} {l : List UInt8} {Q : Itm} (h : FarG W A l Q) (hs : w.heap.size ≤ W.heap.size) : FarG w A l Q := by
  intro hl ad had
  rcases h hl ad had with h1 | h1
  · exact .inl h1
  · exact .inr (by omega)

/-- The cells that an octet more reads, in every world that has wr's old memory. -/
theorem sK5 {wr W : World} {b b' o : Nat} {u0 u1 u2 u3 v : Value} (k0 : wr.cell? ⟨b, 0, none⟩ = some u0) (k1 : wr.cell? ⟨b, 1, none⟩ = some u1) (k2 : wr.cell? ⟨b, 2, none⟩ = some u2) (k3 : wr.cell? ⟨b, 3, none⟩ = some u3) (k4 : wr.cell? ⟨b', o, none⟩ = some v)
    (hb : b < wr.heap.size) (hb' : b' < wr.heap.size) (h : Below wr.heap.size wr W) :
    W.cell? ⟨b, 0, none⟩ = some u0 ∧ W.cell? ⟨b, 1, none⟩ = some u1 ∧ W.cell? ⟨b, 2, none⟩ = some u2 ∧ W.cell? ⟨b, 3, none⟩ = some u3 ∧ W.cell? ⟨b', o, none⟩ = some v ∧ Below wr.heap.size wr W :=
  ⟨(h.cell (p := ⟨b, 0, none⟩) hb).trans k0, (h.cell (p := ⟨b, 1, none⟩) hb).trans k1, (h.cell (p := ⟨b, 2, none⟩) hb).trans k2, (h.cell (p := ⟨b, 3, none⟩) hb).trans k3, (h.cell (p := ⟨b', o, none⟩) hb').trans k4, h⟩

/-- Behind One: its answer, and the block b8 that holds the reader. -/
def Mid (wr : World) (A : Option Addr) (l : List UInt8) (x : Abs × List Abs) (Q : Itm) (B : Option Addr) (d : Nat) (M : List Itm) (b8 : Nat) (wx : World) : Prop :=
  SR 24 wx b8 [.int .i64 Q.k, .int .i64 Q.a, .int .i64 Q.b, .slice Q.A Q.l.length Q.c] ∧ wr.heap.size ≤ b8 ∧ Below wr.heap.size wr wx ∧ Rd wx wx.heap.size Q.A Q.l Q.c ∧ RdI wx B M d ∧ (∀ g off, B = some ⟨g, off, none⟩ → wr.heap.size ≤ g) ∧ FarG wr A l Q ∧ (∀ y ∈ M, FarG wr A l y) ∧ Q.abs = x.1 ∧ M.map Itm.abs = x.2

/-- The block is made behind the call. -/
theorem mid_a {wr W w2 : World} {A : Option Addr} {l : List UInt8} {x : Abs × List Abs} {Q : Itm} {B : Option Addr} {d : Nat} {M : List Itm} (hW : wr.heap.size ≤ W.heap.size) (hb : Below wr.heap.size wr w2)
    (h1 : Q.abs = x.1) (h2 : M.map Itm.abs = x.2) (h3 : Rd w2 w2.heap.size Q.A Q.l Q.c) (h4 : RdI w2 B M d) (h6 : ∀ g off, B = some ⟨g, off, none⟩ → W.heap.size ≤ g) (h7 : FarG W A l Q) (h8 : ∀ y ∈ M, FarG W A l y) :
    Mid wr A l x Q B d M w2.heap.size (w2.alloc (.cells #[.int .i64 Q.k, .int .i64 Q.a, .int .i64 Q.b, .slice Q.A Q.l.length Q.c] 24)) :=
  ⟨SR.new 24 w2 [.int .i64 Q.k, .int .i64 Q.a, .int .i64 Q.b, .slice Q.A Q.l.length Q.c], hb.size, bAlloc hb _, h3.at_ (bAlloc (Below.refl _ _) _), h4.at_ (bAlloc (Below.refl _ _) _), fun g off e => Nat.le_trans hW (h6 g off e), h7.mono hW, fun y hy => (h8 y hy).mono hW, h1, h2⟩

/-- The block is made ahead of the call. -/
theorem mid_b {wr w2 : World} {A : Option Addr} {l : List UInt8} {x : Abs × List Abs} {Q : Itm} {B : Option Addr} {d : Nat} {M : List Itm}
    (h5 : Below (wr.alloc (.cells #[.int .i64 0, .int .i64 0, .int .i64 0, .slice none 0 0] 24)).drew.heap.size (wr.alloc (.cells #[.int .i64 0, .int .i64 0, .int .i64 0, .slice none 0 0] 24)).drew w2)
    (h1 : Q.abs = x.1) (h2 : M.map Itm.abs = x.2) (h3 : Rd w2 w2.heap.size Q.A Q.l Q.c) (h4 : RdI w2 B M d) (h6 : ∀ g off, B = some ⟨g, off, none⟩ → (wr.alloc (.cells #[.int .i64 0, .int .i64 0, .int .i64 0, .slice none 0 0] 24)).drew.heap.size ≤ g)
    (h7 : FarG (wr.alloc (.cells #[.int .i64 0, .int .i64 0, .int .i64 0, .slice none 0 0] 24)).drew A l Q) (h8 : ∀ y ∈ M, FarG (wr.alloc (.cells #[.int .i64 0, .int .i64 0, .int .i64 0, .slice none 0 0] 24)).drew A l y) :
    Mid wr A l x Q B d M wr.heap.size (set4 w2 wr.heap.size (.int .i64 Q.k) (.int .i64 Q.a) (.int .i64 Q.b) (.slice Q.A Q.l.length Q.c)) := by
  have hs : (wr.alloc (.cells #[.int .i64 0, .int .i64 0, .int .i64 0, .slice none 0 0] 24)).drew.heap.size = wr.heap.size + 1 := by
    show (wr.alloc _).heap.size = _
    simp
  have hz : SR 24 (wr.alloc (.cells #[.int .i64 0, .int .i64 0, .int .i64 0, .slice none 0 0] 24)).drew wr.heap.size [.int .i64 0, .int .i64 0, .int .i64 0, .slice none 0 0] := SR.new 24 wr [.int .i64 0, .int .i64 0, .int .i64 0, .slice none 0 0]
  have hz2 := hz.call h5 hz.lt
  obtain ⟨e1, e2, _⟩ := one_end (w := wr) (v := zeroI) (k := Q.k) (a := Q.a) (b := Q.b) (n := Q.l.length) (upD h5) hz2 (Nat.le_refl _) h3 h4 (fun g off e => by have := h6 g off e; omega)
  exact ⟨(((hz2.set 0 (.int .i64 Q.k)).set 1 (.int .i64 Q.a)).set 2 (.int .i64 Q.b)).set 3 (.slice Q.A Q.l.length Q.c), Nat.le_refl _, set4_below (upD h5) (Nat.le_refl _), e1, e2, fun g off e => by have := h6 g off e; omega, h7.mono (by omega), fun y hy => (h8 y hy).mono (by omega), h1, h2⟩

end Go.Proofs.Ytmgkfibkeonpmaa
