/-
  What a reader that reads holds in memory (WJ, WI), and what stays of it; contracts over layer 4: wait. No conditions beyond those each theorem states.
-/
import Derived.Test.YtmgkfibkeonpmaaR2
import Derived.Test.YtmgkfibkeonpmaaI8
namespace Go.Proofs.Ytmgkfibkeonpmaa
open Go.RowKit

theorem Own.of_block {w w' : World} {base : Nat} {v : Value} {l : List UInt8} (h : Own w base v l) (hk : ∀ g, v.ownBlock = some g → w'.heap[g]? = w.heap[g]?) : Own w' base v l := by
  refine ⟨h.1, ?_⟩
  rcases h.2 with hn | ⟨g, cap, cur, rfl, hb, hgg, rest⟩
  · exact .inl hn
  · exact .inr ⟨g, cap, cur, rfl, hb, (hk g rfl).trans hgg, rest⟩

theorem OwnI.of_block {w w' : World} {base : Nat} {v : Value} {L : List Itm} (h : OwnI w base v L) (hk : ∀ g, v.ownBlock = some g → w'.heap[g]? = w.heap[g]?) : OwnI w' base v L := by
  refine ⟨h.1, ?_⟩
  rcases h.2 with hn | ⟨g, cap, cur, rfl, hb, hgg, rest⟩
  · exact .inl hn
  · exact .inr ⟨g, cap, cur, rfl, hb, (hk g rfl).trans hgg, rest⟩

theorem Rd.of_block {w w' : World} {A : Option Addr} {l : List UInt8} {c : Nat} (h : Rd w w.heap.size A l c) (hs : w.heap.size ≤ w'.heap.size) (hk : ∀ ad, A = some ad → w'.heap[ad.block]? = w.heap[ad.block]?) : Rd w' w'.heap.size A l c := by
  refine ⟨h.1, h.2.1, fun hl => ?_, fun ad had j u hu => ?_⟩
  · obtain ⟨ad, e, hb⟩ := h.2.2.1 hl
    exact ⟨ad, e, Nat.lt_of_lt_of_le hb hs⟩
  · rw [World.cell?_of_block (w := w) (by rw [blk_add]; exact hk ad had)]
    exact h.2.2.2 ad had j u hu

/-- A reader r that reads, in the block p, with the items L that came: its octets are a row of its own, the items are one, and what the items hold is apart from both. The blocks of K are as they were. -/
structure WJ (W : World) (p : Nat) (K : List (Nat × Obj)) (r : Abs) (L : List Itm) (w : World) (A : Option Addr) (c : Nat) (iv : Value) : Prop where
  sr : SR 48 w p [.int .i64 r.k, .int .i64 r.a, .int .i64 r.b, .slice A r.l.length c, iv]
  own : Own w W.heap.size (.slice A r.l.length c) r.l
  owns : OwnI w W.heap.size iv L
  lp : (Value.slice A r.l.length c).ownBlock ≠ some p
  ip : iv.ownBlock ≠ some p
  li : ∀ g, iv.ownBlock = some g → (Value.slice A r.l.length c).ownBlock ≠ some g
  far : ∀ x ∈ L, Rd w w.heap.size x.A x.l x.c ∧ ∀ ad, x.A = some ad → ad.block < w.heap.size ∧ ad.block ≠ p ∧ (Value.slice A r.l.length c).ownBlock ≠ some ad.block ∧ iv.ownBlock ≠ some ad.block
  kept : ∀ (k : Nat) (o : Obj), (k, o) ∈ K → w.heap[k]? = some o ∧ k ≠ p ∧ (Value.slice A r.l.length c).ownBlock ≠ some k ∧ iv.ownBlock ≠ some k
  below : Below W.heap.size W w
  base : W.heap.size ≤ p

def WI (W : World) (p : Nat) (K : List (Nat × Obj)) (r : Abs) (L : List Itm) (w : World) : Prop := ∃ A c iv, WJ W p K r L w A c iv

theorem WJ.lt {W : World} {p : Nat} {K : List (Nat × Obj)} {r : Abs} {L : List Itm} {w : World} {A : Option Addr} {c : Nat} {iv : Value} (h : WJ W p K r L w A c iv) : p < w.heap.size := h.sr.lt

/-- New memory changes nothing. -/
theorem WJ.call {W : World} {p : Nat} {K : List (Nat × Obj)} {r : Abs} {L : List Itm} {w w' : World} {A : Option Addr} {c : Nat} {iv : Value} (h : WJ W p K r L w A c iv) (hb : Below w.heap.size w w') : WJ W p K r L w' A c iv where
  sr := h.sr.call hb h.lt
  own := h.own.below hb
  owns := h.owns.of_block fun g hg => hb.block g (h.owns.ge g hg).2
  lp := h.lp
  ip := h.ip
  li := h.li
  far := fun x hx => ⟨(h.far x hx).1.at_ hb, fun ad had => by
    obtain ⟨h1, h2⟩ := (h.far x hx).2 ad had
    exact ⟨Nat.lt_of_lt_of_le h1 hb.size, h2⟩⟩
  kept := fun k o hk => by
    obtain ⟨h1, h2⟩ := h.kept k o hk
    exact ⟨(hb.block k (Array.getElem?_eq_some_iff.1 h1).1).trans h1, h2⟩
  below := h.below.trans (hb.mono h.below.size)
  base := h.base

/-- The reader in the block p, stored whole, without octets. -/
def setR (w : World) (p : Nat) (i v o : Int) : World :=
  (((w.setCell ⟨p, 0, none⟩ (.int .i64 i)).setCell ⟨p, 1, none⟩ (.int .i64 v)).setCell ⟨p, 2, none⟩ (.int .i64 o)).setCell ⟨p, 3, none⟩ (.slice none 0 0)

theorem setR_heap (w : World) (p : Nat) (i v o : Int) {k : Nat} (hk : k ≠ p) : (setR w p i v o).heap[k]? = w.heap[k]? := by
  unfold setR
  rw [Below.heap_setCell _ ⟨p, 3, none⟩ _ k hk, Below.heap_setCell _ ⟨p, 2, none⟩ _ k hk, Below.heap_setCell _ ⟨p, 1, none⟩ _ k hk, Below.heap_setCell _ ⟨p, 0, none⟩ _ k hk]
theorem setR_size (w : World) (p : Nat) (i v o : Int) : (setR w p i v o).heap.size = w.heap.size := by simp [setR, World.setCell]
theorem setR_sr {w : World} {p : Nat} {i v o : Int} {u0 u1 u2 u3 u4 : Value} (h : SR 48 w p [u0, u1, u2, u3, u4]) : SR 48 (setR w p i v o) p [.int .i64 i, .int .i64 v, .int .i64 o, .slice none 0 0, u4] :=
  (((h.set 0 (.int .i64 i)).set 1 (.int .i64 v)).set 2 (.int .i64 o)).set 3 (.slice none 0 0)
theorem setR_below {B : Nat} {a w : World} {p : Nat} {i v o : Int} (h : Below B a w) (hp : B ≤ p) : Below B a (setR w p i v o) :=
  (((h.setCell (p := ⟨p, 0, none⟩) hp _).setCell (p := ⟨p, 1, none⟩) hp _).setCell (p := ⟨p, 2, none⟩) hp _).setCell (p := ⟨p, 3, none⟩) hp _

theorem WJ.setR {W : World} {p : Nat} {K : List (Nat × Obj)} {r : Abs} {L : List Itm} {w : World} {A : Option Addr} {c : Nat} {iv : Value} (h : WJ W p K r L w A c iv) (i v o : Int) :
    WJ W p K ⟨i, v, o, []⟩ L (setR w p i v o) none 0 iv where
  sr := setR_sr h.sr
  own := Own.nil _ _
  owns := h.owns.of_block fun g hg => setR_heap _ _ _ _ _ (fun e => h.ip (by rw [hg, e]))
  lp := by simp [Value.ownBlock]
  ip := h.ip
  li := fun g _ => by simp [Value.ownBlock]
  far := fun x hx => by
    obtain ⟨h1, h2⟩ := h.far x hx
    refine ⟨h1.of_block (by rw [setR_size]; exact Nat.le_refl _) fun ad had => setR_heap _ _ _ _ _ (h2 ad had).2.1, fun ad had => ?_⟩
    obtain ⟨a1, a2, _, a4⟩ := h2 ad had
    exact ⟨by rw [setR_size]; exact a1, a2, by simp [Value.ownBlock], a4⟩
  kept := fun k o hk => by
    obtain ⟨h1, h2, _, h4⟩ := h.kept k o hk
    exact ⟨(setR_heap _ _ _ _ _ h2).trans h1, h2, by simp [Value.ownBlock], h4⟩
  below := setR_below h.below h.base
  base := h.base

/-- Only where it waits is stored. -/
theorem WJ.setIn {W : World} {p : Nat} {K : List (Nat × Obj)} {r : Abs} {L : List Itm} {w : World} {A : Option Addr} {c : Nat} {iv : Value} (h : WJ W p K r L w A c iv) (i : Int) :
    WJ W p K ⟨i, r.a, r.b, r.l⟩ L (w.setCell ⟨p, 0, none⟩ (.int .i64 i)) A c iv := by
  have hs : (w.setCell ⟨p, 0, none⟩ (.int .i64 i)).heap.size = w.heap.size := by simp [World.setCell]
  have hh : ∀ k, k ≠ p → (w.setCell ⟨p, 0, none⟩ (.int .i64 i)).heap[k]? = w.heap[k]? := fun k hk => Below.heap_setCell _ ⟨p, 0, none⟩ _ k hk
  exact {
    sr := h.sr.set 0 (.int .i64 i)
    own := h.own.of_block fun g hg => hh g (fun e => h.lp (by rw [hg, e]))
    owns := h.owns.of_block fun g hg => hh g (fun e => h.ip (by rw [hg, e]))
    lp := h.lp
    ip := h.ip
    li := h.li
    far := fun x hx => by
      obtain ⟨h1, h2⟩ := h.far x hx
      refine ⟨h1.of_block (by rw [hs]; exact Nat.le_refl _) fun ad had => hh _ (h2 ad had).2.1, fun ad had => ?_⟩
      rw [hs]
      exact h2 ad had
    kept := fun k o hk => by
      obtain ⟨h1, h2⟩ := h.kept k o hk
      exact ⟨(hh _ h2.1).trans h1, h2⟩
    below := h.below.setCell (p := ⟨p, 0, none⟩) h.base _
    base := h.base }

/-- An octet is appended to what was told. -/
theorem WJ.app {W : World} {p : Nat} {K : List (Nat × Obj)} {r : Abs} {L : List Itm} {w w1 w2 : World} {A A' : Option Addr} {c c' : Nat} {iv : Value} {l' : List UInt8} (h : WJ W p K r L w A c iv) (hb : Below w.heap.size w w1)
    (ho : Own w2 W.heap.size (.slice A' l'.length c') l') (hg : w1.grownBy w2 (Value.slice A r.l.length c).ownBlock)
    (hat : (Value.slice A' l'.length c').ownBlock = (Value.slice A r.l.length c).ownBlock ∨ (Value.slice A' l'.length c').ownBlock = some w1.heap.size) :
    WJ W p K ⟨r.k, r.a, r.b, l'⟩ L (w2.setCell ⟨p, 3, none⟩ (.slice A' l'.length c')) A' c' iv := by
  have hsz := hb.size
  have hs : (w2.setCell ⟨p, 3, none⟩ (.slice A' l'.length c')).heap.size = w2.heap.size := by simp [World.setCell]
  have hh : ∀ k, k ≠ p → (w2.setCell ⟨p, 3, none⟩ (.slice A' l'.length c')).heap[k]? = w2.heap[k]? := fun k hk => Below.heap_setCell _ ⟨p, 3, none⟩ _ k hk
  have hg2 : ∀ k, k < w.heap.size → (Value.slice A r.l.length c).ownBlock ≠ some k → w2.heap[k]? = w.heap[k]? := fun k hk hn => (hg.block k (by omega) (fun e => hn e.symm)).trans (hb.block k hk)
  have hn : ∀ k, k < w.heap.size → (Value.slice A r.l.length c).ownBlock ≠ some k → (Value.slice A' l'.length c').ownBlock ≠ some k := fun k hk hk2 => by
    rcases hat with e | e
    · rw [e]; exact hk2
    · rw [e]; intro e2; injection e2 with e2; omega
  have h3 : ∀ k, k < w.heap.size → k ≠ p → (Value.slice A r.l.length c).ownBlock ≠ some k → (w2.setCell ⟨p, 3, none⟩ (.slice A' l'.length c')).heap[k]? = w.heap[k]? := fun k hk hp hl => (hh k hp).trans (hg2 k hk hl)
  have hs2 := hg.size
  exact {
    sr := (show SR 48 w2 p _ from (hg2 p h.lt h.lp).trans h.sr).set 3 _
    own := ho.of_block fun g hg => hh g (fun e => hn p h.lt h.lp (by rw [hg, e]))
    owns := h.owns.of_block fun g hg' => h3 g (h.owns.ge g hg').2 (fun e => h.ip (by rw [hg', e])) (h.li g hg')
    lp := hn p h.lt h.lp
    ip := h.ip
    li := fun g hg' => hn g (h.owns.ge g hg').2 (h.li g hg')
    far := fun x hx => by
      obtain ⟨h1, h2⟩ := h.far x hx
      refine ⟨h1.of_block (by rw [hs]; omega) fun ad had => h3 _ (h2 ad had).1 (h2 ad had).2.1 (h2 ad had).2.2.1, fun ad had => ?_⟩
      obtain ⟨a1, a2, a3, a4⟩ := h2 ad had
      exact ⟨by rw [hs]; omega, a2, hn _ a1 a3, a4⟩
    kept := fun k o hk => by
      obtain ⟨h1, h2, h4, h5⟩ := h.kept k o hk
      have hkl := (Array.getElem?_eq_some_iff.1 h1).1
      exact ⟨(h3 k hkl h2 h4).trans h1, h2, hn k hkl h4, h5⟩
    below := ((h.below.trans (hb.mono h.below.size)).grown hg (by have := h.below.size; omega) (fun k hk => (h.own.ge k hk).1)).setCell (p := ⟨p, 3, none⟩) h.base _
    base := h.base }

/-- An item comes, and the reader waits. -/
theorem WJ.come {W : World} {p : Nat} {K : List (Nat × Obj)} {r : Abs} {L : List Itm} {w w1 w2 : World} {A : Option Addr} {c : Nat} {iv iv' : Value} {X : Itm} (h : WJ W p K r L w A c iv) (hb : Below w.heap.size w w1)
    (hX : Rd w w.heap.size X.A X.l X.c) (hXf : ∀ ad, X.A = some ad → ad.block < w.heap.size ∧ ad.block ≠ p ∧ iv.ownBlock ≠ some ad.block)
    (ho : OwnI w2 W.heap.size iv' (L ++ [X])) (hg : w1.grownBy w2 iv.ownBlock) (hat : iv'.ownBlock = iv.ownBlock ∨ iv'.ownBlock = some w1.heap.size) (i : Int) :
    WJ W p K (inn i) (L ++ [X]) (Ytmgkfibkeonpmaa.setR (w2.setCell ⟨p, 4, none⟩ iv') p i 0 0) none 0 iv' := by
  have hsz := hb.size
  have hs2 := hg.size
  have hs : (Ytmgkfibkeonpmaa.setR (w2.setCell ⟨p, 4, none⟩ iv') p i 0 0).heap.size = w2.heap.size := by rw [setR_size]; simp [World.setCell]
  have hh : ∀ k, k ≠ p → (Ytmgkfibkeonpmaa.setR (w2.setCell ⟨p, 4, none⟩ iv') p i 0 0).heap[k]? = w2.heap[k]? := fun k hk => (setR_heap _ _ _ _ _ hk).trans (Below.heap_setCell _ ⟨p, 4, none⟩ _ k hk)
  have hg2 : ∀ k, k < w.heap.size → iv.ownBlock ≠ some k → w2.heap[k]? = w.heap[k]? := fun k hk hn => (hg.block k (by omega) (fun e => hn e.symm)).trans (hb.block k hk)
  have hn : ∀ k, k < w.heap.size → iv.ownBlock ≠ some k → iv'.ownBlock ≠ some k := fun k hk hk2 => by
    rcases hat with e | e
    · rw [e]; exact hk2
    · rw [e]; intro e2; injection e2 with e2; omega
  have h3 : ∀ k, k < w.heap.size → k ≠ p → iv.ownBlock ≠ some k → (Ytmgkfibkeonpmaa.setR (w2.setCell ⟨p, 4, none⟩ iv') p i 0 0).heap[k]? = w.heap[k]? := fun k hk hp hl => (hh k hp).trans (hg2 k hk hl)
  have hfar : ∀ x ∈ L ++ [X], Rd w w.heap.size x.A x.l x.c ∧ ∀ ad, x.A = some ad → ad.block < w.heap.size ∧ ad.block ≠ p ∧ iv.ownBlock ≠ some ad.block := by
    intro x hx
    rcases List.mem_append.1 hx with hx | hx
    · obtain ⟨h1, h2⟩ := h.far x hx
      exact ⟨h1, fun ad had => ⟨(h2 ad had).1, (h2 ad had).2.1, (h2 ad had).2.2.2⟩⟩
    · have : x = X := by simpa using hx
      subst this
      exact ⟨hX, hXf⟩
  exact {
    sr := setR_sr ((show SR 48 w2 p _ from (hg2 p h.lt h.ip).trans h.sr).set 4 iv')
    own := Own.nil _ _
    owns := ho.of_block fun g hg => hh g (fun e => hn p h.lt h.ip (by rw [hg, e]))
    lp := by simp [Value.ownBlock]
    ip := hn p h.lt h.ip
    li := fun g _ => by simp [Value.ownBlock]
    far := fun x hx => by
      obtain ⟨h1, h2⟩ := hfar x hx
      refine ⟨h1.of_block (by rw [hs]; omega) fun ad had => h3 _ (h2 ad had).1 (h2 ad had).2.1 (h2 ad had).2.2, fun ad had => ?_⟩
      obtain ⟨a1, a2, a3⟩ := h2 ad had
      exact ⟨by rw [hs]; omega, a2, by simp [Value.ownBlock], hn _ a1 a3⟩
    kept := fun k o hk => by
      obtain ⟨h1, h2, _, h5⟩ := h.kept k o hk
      have hkl := (Array.getElem?_eq_some_iff.1 h1).1
      exact ⟨(h3 k hkl h2 h5).trans h1, h2, by simp [Value.ownBlock], hn k hkl h5⟩
    below := setR_below (((h.below.trans (hb.mono h.below.size)).grown hg (by have := h.below.size; omega) (fun k hk => (h.owns.ge k hk).1)).setCell (p := ⟨p, 4, none⟩) h.base _) h.base
    base := h.base }

/-- wait. -/
theorem wait_any (n : Int) (p : Nat) (u0 u1 u2 u3 u4 : Value) (w : World) (h : SR 48 w p [u0, u1, u2, u3, u4]) :
    Calls Try.prog 45 #[.pointer (some ⟨p, 0, none⟩), .int .i64 n] w fun e w' => e = .returned (.tuple #[]) ∧ w' = setR w p n 0 0 := by
  have c0 := h.cell 0
  have c1 := h.cell 1
  have c2 := h.cell 2
  have c3 := h.cell 3
  simp only [List.getElem?_cons_zero, List.getElem?_cons_succ] at c0 c1 c2 c3
  have f0 := h.frozen 0
  have f1 := h.frozen 1
  have f2 := h.frozen 2
  have f3 := h.frozen 3
  clear h
  go_enter Try.func45, Try.ntmps45
  go_wp2
  go_end0
  exact ⟨rfl, rfl⟩

end Go.Proofs.Ytmgkfibkeonpmaa
