/-
  An editor that works, in memory, whose octets lie in no block that was there. No conditions beyond those each theorem states.
-/
import Derived.Test.YtlfmbfecajhffaaDoorA3
namespace Go.Proofs.YtlfmbfecajhffaaDoor.Fr
open Go.RowKit
set_option maxRecDepth 100000

theorem Rd.of_block {w w' : World} {A : Option Addr} {l : List UInt8} {c : Nat} (h : Rd w w.heap.size A l c) (hs : w.heap.size ≤ w'.heap.size) (hk : ∀ ad, A = some ad → w'.heap[ad.block]? = w.heap[ad.block]?) : Rd w' w'.heap.size A l c := by
  refine ⟨h.1, h.2.1, fun hl => ?_, fun ad had j u hu => ?_⟩
  · obtain ⟨ad, e, hb⟩ := h.2.2.1 hl
    exact ⟨ad, e, Nat.lt_of_lt_of_le hb hs⟩
  · rw [World.cell?_of_block (w := w) (by rw [blk_add]; exact hk ad had)]
    exact h.2.2.2 ad had j u hu

/-- Where octets lie: apart from what works, and from its events. -/
def Far (w : World) (p : Nat) (iv : Value) (A : Option Addr) : Prop := ∀ ad, A = some ad → ad.block < w.heap.size ∧ ad.block ≠ p ∧ iv.ownBlock ≠ some ad.block
theorem Far.nil (w : World) (p : Nat) (iv : Value) : Far w p iv none := fun ad h => by cases h
theorem Own.far {w1 : World} {B p n c : Nat} {iv : Value} {A : Option Addr} {l : List UInt8} (ho : Own w1 B (.slice A n c) l) (hp : p < B) (hi : ∀ g, iv.ownBlock = some g → g < B) : Far w1 p iv A := by
  intro ad had
  subst had
  rcases ho.2 with ⟨e, _⟩ | ⟨g, cap, cur, e, hb, hg, _⟩
  · cases e
  · injection e with e1 _ _
    injection e1 with e1
    subst e1
    exact ⟨(Array.getElem?_eq_some_iff.1 hg).1, by show g ≠ p; omega, fun h => by have := hi _ h; show False; simp at this; omega⟩

/-- What lies in no block that was there. -/
def Frs (W : World) (A : Option Addr) : Prop := ∀ ad, A = some ad → W.heap.size ≤ ad.block
theorem Frs.nil (W : World) : Frs W none := fun _ e => by cases e
theorem Frs.own {V w : World} {B n c : Nat} {A : Option Addr} {l : List UInt8} (h : Own w B (.slice A n c) l) (hB : V.heap.size ≤ B) : Frs V A := fun ad had => by
  subst had
  exact Nat.le_trans hB (h.ge ad.block rfl).1
/-- An editor in the state s that works, in the block p, by the table X, with the events L, and n bells: its octets, and what the events hold, are apart from both. -/
structure WJ (W : World) (p : Nat) (X : Tb) (room : Int) (s : Ed) (L : List EvM) (n : Int) (w : World) (A : Option Addr) (c : Nat) (iv : Value) : Prop where
  sr : WB w p A s.l.length c (s.t : Int) s.ov s.li X room iv n
  rd : Rd w w.heap.size A s.l c
  fr : Far w p iv A
  owns : OwnE w W.heap.size iv L
  ip : iv.ownBlock ≠ some p
  far : ∀ x ∈ L, Rd w w.heap.size x.A x.l x.c ∧ Far w p iv x.A
  below : Below W.heap.size W w
  base : W.heap.size ≤ p
  fa : Frs W A
  fx : ∀ x ∈ L, Frs W x.A

theorem WJ.lt {W : World} {p : Nat} {X : Tb} {room : Int} {s : Ed} {L : List EvM} {n : Int} {w : World} {A : Option Addr} {c : Nat} {iv : Value} (h : WJ W p X room s L n w A c iv) : p < w.heap.size := SR.lt h.sr

/-- All but the block p stays. -/
theorem WJ.to {W : World} {p : Nat} {X : Tb} {room : Int} {s s' : Ed} {L : List EvM} {n n' : Int} {w w' : World} {A A' : Option Addr} {c c' : Nat} {iv : Value} (h : WJ W p X room s L n w A c iv)
    (hs : w.heap.size ≤ w'.heap.size) (hh : ∀ k, k < w.heap.size → k ≠ p → w'.heap[k]? = w.heap[k]?) (sr : WB w' p A' s'.l.length c' (s'.t : Int) s'.ov s'.li X room iv n')
    (rd : Rd w' w'.heap.size A' s'.l c') (fr : Far w' p iv A') (hb : Below W.heap.size W w') (fa : Frs W A') : WJ W p X room s' L n' w' A' c' iv where
  sr := sr
  rd := rd
  fr := fr
  owns := h.owns.of_block fun g hg => hh g (h.owns.ge g hg).2 (fun e => h.ip (by rw [hg, e]))
  ip := h.ip
  far := fun x hx => by
    obtain ⟨h1, h2⟩ := h.far x hx
    exact ⟨h1.of_block hs fun ad had => hh _ (h2 ad had).1 (h2 ad had).2.1, fun ad had => ⟨Nat.lt_of_lt_of_le (h2 ad had).1 hs, (h2 ad had).2⟩⟩
  below := hb
  base := h.base
  fa := fa
  fx := h.fx
/-- The octets stay. -/
theorem WJ.same {W : World} {p : Nat} {X : Tb} {room : Int} {s : Ed} {L : List EvM} {n n' : Int} {ov li : Bool} {w w' : World} {A : Option Addr} {c : Nat} {iv : Value} (h : WJ W p X room s L n w A c iv)
    (hs : w.heap.size ≤ w'.heap.size) (hh : ∀ k, k < w.heap.size → k ≠ p → w'.heap[k]? = w.heap[k]?) (sr : WB w' p A s.l.length c (s.t : Int) ov li X room iv n') (hb : Below W.heap.size W w') : WJ W p X room ⟨s.l, s.t, ov, li⟩ L n' w' A c iv :=
  h.to hs hh sr (h.rd.of_block hs fun ad had => hh _ (h.fr ad had).1 (h.fr ad had).2.1) (fun ad had => ⟨Nat.lt_of_lt_of_le (h.fr ad had).1 hs, (h.fr ad had).2⟩) hb h.fa

/-- New memory changes nothing. -/
theorem WJ.call {W : World} {p : Nat} {X : Tb} {room : Int} {s : Ed} {L : List EvM} {n : Int} {w w' : World} {A : Option Addr} {c : Nat} {iv : Value} (h : WJ W p X room s L n w A c iv) (hb : Below w.heap.size w w') : WJ W p X room s L n w' A c iv :=
  h.same hb.size (fun k hk _ => hb.block k hk) (SR.call h.sr hb h.lt) (h.below.trans (hb.mono h.below.size))

theorem set1_size (w : World) (p : Addr) (u : Value) : (w.setCell p u).heap.size = w.heap.size := by simp [World.setCell]
theorem WJ.setI {W : World} {p : Nat} {X : Tb} {room : Int} {s : Ed} {L : List EvM} {n : Int} {w : World} {A : Option Addr} {c : Nat} {iv : Value} (h : WJ W p X room s L n w A c iv) (o : Bool) :
    WJ W p X room ⟨s.l, s.t, s.ov, o⟩ L n (w.setCell ⟨p, 3, none⟩ (.bool o)) A c iv :=
  h.same (by rw [set1_size]; exact Nat.le_refl _) (fun k _ hk => Below.heap_setCell _ ⟨p, 3, none⟩ _ k hk) (WB.setI h.sr o) (h.below.setCell (p := ⟨p, 3, none⟩) h.base _)
theorem WJ.setO {W : World} {p : Nat} {X : Tb} {room : Int} {s : Ed} {L : List EvM} {n : Int} {w : World} {A : Option Addr} {c : Nat} {iv : Value} (h : WJ W p X room s L n w A c iv) (o : Bool) :
    WJ W p X room ⟨s.l, s.t, o, s.li⟩ L n (w.setCell ⟨p, 2, none⟩ (.bool o)) A c iv :=
  h.same (by rw [set1_size]; exact Nat.le_refl _) (fun k _ hk => Below.heap_setCell _ ⟨p, 2, none⟩ _ k hk) (WB.setO h.sr o) (h.below.setCell (p := ⟨p, 2, none⟩) h.base _)
theorem WJ.setN {W : World} {p : Nat} {X : Tb} {room : Int} {s : Ed} {L : List EvM} {n : Int} {w : World} {A : Option Addr} {c : Nat} {iv : Value} (h : WJ W p X room s L n w A c iv) (k : Int) :
    WJ W p X room s L k (w.setCell ⟨p, 68, none⟩ (.int .i64 k)) A c iv :=
  h.same (by rw [set1_size]; exact Nat.le_refl _) (fun k _ hk => Below.heap_setCell _ ⟨p, 68, none⟩ _ k hk) (WB.setN h.sr k) (h.below.setCell (p := ⟨p, 68, none⟩) h.base _)
/-- Another line. -/
theorem WJ.setL {W : World} {p : Nat} {X : Tb} {room : Int} {s : Ed} {L : List EvM} {n : Int} {w w1 : World} {A A' : Option Addr} {c c' m : Nat} {iv : Value} {l' : List UInt8} {t' : Nat} (h : WJ W p X room s L n w A c iv) (hb : Below w.heap.size w w1)
    (ho : Own w1 w.heap.size (.slice A' m c') l') (hm : l'.length = m) :
    WJ W p X room ⟨l', t', s.ov, s.li⟩ L n ((w1.setCell ⟨p, 0, none⟩ (.slice A' m c')).setCell ⟨p, 1, none⟩ (.int .i64 (t' : Int))) A' c' iv := by
  subst hm
  have hp := h.lt
  have hf : Far w1 p iv A' := ho.far hp fun g hg => (h.owns.ge g hg).2
  have hh : ∀ k, k ≠ p → ((w1.setCell ⟨p, 0, none⟩ (.slice A' l'.length c')).setCell ⟨p, 1, none⟩ (.int .i64 (t' : Int))).heap[k]? = w1.heap[k]? := fun k hk => (Below.heap_setCell _ ⟨p, 1, none⟩ _ k hk).trans (Below.heap_setCell _ ⟨p, 0, none⟩ _ k hk)
  refine h.to (by rw [set2_size]; exact hb.size) (fun k hk hne => (hh k hne).trans (hb.block k hk)) (WB.setL (SR.call h.sr hb hp)) ?_ (fun ad had => ?_) (set2_below (h.below.trans (hb.mono h.below.size)) h.base _ _) (Frs.own ho h.below.size)
  · exact ho.rdOf.of_block (by rw [set2_size]; exact Nat.le_refl _) fun ad had => hh _ (hf ad had).2.1
  · rw [set2_size]
    exact hf ad had

/-- The state in the block p, stored whole: the zero one. -/
def setZ (w : World) (p : Nat) : World :=
  (((w.setCell ⟨p, 0, none⟩ (.slice none 0 0)).setCell ⟨p, 1, none⟩ (.int .i64 0)).setCell ⟨p, 2, none⟩ (.bool false)).setCell ⟨p, 3, none⟩ (.bool false)
theorem setZ_heap (w : World) (p : Nat) {k : Nat} (hk : k ≠ p) : (setZ w p).heap[k]? = w.heap[k]? := by
  unfold setZ
  rw [Below.heap_setCell _ ⟨p, 3, none⟩ _ k hk, Below.heap_setCell _ ⟨p, 2, none⟩ _ k hk, Below.heap_setCell _ ⟨p, 1, none⟩ _ k hk, Below.heap_setCell _ ⟨p, 0, none⟩ _ k hk]
theorem setZ_size (w : World) (p : Nat) : (setZ w p).heap.size = w.heap.size := by simp [setZ, World.setCell]
theorem WJ.setZ {W : World} {p : Nat} {X : Tb} {room : Int} {s : Ed} {L : List EvM} {n : Int} {w : World} {A : Option Addr} {c : Nat} {iv : Value} (h : WJ W p X room s L n w A c iv) :
    WJ W p X room zE L n (setZ w p) none 0 iv :=
  h.to (by rw [setZ_size]; exact Nat.le_refl _) (fun k _ hk => setZ_heap w p hk) (SR.set (SR.set (SR.set (SR.set h.sr 0 _) 1 _) 2 _) 3 _) (Rd.nil _ _) (Far.nil _ _ _)
    ((((h.below.setCell (p := ⟨p, 0, none⟩) h.base _).setCell (p := ⟨p, 1, none⟩) h.base _).setCell (p := ⟨p, 2, none⟩) h.base _).setCell (p := ⟨p, 3, none⟩) h.base _) (Frs.nil _)

/-- An event comes. -/
theorem WJ.come {W : World} {p : Nat} {X : Tb} {room : Int} {s : Ed} {L : List EvM} {n : Int} {w w1 w2 : World} {A : Option Addr} {c : Nat} {iv iv' : Value} {x : EvM} (h : WJ W p X room s L n w A c iv) (hb : Below w.heap.size w w1)
    (hX : Rd w w.heap.size x.A x.l x.c) (hXf : Far w p iv x.A) (hXn : Frs W x.A)
    (ho : OwnE w2 W.heap.size iv' (L ++ [x])) (hg : w1.grownBy w2 iv.ownBlock) (hat : iv'.ownBlock = iv.ownBlock ∨ iv'.ownBlock = some w1.heap.size) :
    WJ W p X room s (L ++ [x]) n (w2.setCell ⟨p, 67, none⟩ iv') A c iv' := by
  have hsz := hb.size
  have hs2 := hg.size
  have hh : ∀ k, k ≠ p → (w2.setCell ⟨p, 67, none⟩ iv').heap[k]? = w2.heap[k]? := fun k hk => Below.heap_setCell _ ⟨p, 67, none⟩ _ k hk
  have hg2 : ∀ k, k < w.heap.size → iv.ownBlock ≠ some k → w2.heap[k]? = w.heap[k]? := fun k hk hn => (hg.block k (by omega) (fun e => hn e.symm)).trans (hb.block k hk)
  have hn : ∀ k, k < w.heap.size → iv.ownBlock ≠ some k → iv'.ownBlock ≠ some k := fun k hk hk2 => by
    rcases hat with e | e
    · rw [e]; exact hk2
    · rw [e]; intro e2; injection e2 with e2; omega
  have h3 : ∀ k, k < w.heap.size → k ≠ p → iv.ownBlock ≠ some k → (w2.setCell ⟨p, 67, none⟩ iv').heap[k]? = w.heap[k]? := fun k hk hp hl => (hh k hp).trans (hg2 k hk hl)
  have hfar : ∀ B, Far w p iv B → Far (w2.setCell ⟨p, 67, none⟩ iv') p iv' B := fun B hB ad had => by
    obtain ⟨a1, a2, a3⟩ := hB ad had
    exact ⟨by rw [set1_size]; omega, a2, hn _ a1 a3⟩
  have hrd : ∀ B l d, Rd w w.heap.size B l d → Far w p iv B → Rd (w2.setCell ⟨p, 67, none⟩ iv') (w2.setCell ⟨p, 67, none⟩ iv').heap.size B l d := fun B l d hr hB =>
    hr.of_block (by rw [set1_size]; omega) fun ad had => h3 _ (hB ad had).1 (hB ad had).2.1 (hB ad had).2.2
  exact {
    sr := WB.setV (show WB w2 p A s.l.length c (s.t : Int) s.ov s.li X room iv n from (hg2 p h.lt h.ip).trans h.sr) iv'
    rd := hrd _ _ _ h.rd h.fr
    fr := hfar _ h.fr
    owns := ho.of_block fun g hg => hh g (fun e => hn p h.lt h.ip (by rw [hg, e]))
    ip := hn p h.lt h.ip
    far := fun y hy => by
      rcases List.mem_append.1 hy with hy | hy
      · exact ⟨hrd _ _ _ (h.far y hy).1 (h.far y hy).2, hfar _ (h.far y hy).2⟩
      · have : y = x := by simpa using hy
        subst this
        exact ⟨hrd _ _ _ hX hXf, hfar _ hXf⟩
    below := ((h.below.trans (hb.mono h.below.size)).grown hg (by have := h.below.size; omega) (fun k hk => (h.owns.ge k hk).1)).setCell (p := ⟨p, 67, none⟩) h.base _
    base := h.base
    fa := h.fa
    fx := fun y hy => by
      rcases List.mem_append.1 hy with hy | hy
      · exact h.fx y hy
      · have : y = x := by simpa using hy
        subst this
        exact hXn }
/-- What come's append leaves, ahead of the store. -/
theorem come_sr {W : World} {p : Nat} {X : Tb} {room : Int} {s : Ed} {L : List EvM} {n : Int} {w w1 w2 : World} {A : Option Addr} {c : Nat} {iv : Value} (h : WJ W p X room s L n w A c iv) (hb : Below w.heap.size w w1) (hg : w1.grownBy w2 iv.ownBlock) :
    WB w2 p A s.l.length c (s.t : Int) s.ov s.li X room iv n :=
  (hg.block p (Nat.lt_of_lt_of_le h.lt hb.size) (fun e => h.ip e.symm)).trans ((hb.block p h.lt).trans h.sr)

end Go.Proofs.YtlfmbfecajhffaaDoor.Fr
