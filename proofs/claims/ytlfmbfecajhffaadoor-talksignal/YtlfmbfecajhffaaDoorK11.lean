/-
  What is there while the other editor plays. No conditions beyond those each theorem states.
-/
import Derived.Test.YtlfmbfecajhffaaDoorK10
import Derived.Test.YtlfmbfecajhffaaDoorFK
namespace Go.Proofs.YtlfmbfecajhffaaDoor
open Go.RowKit
set_option maxRecDepth 100000

attribute [local go_sem ↓] ex_ld25 ex_st25 ex_al25 ex_bu25 ex_ix25 ex_eq25 ex_ne25 ex_eq23 ex_ne23 ex_ld25o ex_st65 ex_al65 ex_bu65 ex_bu65s ex_ld25d
attribute [local go_sem] ptrB_at okPtr_at aggC_at agg62 agg69 isC_at isT_at eqV_t eqV_c isRow_new isRow_new65 World.setRow_alloc_new ptr4_at okPtr4_at cutT_at isI_at isS_at bW_at bWs_at ptrD_at okPtrD_at cutD_at

/-- Octets, where one block without octets alone may have changed. -/
theorem Rd.frame {t : TypeId} {w w' : World} {A : Option Addr} {l : List UInt8} {c g : Nat} {cs : List Value} (h : Rd w w.heap.size A l c) (H : SR t w g cs) (hno : ∀ u ∈ cs, isU u = false) (hs : w.heap.size ≤ w'.heap.size) (hh : ∀ k, k < w.heap.size → k ≠ g → w'.heap[k]? = w.heap[k]?) : Rd w' w'.heap.size A l c := by
  refine ⟨h.1, h.2.1, fun hl => ?_, fun ad had j u hu => ?_⟩
  · obtain ⟨ad, e, hb⟩ := h.2.2.1 hl
    exact ⟨ad, e, Nat.lt_of_lt_of_le hb hs⟩
  · obtain ⟨hj, _⟩ := List.getElem?_eq_some_iff.1 hu
    obtain ⟨b, off, e, hbl, hc⟩ := h.form hj
    rw [had] at e
    injection e with e
    subst e
    by_cases hg : b = g
    · exfalso
      subst hg
      rw [H.cell] at hc
      have := hno _ (List.mem_of_getElem? hc)
      cases this
    · rw [World.cell?_of_block (w := w) (by rw [blk_add]; exact hh _ hbl hg)]
      exact h.2.2.2 _ had j u hu
/-- Octets, where one row has grown that they do not lie in. -/
theorem Rd.growF {w w' : World} {A : Option Addr} {l : List UInt8} {c : Nat} {row : Option Nat} (h : Rd w w.heap.size A l c) (hg : w.grownBy w' row) (hne : ∀ ad, A = some ad → some ad.block ≠ row) : Rd w' w'.heap.size A l c := by
  refine ⟨h.1, h.2.1, fun hl => ?_, fun ad had j u hu => ?_⟩
  · obtain ⟨ad, e, hb⟩ := h.2.2.1 hl
    exact ⟨ad, e, Nat.lt_of_lt_of_le hb hg.size⟩
  · obtain ⟨hj, _⟩ := List.getElem?_eq_some_iff.1 hu
    obtain ⟨b, off, e, hbl, _⟩ := h.form hj
    rw [had] at e
    injection e with e
    subst e
    rw [World.cell?_of_block (w := w) (by rw [blk_add]; exact hg.block _ hbl (hne _ had))]
    exact h.2.2.2 _ had j u hu
theorem RdE.growE {w w' : World} {B : Option Addr} {L : List EvM} {m d : Nat} {row : Option Nat} (h : RdE w B L d) (hg : w.grownBy w' row) (hne : ∀ g, (Value.slice B m d).ownBlock = some g → some g ≠ row) (hx : ∀ x ∈ L, Rd w' w'.heap.size x.A x.l x.c) : RdE w' B L d := by
  refine ⟨h.1, h.2.1, fun hL => ?_, hx⟩
  obtain ⟨b, off, e, hlt, hc⟩ := h.2.2.1 hL
  subst e
  have k : ∀ o, w'.cell? ⟨b, o, none⟩ = w.cell? ⟨b, o, none⟩ := fun o => World.cell?_of_block (w := w) (a := ⟨b, o, none⟩) (hg.block b hlt (hne b rfl))
  refine ⟨b, off, rfl, Nat.lt_of_lt_of_le hlt hg.size, fun i hi => ?_⟩
  obtain ⟨c0, c1, c2⟩ := hc i hi
  exact ⟨(k _).trans c0, (k _).trans c1, (k _).trans c2⟩
theorem Frs.mono {V W : World} {A : Option Addr} (h : Fr.Frs W A) (hs : V.heap.size ≤ W.heap.size) : Fr.Frs V A := fun ad had => Nat.le_trans hs (h ad had)
/-- Behind what is passed on: the talk has changed, and what is passed on is new. -/
structure PS (V0 V : World) (A : Option Addr) (l : List UInt8) (n c : Nat) (z : Int) (ov li h : Bool) (B : Option Addr) (m d : Nat) (sn : List UInt8) (W : World) : Prop where
  s5 : SR 34 W V0.heap.size [.slice A n c, .int .i64 z, .bool ov, .bool li, .bool h]
  r5 : Rd W W.heap.size A l c
  ow : Own W V.heap.size (.slice B m d) sn
  fs : V.heap.size ≤ W.heap.size
  fh : ∀ k, k < V.heap.size → k ≠ V0.heap.size → W.heap[k]? = V.heap[k]?
  bl : Below V0.heap.size V0 W
/-- What is there when the other editor plays: all that was there, but the talk; what has come since, in new memory. -/
structure CB (V0 V Vp : World) (b14 b15 : Nat) (An Ak Be Bk : Option Addr) (l1 : List UInt8) (n1 cn ck : Nat) (z1 : Int) (ov1 li1 h1 : Bool) (me de mk dk : Nat) (La : List EvM) (sg : Int) (bell : Bool) (W : World) : Prop where
  fs : V.heap.size ≤ W.heap.size
  fh : ∀ k, k < V.heap.size → k ≠ V0.heap.size → W.heap[k]? = V.heap[k]?
  s5 : SR 34 W V0.heap.size [.slice An n1 cn, .int .i64 z1, .bool ov1, .bool li1, .bool h1]
  s14 : SR 41 W b14 [.slice Bk mk dk, .int .i64 sg, .bool bell]
  s15 : SR 32 W b15 [.slice Ak n1 ck, .int .i64 z1, .bool ov1, .bool li1]
  rn : Rd W W.heap.size An l1 cn
  rk : Rd W W.heap.size Ak l1 ck
  ra : RdE W Be La de
  bl : Below V0.heap.size V0 W
  fn : Fr.Frs Vp An
  fk : Fr.Frs Vp Ak
  fb : ∀ g, (Value.slice Be me de).ownBlock = some g → Vp.heap.size ≤ g
  fx : ∀ x ∈ La, Fr.Frs Vp x.A
  p14 : Vp.heap.size ≤ b14
  p15 : Vp.heap.size ≤ b15
  v0 : V0.heap.size < V.heap.size
theorem CB.call {V0 V Vp : World} {b14 b15 : Nat} {An Ak Be Bk : Option Addr} {l1 : List UInt8} {n1 cn ck : Nat} {z1 : Int} {ov1 li1 h1 : Bool} {me de mk dk : Nat} {La : List EvM} {sg : Int} {bell : Bool} {W W' : World} (h : CB V0 V Vp b14 b15 An Ak Be Bk l1 n1 cn ck z1 ov1 li1 h1 me de mk dk La sg bell W) (hb : Below W.heap.size W W') : CB V0 V Vp b14 b15 An Ak Be Bk l1 n1 cn ck z1 ov1 li1 h1 me de mk dk La sg bell W' where
  fs := Nat.le_trans h.fs hb.size
  fh := fun k hk hn => (hb.block k (Nat.lt_of_lt_of_le hk h.fs)).trans (h.fh k hk hn)
  s5 := SR.call h.s5 hb h.s5.lt
  s14 := SR.call h.s14 hb h.s14.lt
  s15 := SR.call h.s15 hb h.s15.lt
  rn := h.rn.at_ hb
  rk := h.rk.at_ hb
  ra := h.ra.at_ hb
  bl := bCall h.bl hb
  fn := h.fn
  fk := h.fk
  fb := h.fb
  fx := h.fx
  p14 := h.p14
  p15 := h.p15
  v0 := h.v0
theorem CB.grow {V0 V Vp : World} {b14 b15 : Nat} {An Ak Be Bk : Option Addr} {l1 : List UInt8} {n1 cn ck : Nat} {z1 : Int} {ov1 li1 h1 : Bool} {me de mk dk : Nat} {La : List EvM} {sg : Int} {bell : Bool} {W W' : World} {v : Value} {sn : List UInt8} (h : CB V0 V Vp b14 b15 An Ak Be Bk l1 n1 cn ck z1 ov1 li1 h1 me de mk dk La sg bell W) (ho : Own W V.heap.size v sn) (hlt : ∀ g, v.ownBlock = some g → g < Vp.heap.size) (hg : W.grownBy W' v.ownBlock) : CB V0 V Vp b14 b15 An Ak Be Bk l1 n1 cn ck z1 ov1 li1 h1 me de mk dk La sg bell W' := by
  have ne : ∀ b, Vp.heap.size ≤ b → v.ownBlock ≠ some b := fun b hb e => by have := hlt b e; omega
  have nl : ∀ b, b < V.heap.size → v.ownBlock ≠ some b := fun b hb e => by have := (ho.ge b e).1; omega
  exact {
    fs := Nat.le_trans h.fs hg.size
    fh := fun k hk hn => (hg.block k (Nat.lt_of_lt_of_le hk h.fs) (fun e => nl k hk e.symm)).trans (h.fh k hk hn)
    s5 := sr_grow h.s5 hg (nl _ h.v0)
    s14 := sr_grow h.s14 hg (ne _ h.p14)
    s15 := sr_grow h.s15 hg (ne _ h.p15)
    rn := h.rn.growF hg fun ad had e => ne _ (h.fn ad had) e.symm
    rk := h.rk.growF hg fun ad had e => ne _ (h.fk ad had) e.symm
    ra := h.ra.growE hg (fun g e e2 => ne g (h.fb g e) e2.symm) fun x hx => (h.ra.2.2.2 x hx).growF hg fun ad had e => ne _ (h.fx x hx ad had) e.symm
    bl := h.bl.trans ⟨hg.os, hg.tape, hg.output, hg.size, fun k hk => hg.block k (Nat.lt_of_lt_of_le (Nat.lt_trans hk h.v0) h.fs) (fun e => nl k (Nat.lt_trans hk h.v0) e.symm)⟩
    fn := h.fn
    fk := h.fk
    fb := h.fb
    fx := h.fx
    p14 := h.p14
    p15 := h.p15
    v0 := h.v0 }
/-- Two rows, where one block below them, that has no octets, alone may have changed. -/
theorem RO.frame {base : Nat} {v8 v9 : Value} {L8 L9 : List EvM} {w w' : World} {g : Nat} {t : TypeId} {cs : List Value} (h : RO base v8 v9 L8 L9 w) (H : SR t w g cs) (hno : ∀ u ∈ cs, isU u = false) (hgb : g < base) (hs : w.heap.size ≤ w'.heap.size) (hh : ∀ k, k < w.heap.size → k ≠ g → w'.heap[k]? = w.heap[k]?) : RO base v8 v9 L8 L9 w' :=
  h.oth (fun k hk hl => hh k hl (by omega)) fun _ _ _ hr => hr.frame H hno hs hh

end Go.Proofs.YtlfmbfecajhffaaDoor
