/-
  TalkSame walked. No conditions beyond those each theorem states.
-/
import Derived.Test.YtlfmbfecajhffaaDoorK11
import Derived.Test.YtlfmbfecajhffaaDoorFT
import Derived.Test.YtlfmbfecajhffaaDoorKS
namespace Go.Proofs.YtlfmbfecajhffaaDoor
open Go.RowKit
set_option maxRecDepth 100000

attribute [local go_sem ↓] ex_ld25 ex_st25 ex_al25 ex_bu25 ex_ix25 ex_eq25 ex_ne25 ex_eq23 ex_ne23 ex_ld25o ex_st65 ex_al65 ex_bu65 ex_bu65s ex_ld25d
attribute [local go_sem] ptrB_at okPtr_at aggC_at agg62 agg69 isC_at isT_at eqV_t eqV_c isRow_new isRow_new65 World.setRow_alloc_new ptr4_at okPtr4_at cutT_at isI_at isS_at bW_at bWs_at ptrD_at okPtrD_at cutD_at

theorem CB.drew {V0 V Vp : World} {b14 b15 : Nat} {An Ak Be Bk : Option Addr} {l1 : List UInt8} {n1 cn ck : Nat} {z1 : Int} {ov1 li1 h1 : Bool} {me de mk dk : Nat} {La : List EvM} {sg : Int} {bell : Bool} {W : World} (h : CB V0 V Vp b14 b15 An Ak Be Bk l1 n1 cn ck z1 ov1 li1 h1 me de mk dk La sg bell W) : CB V0 V Vp b14 b15 An Ak Be Bk l1 n1 cn ck z1 ov1 li1 h1 me de mk dk La sg bell W.drew := h.call (Below.drew (Below.refl _ _))
theorem sSame {V0 V Vp W : World} {g b7 : Nat} {X : Tb} {room : Int} {A7 : Option Addr} {nf c7 : Nat} {zf : Int} {ovf lif : Bool} {b14 b15 : Nat} {An Ak Be Bk : Option Addr} {l1 : List UInt8} {n1 cn ck : Nat} {z1 : Int} {ov1 li1 h1 : Bool} {me de mk dq : Nat} {La : List EvM} {sg : Int} {bell : Bool} (hD : DK V g X room) (h7 : SR 32 V b7 [.slice A7 nf c7, .int .i64 zf, .bool ovf, .bool lif]) (h : CB V0 V Vp b14 b15 An Ak Be Bk l1 n1 cn ck z1 ov1 li1 h1 me de mk dq La sg bell W) (hg : g ≠ V0.heap.size) (hb : b7 ≠ V0.heap.size) :
    rowOf W g = (dk X room).toArray ∧ isRow W 27 g 63 = true ∧ W.cell? ⟨g, 62, none⟩ = some (.int .i64 room) ∧ W.cell? ⟨b7, 0, none⟩ = some (.slice A7 nf c7) ∧ W.cell? ⟨b7, 1, none⟩ = some (.int .i64 zf) ∧ W.cell? ⟨b7, 2, none⟩ = some (.bool ovf) ∧ W.cell? ⟨b7, 3, none⟩ = some (.bool lif) ∧ W.cell? ⟨b14, 0, none⟩ = some (.slice Bk mk dq) := by
  have k1 : DK W g X room := (h.fh g (SR.lt hD) hg).trans hD
  have k2 : SR 32 W b7 [.slice A7 nf c7, .int .i64 zf, .bool ovf, .bool lif] := (h.fh b7 h7.lt hb).trans h7
  obtain ⟨⟨a1, a2⟩, a3⟩ := DK.facts k1
  exact ⟨a1, a2, a3, k2.cell 0, k2.cell 1, k2.cell 2, k2.cell 3, h.s14.cell 0⟩
theorem r7_of {V0 V Vp W : World} {A7 A5 : Option Addr} {lf : List UInt8} {c7 n c5 : Nat} {z : Int} {ov li h : Bool} {b14 b15 : Nat} {An Ak Be Bk : Option Addr} {l1 : List UInt8} {n1 cn ck : Nat} {z1 : Int} {ov1 li1 h1 : Bool} {me de mk dq : Nat} {La : List EvM} {sg : Int} {bell : Bool} (h5 : SR 34 V V0.heap.size [.slice A5 n c5, .int .i64 z, .bool ov, .bool li, .bool h]) (hr : Rd V V.heap.size A7 lf c7) (hc : CB V0 V Vp b14 b15 An Ak Be Bk l1 n1 cn ck z1 ov1 li1 h1 me de mk dq La sg bell W) : Rd W W.heap.size A7 lf c7 :=
  hr.frame h5 tk_no hc.fs hc.fh
/-- What there is behind the other editor's play. -/
def MidS (V0 V Vp : World) (b14 b15 b18 : Nat) (An Ak Be Bk Af : Option Addr) (l1 lf2 : List UInt8) (n1 cn ck nf2 cf : Nat) (z1 zf2 : Int) (ov1 li1 h1 ovf2 lif2 : Bool) (me de mk dq : Nat) (La : List EvM) (es : List Ev) (Bb : Option Addr) (db : Nat) (sg : Int) (bell : Bool) (W : World) : Prop :=
  CB V0 V Vp b14 b15 An Ak Be Bk l1 n1 cn ck z1 ov1 li1 h1 me de mk dq La sg bell W ∧ SR 32 W b18 [.slice Af nf2 cf, .int .i64 zf2, .bool ovf2, .bool lif2] ∧ Rd W W.heap.size Af lf2 cf ∧ (∃ Lb, Lb.map EvM.abs = es ∧ Lb.length = me ∧ RdE W Bb Lb db) ∧ (∀ g, (Value.slice Bb me db).ownBlock = some g → V.heap.size ≤ g) ∧ V.heap.size ≤ b18
theorem same_end {V0 V Vp W : World} {b14 b15 b18 : Nat} {An Ak Be Bk Af Bb : Option Addr} {l1 lf2 : List UInt8} {n1 cn ck n cf : Nat} {z1 z : Int} {ov1 li1 h1 ov li : Bool} {me de mk dq db : Nat} {La Lb : List EvM} {es : List Ev} {sg : Int} {bell : Bool} (h : CB V0 V Vp b14 b15 An Ak Be Bk l1 n1 cn ck z1 ov1 li1 h1 me de mk dq La sg bell W) (hz : SR 32 W b18 [.slice none 0 0, .int .i64 0, .bool false, .bool false]) (hv : Vp.heap.size ≤ b18) (hvs : V.heap.size ≤ Vp.heap.size) (e1 : Lb.map EvM.abs = es) (e2 : Lb.length = me) (hr : Rd W W.heap.size Af lf2 cf) (he : RdE W Bb Lb db) (hf : ∀ g, (Value.slice Bb me db).ownBlock = some g → V.heap.size ≤ g) (h14 : b14 ≠ b18) (h15 : b15 ≠ b18) :
    MidS V0 V Vp b14 b15 b18 An Ak Be Bk Af l1 lf2 n1 cn ck n cf z1 z ov1 li1 h1 ov li me de mk dq La es Bb db sg bell (set4 W b18 (.slice Af n cf) (.int .i64 z) (.bool ov) (.bool li)) := by
  have hh : ∀ k, k ≠ b18 → (set4 W b18 (.slice Af n cf) (.int .i64 z) (.bool ov) (.bool li)).heap[k]? = W.heap[k]? := fun k hk => set4_heap _ _ _ _ _ _ hk
  have hs : W.heap.size ≤ (set4 W b18 (.slice Af n cf) (.int .i64 z) (.bool ov) (.bool li)).heap.size := by rw [set4_size]; exact Nat.le_refl _
  have hv0 := h.v0
  refine ⟨?_, set4_sr hz, hr.setSt hz hs hh, ⟨Lb, e1, e2, he.setSt hz hs hh⟩, hf, by omega⟩
  exact {
    fs := Nat.le_trans h.fs hs
    fh := fun k hk hn => (hh k (by omega)).trans (h.fh k hk hn)
    s5 := (hh _ (by omega)).trans h.s5
    s14 := (hh _ h14).trans h.s14
    s15 := (hh _ h15).trans h.s15
    rn := h.rn.setSt hz hs hh
    rk := h.rk.setSt hz hs hh
    ra := h.ra.setSt hz hs hh
    bl := set4_below h.bl (by omega)
    fn := h.fn
    fk := h.fk
    fb := h.fb
    fx := h.fx
    p14 := h.p14
    p15 := h.p15
    v0 := h.v0 }
theorem cb_make {V0 V V1 Vp V11 V13 : World} {b14 b15 : Nat} {A1 An Ak Be Bk Bs : Option Addr} {l l1 sn ks : List UInt8} {n c ms ds n1 cn ck : Nat} {z z1 : Int} {ov li hp ov1 li1 h1 : Bool} {me de mk dq : Nat} {La : List EvM} {sg : Int} {bell : Bool}
    (hps : PS V0 V A1 l n c z ov li hp Bs ms ds sn V1) (hp0 : Below V1.heap.size V1 Vp) (h11 : Below Vp.heap.size Vp V11) (h13 : Below V11.heap.size (set5 V11 V0.heap.size (.slice An n1 cn) (.int .i64 z1) (.bool ov1) (.bool li1) (.bool h1)) V13) (hv0 : V0.heap.size < V.heap.size)
    (k14 : SR 41 V11 b14 [.slice Bk mk dq, .int .i64 sg, .bool bell]) (p14 : Vp.heap.size ≤ b14) (k15 : SR 32 V13 b15 [.slice Ak n1 ck, .int .i64 z1, .bool ov1, .bool li1]) (p15 : V11.heap.size ≤ b15)
    (rn : Rd V11 V11.heap.size An l1 cn) (ry : Rd V11 V11.heap.size Bk ks dq) (rk : Rd V13 V13.heap.size Ak l1 ck) (ra : RdE V13 Be La de) (fn : Fr.Frs Vp An) (fk : Fr.Frs V11 Ak) (fb : ∀ g, (Value.slice Be me de).ownBlock = some g → V11.heap.size ≤ g) (fx : ∀ x ∈ La, Fr.Frs V11 x.A) :
    CB V0 V Vp b14 b15 An Ak Be Bk l1 n1 cn ck z1 ov1 li1 h1 me de mk dq La sg bell V13 ∧ Own V13 V.heap.size (.slice Bs ms ds) sn ∧ Rd V13 V13.heap.size Bk ks dq := by
  have s0 := hps.fs
  have s1 := hp0.size
  have s2 := h11.size
  have s3 := h13.size
  rw [set5_size] at s3
  have hx := SR.call hps.s5 (bCall hp0 h11) hps.s5.lt
  have hh : ∀ k, k ≠ V0.heap.size → (set5 V11 V0.heap.size (.slice An n1 cn) (.int .i64 z1) (.bool ov1) (.bool li1) (.bool h1)).heap[k]? = V11.heap[k]? := fun k hk => set5_heap _ _ _ _ _ _ _ hk
  have hle : V11.heap.size ≤ (set5 V11 V0.heap.size (.slice An n1 cn) (.int .i64 z1) (.bool ov1) (.bool li1) (.bool h1)).heap.size := by rw [set5_size]; exact Nat.le_refl _
  have h13' : Below (set5 V11 V0.heap.size (.slice An n1 cn) (.int .i64 z1) (.bool ov1) (.bool li1) (.bool h1)).heap.size (set5 V11 V0.heap.size (.slice An n1 cn) (.int .i64 z1) (.bool ov1) (.bool li1) (.bool h1)) V13 := by rw [set5_size]; exact h13
  have ho1 : Own V11 V.heap.size (.slice Bs ms ds) sn := Own.below (w := V1) hps.ow (bCall hp0 h11)
  refine ⟨?_, Own.below (w := set5 V11 V0.heap.size (.slice An n1 cn) (.int .i64 z1) (.bool ov1) (.bool li1) (.bool h1)) (set5_own ho1 hv0) h13', (ry.setNo hx tk_no hle hh).at_ h13'⟩
  have h5 := set5_sr (a := .slice An n1 cn) (b := .int .i64 z1) (x := .bool ov1) (y := .bool li1) (h := .bool h1) hx
  have h14 := set5_far (a := .slice An n1 cn) (b := .int .i64 z1) (x := .bool ov1) (y := .bool li1) (h := .bool h1) (g := V0.heap.size) k14 (by omega)
  exact {
    fs := by omega
    fh := fun k hk hn => by
      have e1 := hps.fh k hk hn
      have e2 := (bCall hp0 h11).block k (by omega)
      have e3 := hh k hn
      have e4 := h13.block k (by omega)
      exact ((e4.trans e3).trans e2).trans e1
    s5 := SR.call h5 h13' h5.lt
    s14 := SR.call h14 h13' h14.lt
    s15 := k15
    rn := (rn.setNo hx tk_no hle hh).at_ h13'
    rk := rk
    ra := ra
    bl := bCall (set5_below (bCall hps.bl (bCall hp0 h11)) (Nat.le_refl _)) h13'
    fn := fn
    fk := Frs.mono fk s2
    fb := fun g hg => Nat.le_trans s2 (fb g hg)
    fx := fun x hx => Frs.mono (fx x hx) s2
    p14 := p14
    p15 := by omega
    v0 := hv0 }
theorem how_new (w : World) (a b x : Value) (V : World) (hV : w.alloc (.cells #[a, b, x] 36) = V) : Hid (SR 36 V w.heap.size [a, b, x]) ∧ Hid (Below w.heap.size w V) := by
  subst hV
  exact ⟨SR.new 36 w _, bAlloc (Below.refl _ _) _⟩
theorem how_facts {V : World} {g : Nat} {a b x : Value} (H : SR 36 V g [a, b, x]) : V.cell? ⟨g, 0, none⟩ = some a ∧ V.cell? ⟨g, 1, none⟩ = some b ∧ V.cell? ⟨g, 2, none⟩ = some x := ⟨H.cell 0, H.cell 1, H.cell 2⟩
/-- What two editors hold at a round's beginning. -/
def SI (V0 : World) (l lf : List UInt8) (n t nf tf : Nat) (ov li h ovf lif : Bool) (A5 A6 A7 : Option Addr) (c5 c6 c7 : Nat) (v8 v9 : Value) (L8 L9 : List EvM) (W : World) : Prop :=
  SR 34 W V0.heap.size [.slice A5 n c5, .int .i64 (t : Int), .bool ov, .bool li, .bool h] ∧ SR 32 W (V0.heap.size + 1) [.slice A6 n c6, .int .i64 (t : Int), .bool ov, .bool li] ∧ SR 32 W (V0.heap.size + 1 + 1) [.slice A7 nf c7, .int .i64 (tf : Int), .bool ovf, .bool lif] ∧ Rd W W.heap.size A5 l c5 ∧ Rd W W.heap.size A6 l c6 ∧ Rd W W.heap.size A7 lf c7 ∧ RO (V0.heap.size + 1 + 1 + 1) v8 v9 L8 L9 W ∧ Below V0.heap.size V0 W
theorem set4_far {t : TypeId} {w : World} {g p : Nat} {a b x y : Value} {cs : List Value} (H : SR t w p cs) (hp : p ≠ g) : SR t (set4 w g a b x y) p cs := (set4_heap _ _ _ _ _ _ hp).trans H
theorem st4_end {w W : World} {g : Nat} {B0 : Nat} {A' : Option Addr} {n' c' : Nat} {z' : Int} {x y : Bool} (hz : SR 32 W g [.slice A' n' c', .int .i64 z', .bool x, .bool y]) (hb : Below B0 w W) (hg : B0 ≤ g) (a b p q : Value) :
    (∀ (B : Option Addr) (l : List UInt8) (k : Nat), Rd W W.heap.size B l k → Rd (set4 W g a b p q) (set4 W g a b p q).heap.size B l k) ∧ (∀ (B : Option Addr) (L : List EvM) (k : Nat), RdE W B L k → RdE (set4 W g a b p q) B L k) ∧ Below B0 w (set4 W g a b p q) :=
  ⟨fun _ _ _ h => h.setSt hz (by rw [set4_size]; exact Nat.le_refl _) fun _ hk => set4_heap _ _ _ _ _ _ hk, fun _ _ _ h => h.setSt hz (by rw [set4_size]; exact Nat.le_refl _) fun _ hk => set4_heap _ _ _ _ _ _ hk, set4_below hb hg⟩
theorem MidS.call {V0 V Vp W W' : World} {b14 b15 b18 : Nat} {An Ak Be Bk Af Bb : Option Addr} {l1 lf2 : List UInt8} {n1 cn ck nf2 cf : Nat} {z1 zf2 : Int} {ov1 li1 h1 ovf2 lif2 : Bool} {me de mk dq db : Nat} {La : List EvM} {es : List Ev} {sg : Int} {bell : Bool} (h : MidS V0 V Vp b14 b15 b18 An Ak Be Bk Af l1 lf2 n1 cn ck nf2 cf z1 zf2 ov1 li1 h1 ovf2 lif2 me de mk dq La es Bb db sg bell W) (hb : Below W.heap.size W W') : MidS V0 V Vp b14 b15 b18 An Ak Be Bk Af l1 lf2 n1 cn ck nf2 cf z1 zf2 ov1 li1 h1 ovf2 lif2 me de mk dq La es Bb db sg bell W' := by
  obtain ⟨g1, g2, g3, ⟨Lb, e1, e2, e3⟩, g5, g6⟩ := h
  exact ⟨g1.call hb, SR.call g2 hb g2.lt, g3.at_ hb, ⟨Lb, e1, e2, e3.at_ hb⟩, g5, g6⟩
/-- What there is when the rows grow. -/
structure SE (V0 V : World) (b14 : Nat) (An Ak Af Be Bb Bk : Option Addr) (l1 lf2 : List UInt8) (n1 cn ck nf2 cf : Nat) (z1 zf2 : Int) (ov1 li1 h1 ovf2 lif2 : Bool) (me de mk dq db : Nat) (La Lb : List EvM) (sg : Int) (bell : Bool) (W : World) : Prop where
  s5 : SR 34 W V0.heap.size [.slice An n1 cn, .int .i64 z1, .bool ov1, .bool li1, .bool h1]
  s6 : SR 32 W (V0.heap.size + 1) [.slice Ak n1 ck, .int .i64 z1, .bool ov1, .bool li1]
  s7 : SR 32 W (V0.heap.size + 1 + 1) [.slice Af nf2 cf, .int .i64 zf2, .bool ovf2, .bool lif2]
  s14 : SR 41 W b14 [.slice Bk mk dq, .int .i64 sg, .bool bell]
  rn : Rd W W.heap.size An l1 cn
  rk : Rd W W.heap.size Ak l1 ck
  rf : Rd W W.heap.size Af lf2 cf
  re : RdE W Be La de
  rb : RdE W Bb Lb db
  bl : Below V0.heap.size V0 W
  vs : V.heap.size ≤ W.heap.size
  v0 : V0.heap.size + 1 + 1 < V.heap.size
  p14 : V.heap.size ≤ b14
  pe : ∀ g, (Value.slice Be me de).ownBlock = some g → V.heap.size ≤ g
  pb : ∀ g, (Value.slice Bb me db).ownBlock = some g → V.heap.size ≤ g
theorem SE.call {V0 V W W' : World} {b14 : Nat} {An Ak Af Be Bb Bk : Option Addr} {l1 lf2 : List UInt8} {n1 cn ck nf2 cf : Nat} {z1 zf2 : Int} {ov1 li1 h1 ovf2 lif2 : Bool} {me de mk dq db : Nat} {La Lb : List EvM} {sg : Int} {bell : Bool} (h : SE V0 V b14 An Ak Af Be Bb Bk l1 lf2 n1 cn ck nf2 cf z1 zf2 ov1 li1 h1 ovf2 lif2 me de mk dq db La Lb sg bell W) (hb : Below W.heap.size W W') : SE V0 V b14 An Ak Af Be Bb Bk l1 lf2 n1 cn ck nf2 cf z1 zf2 ov1 li1 h1 ovf2 lif2 me de mk dq db La Lb sg bell W' where
  s5 := SR.call h.s5 hb h.s5.lt
  s6 := SR.call h.s6 hb h.s6.lt
  s7 := SR.call h.s7 hb h.s7.lt
  s14 := SR.call h.s14 hb h.s14.lt
  rn := h.rn.at_ hb
  rk := h.rk.at_ hb
  rf := h.rf.at_ hb
  re := h.re.at_ hb
  rb := h.rb.at_ hb
  bl := bCall h.bl hb
  vs := Nat.le_trans h.vs hb.size
  v0 := h.v0
  p14 := h.p14
  pe := h.pe
  pb := h.pb
theorem SE.app {V0 V W W' : World} {b14 : Nat} {An Ak Af Be Bb Bk : Option Addr} {l1 lf2 : List UInt8} {n1 cn ck nf2 cf : Nat} {z1 zf2 : Int} {ov1 li1 h1 ovf2 lif2 : Bool} {me de mk dq db : Nat} {La Lb : List EvM} {sg : Int} {bell : Bool} (h : SE V0 V b14 An Ak Af Be Bb Bk l1 lf2 n1 cn ck nf2 cf z1 zf2 ov1 li1 h1 ovf2 lif2 me de mk dq db La Lb sg bell W) {v : Value} (hno : NoU W v) (hv : ∀ g, v.ownBlock = some g → V0.heap.size + 1 + 1 + 1 ≤ g ∧ g < V.heap.size) (hg : W.grownBy W' v.ownBlock) : SE V0 V b14 An Ak Af Be Bb Bk l1 lf2 n1 cn ck nf2 cf z1 zf2 ov1 li1 h1 ovf2 lif2 me de mk dq db La Lb sg bell W' := by
  have hl := h.p14
  exact {
    s5 := sr_own h.s5 hg fun g e => by have := hv g e; omega
    s6 := sr_own h.s6 hg fun g e => by have := hv g e; omega
    s7 := sr_own h.s7 hg fun g e => by have := hv g e; omega
    s14 := sr_own h.s14 hg fun g e => by have := hv g e; omega
    rn := h.rn.grow hg hno
    rk := h.rk.grow hg hno
    rf := h.rf.grow hg hno
    re := h.re.growE hg (fun g e e2 => by have h0 := h.pe g e; have h1 := hv g e2.symm; omega) fun x hx => (h.re.2.2.2 x hx).grow hg hno
    rb := h.rb.growE hg (fun g e e2 => by have h0 := h.pb g e; have h1 := hv g e2.symm; omega) fun x hx => (h.rb.2.2.2 x hx).grow hg hno
    bl := h.bl.trans ⟨hg.os, hg.tape, hg.output, hg.size, fun k hk => hg.block k (by have h0 := h.v0; have h1 := h.vs; omega) (fun e => by have := hv k e.symm; omega)⟩
    vs := Nat.le_trans h.vs hg.size
    v0 := h.v0
    p14 := h.p14
    pe := h.pe
    pb := h.pb }
theorem se_end {V0 V Vp W : World} {b14 b15 b18 : Nat} {An Ak Be Bk Af Bb A6 A7 : Option Addr} {l1 lf2 : List UInt8} {n1 cn ck nf2 cf n c6 nf c7 : Nat} {z1 zf2 z zf : Int} {ov1 li1 h1 ovf2 lif2 ov li ovf lif : Bool} {me de mk dq db : Nat} {La : List EvM} {es : List Ev} {sg : Int} {bell : Bool} (h : MidS V0 V Vp b14 b15 b18 An Ak Be Bk Af l1 lf2 n1 cn ck nf2 cf z1 zf2 ov1 li1 h1 ovf2 lif2 me de mk dq La es Bb db sg bell W) (hvs : V.heap.size ≤ Vp.heap.size)
    (h6 : SR 32 V (V0.heap.size + 1) [.slice A6 n c6, .int .i64 z, .bool ov, .bool li]) (h7 : SR 32 V (V0.heap.size + 1 + 1) [.slice A7 nf c7, .int .i64 zf, .bool ovf, .bool lif]) {v8 v9 : Value} {L8 L9 : List EvM} (hro : RO (V0.heap.size + 1 + 1 + 1) v8 v9 L8 L9 V)  {A5 : Option Addr} {c5 : Nat} {t5 : Int} {x5 y5 z5 : Bool} {n5 : Nat} (h5 : SR 34 V V0.heap.size [.slice A5 n5 c5, .int .i64 t5, .bool x5, .bool y5, .bool z5]) :
    RO (V0.heap.size + 1 + 1 + 1) v8 v9 L8 L9 (set4 (set4 W (V0.heap.size + 1) (.slice Ak n1 ck) (.int .i64 z1) (.bool ov1) (.bool li1)) (V0.heap.size + 1 + 1) (.slice Af nf2 cf) (.int .i64 zf2) (.bool ovf2) (.bool lif2)) ∧
    ∃ Lb, Lb.map EvM.abs = es ∧ Lb.length = me ∧ SE V0 V b14 An Ak Af Be Bb Bk l1 lf2 n1 cn ck nf2 cf z1 zf2 ov1 li1 h1 ovf2 lif2 me de mk dq db La Lb sg bell (set4 (set4 W (V0.heap.size + 1) (.slice Ak n1 ck) (.int .i64 z1) (.bool ov1) (.bool li1)) (V0.heap.size + 1 + 1) (.slice Af nf2 cf) (.int .i64 zf2) (.bool ovf2) (.bool lif2)) := by
  obtain ⟨g1, g2, g3, ⟨Lb, e1, e2, e3⟩, g5, g6⟩ := h
  have l6 := h6.lt
  have l7 := h7.lt
  have k6 : SR 32 W (V0.heap.size + 1) [.slice A6 n c6, .int .i64 z, .bool ov, .bool li] := (g1.fh _ l6 (by omega)).trans h6
  have k7 : SR 32 W (V0.heap.size + 1 + 1) [.slice A7 nf c7, .int .i64 zf, .bool ovf, .bool lif] := (g1.fh _ l7 (by omega)).trans h7
  have hroW := hro.frame h5 tk_no (by omega) g1.fs g1.fh
  have p14 := g1.p14
  have p15 := g1.p15
  have j5 := set4_far (a := .slice Ak n1 ck) (b := .int .i64 z1) (x := .bool ov1) (y := .bool li1) (g := V0.heap.size + 1) g1.s5 (by omega)
  have j14 := set4_far (a := .slice Ak n1 ck) (b := .int .i64 z1) (x := .bool ov1) (y := .bool li1) (g := V0.heap.size + 1) g1.s14 (by omega)
  have j7 := set4_far (a := .slice Ak n1 ck) (b := .int .i64 z1) (x := .bool ov1) (y := .bool li1) (g := V0.heap.size + 1) k7 (by omega)
  have j6 := set4_sr (a := .slice Ak n1 ck) (b := .int .i64 z1) (x := .bool ov1) (y := .bool li1) k6
  obtain ⟨E1, E2, E3⟩ := st4_end k6 g1.bl (by omega) (.slice Ak n1 ck) (.int .i64 z1) (.bool ov1) (.bool li1)
  obtain ⟨F1, F2, F3⟩ := st4_end j7 E3 (by omega) (.slice Af nf2 cf) (.int .i64 zf2) (.bool ovf2) (.bool lif2)
  refine ⟨(hroW.st k6 (by omega) _ _ _ _).st j7 (by omega) _ _ _ _, Lb, e1, e2, ?_⟩
  exact {
    s5 := set4_far j5 (by omega)
    s6 := set4_far j6 (by omega)
    s7 := set4_sr j7
    s14 := set4_far j14 (by omega)
    rn := F1 _ _ _ (E1 _ _ _ g1.rn)
    rk := F1 _ _ _ (E1 _ _ _ g1.rk)
    rf := F1 _ _ _ (E1 _ _ _ g3)
    re := F2 _ _ _ (E2 _ _ _ g1.ra)
    rb := F2 _ _ _ (E2 _ _ _ e3)
    bl := F3
    vs := by rw [set4_size, set4_size]; exact g1.fs
    v0 := l7
    p14 := Nat.le_trans hvs p14
    pe := fun g hg => Nat.le_trans hvs (g1.fb g hg)
    pb := g5 }
theorem s15_ok {W : World} {b15 b18 : Nat} {a b x y a' b' x' y' : Value} (h : SR 32 W b15 [a, b, x, y] ∧ SR 32 W b18 [a', b', x', y']) :
    W.cell? ⟨b15, 0, none⟩ = some a ∧ W.cell? ⟨b15, 1, none⟩ = some b ∧ W.cell? ⟨b15, 2, none⟩ = some x ∧ W.cell? ⟨b15, 3, none⟩ = some y ∧ W.cell? ⟨b18, 0, none⟩ = some a' ∧ W.cell? ⟨b18, 1, none⟩ = some b' ∧ W.cell? ⟨b18, 2, none⟩ = some x' ∧ W.cell? ⟨b18, 3, none⟩ = some y' :=
  ⟨h.1.cell 0, h.1.cell 1, h.1.cell 2, h.1.cell 3, h.2.cell 0, h.2.cell 1, h.2.cell 2, h.2.cell 3⟩
theorem three_row (w : World) (a b x y h a' b' x' y' a2 b2 x2 y2 : Value) (V : World) (hV : ((w.alloc (.cells #[a, b, x, y, h] 34)).alloc (.cells #[a', b', x', y'] 32)).alloc (.cells #[a2, b2, x2, y2] 32) = V) :
    Hid (SR 34 V w.heap.size [a, b, x, y, h]) ∧ Hid (SR 32 V (w.heap.size + 1) [a', b', x', y']) ∧ Hid (SR 32 V (w.heap.size + 1 + 1) [a2, b2, x2, y2]) ∧ Hid (Below w.heap.size w V) := by
  have h1 := SR.new 34 w [a, b, x, y, h]
  have h2 := SR.new 32 (w.alloc (.cells #[a, b, x, y, h] 34)) [a', b', x', y']
  have h3 := SR.new 32 ((w.alloc (.cells #[a, b, x, y, h] 34)).alloc (.cells #[a', b', x', y'] 32)) [a2, b2, x2, y2]
  simp only [World.size_alloc] at h2 h3
  subst hV
  exact ⟨SR.alloc (SR.alloc h1 _) _, SR.alloc h2 _, h3, bAlloc (bAlloc (bAlloc (Below.refl _ _) _) _) _⟩
set_option maxHeartbeats 16000000 in
theorem same_law (X : Tb) (hX : TbO X) (room : Int) (A : Option Addr) (L : List Sp) (c : Nat) (w : World) (hL : Laid w) (hr : RdS w A L c) :
    Calls Tryd.prog 4 #[.agg (dk X room).toArray, .slice A L.length c] w fun e w' => e = .returned (.bool true) ∧ Below w.heap.size w w' := by
  obtain ⟨nn, hn⟩ : ∃ n, n = L.length := ⟨_, rfl⟩
  rw [← hn]
  have HX := keepd hX
  have HLD := keepd hL
  have HR0 := keepd hr
  have HNN := keepd hn
  have hnc : nn ≤ c := by rw [hn]; exact hr.1
  have hcm := hr.2.1
  unfold maxLen at hcm
  clear hX hL hr hn
  go_enter Tryd.func4, Tryd.ntmps4
  go_upto_region 1 with fail
  generalize hV : w.alloc (.cells (dk X room).toArray 27) = V0
  obtain ⟨HD, HB0⟩ := desk_new _ _ _ hV
  have HDV0 : Hid (w.heap.size < V0.heap.size) := SR.lt HD.out
  clear hV
  go_upto_region 3 with fail
  generalize hV : ((V0.alloc (.cells #[.slice none 0 0, .int .i64 0, .bool false, .bool false, .bool false] 34)).alloc (.cells #[.slice none 0 0, .int .i64 0, .bool false, .bool false] 32)).alloc (.cells #[.slice none 0 0, .int .i64 0, .bool false, .bool false] 32) = V2
  obtain ⟨H5, H6, H7, HBV2⟩ := three_row _ _ _ _ _ _ _ _ _ _ _ _ _ _ _ hV
  have HSI : Hid (SI V0 [] [] 0 0 0 0 false false false false false none none none 0 0 0 (.slice none 0 0) (.slice none 0 0) [] [] V2) := ⟨H5.out, H6.out, H7.out, Rd.nil _ _, Rd.nil _ _, Rd.nil _ _, ⟨OwnE.nil _ _, OwnE.nil _ _, nou_nil _, nou_nil _, fun g hg => by simp [Value.ownBlock] at hg, fun x hx => by simp at hx, fun x hx => by simp at hx⟩, HBV2.out⟩
  clear hV H5 H6 H7 HBV2
  go_wp2_with fail
  go_loopw [8, 9, 10] (fun v8 v9 v10 wr => ∃ (i : Nat) (l lf : List UInt8) (n t nf tf : Nat) (ov li h ovf lif : Bool) (A5 A6 A7 : Option Addr) (c5 c6 c7 : Nat) (L8 L9 : List EvM), i ≤ nn ∧ i ≤ 60 ∧ v10 = .int .i64 i ∧ Hid (Inv X room ⟨l, t, ov, li⟩ ∧ l.length = n ∧ lf.length = nf ∧ farT ⟨⟨l, t, ov, li⟩, h⟩ = ⟨lf, tf, ovf, lif⟩ ∧ L8.map EvM.abs = L9.map EvM.abs ∧ L8.length ≤ i) ∧ Hid (SI V0 l lf n t nf tf ov li h ovf lif A5 A6 A7 c5 c6 c7 v8 v9 L8 L9 wr)) (fun _ _ v10 _ => nn - (intOf v10).toNat)
  case atStart => exact ⟨0, [], [], 0, 0, 0, 0, false, false, false, false, false, none, none, none, 0, 0, 0, [], [], by omega, by omega, rfl, ⟨Inv.zero X room, rfl, rfl, rfl, rfl, Nat.le_refl _⟩, HSI⟩
  case round =>
    obtain ⟨i, l, lf, n, t, nf, tf, ov, li, h, ovf, lif, A5, A6, A7, c5, c6, c7, L8, L9, hin, hi60, rfl, HI, HQ⟩ := hrel
    obtain ⟨V, hV⟩ : ∃ V, V = wr := ⟨_, rfl⟩
    subst hV
    obtain ⟨g1, g2, g3, g4, g5, g6, g7, g8⟩ := HQ.out
    have H5V := keepd g1
    have H6V := keepd g2
    have H7V := keepd g3
    have HR5 := keepd g4
    have HR6 := keepd g5
    have HR7 := keepd g6
    have HRO := keepd g7
    have HBV := keepd g8
    clear g1 g2 g3 g4 g5 g6 g7 g8 HQ HSI
    obtain ⟨Bv8, dv8, hv8⟩ := HRO.out.o8.form
    obtain ⟨Bv9, dv9, hv9⟩ := HRO.out.o9.form
    obtain ⟨m8, hm8⟩ : ∃ m, L8.length = m := ⟨_, rfl⟩
    have hm9 : L9.length = m8 := by rw [← hm8]; have h0 := congrArg List.length HI.out.2.2.2.2.1; simpa using h0.symm
    rw [hm8] at hv8
    rw [hm9] at hv9
    subst hv8 hv9
    have HM8 := keepd hm8
    have HM9 := keepd hm9
    clear hm8 hm9
    by_cases hgo : i < nn ∧ i < 60
    case neg =>
      have HB3 := keepd (bCall HB0.out HBV.out)
      have CW := keepd (awake_any V (HLD.out.below HB3.out))
      by_cases hlt : i < nn
      · have e0 : ¬ i < 60 := fun e => hgo ⟨hlt, e⟩
        have e1 : (i : Int) < (nn : Int) := by omega
        have e2 : ¬ (i : Int) < 60 := by omega
        clear hgo
        go_wp2_with fail
        with_reducible refine CW.out.mono ?_
        rintro e w4 ⟨rfl, hb4⟩
        have HB4 := keepd (bCall HB3.out hb4)
        clear hb4 CW
        go_wp2_with fail
        go_ret
        exact ⟨rfl, HB4.out⟩
      · have e1 : ¬ (i : Int) < (nn : Int) := by omega
        clear hgo
        go_wp2_with fail
        with_reducible refine CW.out.mono ?_
        rintro e w4 ⟨rfl, hb4⟩
        have HB4 := keepd (bCall HB3.out hb4)
        clear hb4 CW
        go_wp2_with fail
        go_ret
        exact ⟨rfl, HB4.out⟩
    obtain ⟨hlt, hl60⟩ := hgo
    have i0 : (0 : Int) ≤ (i : Int) := by omega
    have i1 : (i : Int) < (nn : Int) := by omega
    have i2 : (i : Int) < 60 := by omega
    have hil : i < L.length := by rw [← HNN.out]; exact hlt
    obtain ⟨bA, oA, hA, hbA, hat⟩ := HR0.out.2.2 (by intro e; rw [e] at hil; simp at hil)
    subst hA
    obtain ⟨⟨u, ed, fw, p⟩, hsp⟩ : ∃ x, L[i]? = some x := ⟨_, List.getElem?_eq_getElem hil⟩
    have hst := hat i _ hsp
    clear hat hsp hil
    have hstV : AtS V bA (oA + i * 4) ⟨u, ed, fw, p⟩ := hst.keep (bCall HB0.out HBV.out) hbA
    obtain ⟨s0, s1, s2, s3⟩ := hstV
    simp only at s0 s1 s2 s3
    obtain ⟨hp, hhp⟩ : ∃ hp, (if p then false else h) = hp := ⟨_, rfl⟩
    obtain ⟨sn, hsn⟩ : ∃ sn, (if p && h then keysL X ⟨l, t, ov, li⟩ else []) = sn := ⟨_, rfl⟩
    obtain ⟨⟨⟨l1, t1, ov1, li1⟩, es, be⟩, hkey⟩ : ∃ r, keyE X room ⟨l, t, ov, li⟩ u = r := ⟨_, rfl⟩
    obtain ⟨n1, hn1⟩ : ∃ n1, l1.length = n1 := ⟨_, rfl⟩
    obtain ⟨me, hme⟩ : ∃ me, es.length = me := ⟨_, rfl⟩
    obtain ⟨bell, hbell⟩ : ∃ bell, decide (0 < be) = bell := ⟨_, rfl⟩
    have hn := HI.out.2.1
    have hok := HI.out.1.ok
    have ht1 : t ≤ n := by have h0 := hok.1; rw [← hn]; exact h0
    have ht2 : n ≤ 4096 := by have h0 := hok.2; rw [← hn]; exact h0
    obtain ⟨h1, ks, sg, htyp⟩ := typeT_ex (k := ⟨⟨l, t, ov, li⟩, hp⟩) ed fw hkey
    obtain ⟨mk, hmk⟩ : ∃ mk, ks.length = mk := ⟨_, rfl⟩
    have hmk2 : mk ≤ 20000 := by have h0 := typeT_ks_le (X := X) (room := room) (k := ⟨⟨l, t, ov, li⟩, hp⟩) hok u ed fw; rw [htyp] at h0; rw [← hmk]; exact h0
    obtain ⟨ms, hms⟩ : ∃ ms, sn.length = ms := ⟨_, rfl⟩
    have hms2 : ms ≤ 20000 := by
      rw [← hms, ← hsn]
      have h0 := (keysL_len X ⟨l, t, ov, li⟩).1
      have h2 := hok.2
      split
      · simp only at h0 h2; omega
      · simp
    have hin1 : Inv X room ⟨l1, t1, ov1, li1⟩ := by have h0 := inv_key HI.out.1 u; rw [hkey] at h0; exact h0
    have hfew := (keyE_few X room ⟨l, t, ov, li⟩ u).1
    rw [hkey] at hfew
    simp only [hme] at hfew
    obtain ⟨b2, hplay⟩ := far_step HX.out HI.out.1 h p u ed fw hkey (by rw [hhp]; exact htyp)
    rw [hsn, HI.out.2.2.2.1] at hplay
    obtain ⟨⟨lf2, tf2, ovf2, lif2⟩, hfar⟩ : ∃ r, farT ⟨⟨l1, t1, ov1, li1⟩, h1⟩ = r := ⟨_, rfl⟩
    rw [hfar] at hplay
    obtain ⟨nf2, hnf2⟩ : ∃ nf2, lf2.length = nf2 := ⟨_, rfl⟩
    have hfok := farT_ok (h := h) hok
    rw [HI.out.2.2.2.1] at hfok
    have hf1 : tf ≤ nf := by have h0 := hfok.1; rw [← HI.out.2.2.1]; exact h0
    have hf2 : nf ≤ 4096 := by have h0 := hfok.2; rw [← HI.out.2.2.1]; exact h0
    obtain ⟨kk, hkk⟩ : ∃ kk, (sn ++ ks).length = kk := ⟨_, rfl⟩
    have hkk2 : kk ≤ 50000 := by rw [← hkk, List.length_append, hms, hmk]; omega
    have CT := keepd fun (W : World) (A' : Option Addr) (c' : Nat) (hr : Rd W W.heap.size A' l c') => Fr.type_own X HX.out room A' l n c' t ov li hp u ed fw W hn.symm hr ht1 ht2 l1 n1 t1 ov1 li1 h1 ks mk sg be bell htyp hn1 hmk hbell
    have CK := keepd fun (W : World) (A' : Option Addr) (c' : Nat) (hr : Rd W W.heap.size A' l c') => Fr.key_own X room A' l n c' t ov li u W hn.symm hr ht1 ht2 l1 n1 t1 ov1 li1 es me be bell hkey hn1 hme hbell
    have CPL := keepd fun (W : World) (D : Option Addr) (d : Nat) (hr : Rd W W.heap.size A7 lf c7) (hd : Rd W W.heap.size D (sn ++ ks) d) => Fr.play_own X room A7 lf nf c7 tf ovf lif D (sn ++ ks) kk d W HI.out.2.2.1.symm hr hf1 hf2 hkk.symm hd hkk2 lf2 nf2 tf2 ovf2 lif2 es me b2 hplay hnf2 hme
    have CPS := keepd fun (W : World) (A' : Option Addr) (c' : Nat) (e1 : passH n (t : Int) h = hp) (e2 : passK X l (t : Int) ov li h = sn) (hr : Rd W W.heap.size A' l c') => pass_any X HX.out A' l n c' (t : Int) ov li h W hn.symm hr (by omega) hp e1 sn e2 ms hms
    have HSN : Hid (p = true → passH n (t : Int) h = hp ∧ passK X l (t : Int) ov li h = sn) := by
      intro e
      subst e
      refine ⟨?_, ?_⟩
      · rw [← hhp]; unfold passH; rw [mayV_nat ht2 ht1]; first | done | rfl
      · rw [← hsn]; unfold passK; rw [hn, mayV_nat ht2 ht1]; simp
    have HSF : Hid (p = false → hp = h ∧ sn = []) := by
      intro e
      subst e
      exact ⟨by rw [← hhp]; rfl, by rw [← hsn]; rfl⟩
    have HIN : Hid (Inv X room ⟨l1, t1, ov1, li1⟩ ∧ l1.length = n1 ∧ lf2.length = nf2 ∧ farT ⟨⟨l1, t1, ov1, li1⟩, h1⟩ = ⟨lf2, tf2, ovf2, lif2⟩) := ⟨hin1, hn1, hnf2, hfar⟩
    have HEV : Hid (L8.map EvM.abs = L9.map EvM.abs ∧ L8.length ≤ i) := HI.out.2.2.2.2
    have HMS := keepd hms
    have HMK := keepd hmk
    have HKK := keepd hkk
    have hlk : sn.length + ks.length ≤ 200000 := by rw [hms, hmk]; omega
    have HLK := keepd hlk
    have HFEW := keepd hfew
    have HME := keepd hme
    clear hhp hsn hkey hn1 hme hbell hn hok ht1 ht2 htyp hmk hmk2 hms hms2 hin1 hfew hplay hfar hnf2 hfok hf1 hf2 hkk hkk2 hlk HI
    have HDV : Hid (DK V w.heap.size X room) := SR.call HD.out HBV.out (SR.lt HD.out)
    have HV0 : Hid (V0.heap.size < V.heap.size) := SR.lt H5V.out
    obtain ⟨k0, k1, k2, k3, k4, f0, f1, f2, f3, f4, kt⟩ := tk_facts H5V.out
    obtain ⟨⟨p0, p1⟩, p2⟩ := DK.facts HDV.out
    go_upto_if 36 with fail
    go_cut [11] from 37 to 43 (fun s11 wx => ∃ (A1 : Option Addr) (c1 : Nat) (Bs : Option Addr) (ds : Nat), s11 = .slice Bs ms ds ∧ Hid (PS V0 V A1 l n c1 (t : Int) ov li hp Bs ms ds sn wx))
    case first =>
      cases p
      · obtain ⟨e1, e2⟩ := HSF.out rfl
        have e3 := HMS.out
        rw [e2] at e3
        simp only [List.length_nil] at e3
        subst e1 e2 e3
        go_wp2_with fail
        go_meet
        exact ⟨A5, c5, none, 0, rfl, ⟨H5V.out, HR5.out, Own.nil _ _, Nat.le_refl _, fun _ _ _ => rfl, HBV.out⟩⟩
      · obtain ⟨e1, e2⟩ := HSN.out rfl
        have CP := keepd (CPS.out V A5 c5 e1 e2 HR5.out)
        clear s0 s1 s2 s3 CPS
        go_wp2_with fail
        with_reducible refine CP.out.mono ?_
        rintro e w1 ⟨A1, c1, B1, d1, rfl, hr1, ho1, hb1⟩
        have hx5 := SR.call H5V.out hb1 H5V.out.lt
        have HPS : Hid (PS V0 V A1 l n c1 (t : Int) ov li hp B1 ms d1 sn (set5 w1 V0.heap.size (.slice A1 n c1) (.int .i64 (t : Int)) (.bool ov) (.bool li) (.bool hp))) := by
          refine ⟨set5_sr hx5, hr1.setNo hx5 tk_no (by rw [set5_size]; exact Nat.le_refl _) fun _ hk => set5_heap _ _ _ _ _ _ _ hk, set5_own ho1 HV0.out, ?_, fun k hk hne => ?_, set5_below (bCall HBV.out hb1) (Nat.le_refl _)⟩
          · rw [set5_size]; exact hb1.size
          · rw [set5_heap _ _ _ _ _ _ _ hne]; exact hb1.block k hk
        clear k0 k1 k2 k3 k4 f0 f1 f2 f3 f4 kt p0 p1 p2
        obtain ⟨k0, k1, k2, k3, k4, f0, f1, f2, f3, f4, kt⟩ := tk_facts hx5
        clear hr1 ho1 hb1 hx5 CP
        go_wp2_with fail
        go_meet
        exact ⟨A1, c1, B1, d1, rfl, HPS⟩
    case rest =>
      obtain ⟨A1, c1, Bs, ds, rfl, HPS⟩ := hcut
      obtain ⟨V1, hV1⟩ : ∃ V1, V1 = wc := ⟨_, rfl⟩
      subst hV1
      have lV1 := HPS.out.fs
      have HDV1 : Hid (DK V1 w.heap.size X room) := (HPS.out.fh _ (SR.lt HDV.out) (by have h0 := HDV0.out; omega)).trans HDV.out
      have HAS1 : Hid (AtS V1 bA (oA + i * 4) ⟨u, ed, fw, p⟩) := hst.keep (bCall HB0.out HPS.out.bl) hbA
      clear k0 k1 k2 k3 k4 f0 f1 f2 f3 f4 kt p0 p1 p2 s0 s1 s2 s3 CPS
      obtain ⟨s0, s1, s2, s3⟩ := HAS1.out
      simp only at s0 s1 s2 s3
      go_upto_region 11 with fail
      generalize hV : V1.alloc (.cells #[.int .u8 (u.toNat : Int), .bool ed, .bool fw] 36) = Vp
      obtain ⟨b12, hb12⟩ : ∃ b, V1.heap.size = b := ⟨_, rfl⟩
      rw [hb12]
      obtain ⟨HHW, HBP⟩ := how_new _ _ _ _ _ hV
      rw [hb12] at HHW
      have HDVp := keepd (SR.call HDV1.out HBP.out (SR.lt HDV1.out))
      have h5p := SR.call HPS.out.s5 HBP.out HPS.out.s5.lt
      have hrp := HPS.out.r5.at_ HBP.out
      have HWP : Hid (V.heap.size ≤ Vp.heap.size ∧ V.heap.size ≤ b12) := ⟨Nat.le_trans lV1 HBP.out.size, by omega⟩
      clear hV hb12 s0 s1 s2 s3 HAS1 HDV1
      obtain ⟨k0, k1, k2, k3, k4, f0, f1, f2, f3, f4, kt⟩ := tk_facts h5p
      obtain ⟨⟨p0, p1⟩, p2⟩ := DK.facts HDVp.out
      obtain ⟨s0, s1, s2⟩ := how_facts HHW.out
      have CTp := keepd (CT.out Vp A1 c1 hrp)
      clear CT hrp
      go_wp2_with fail
      with_reducible refine CTp.out.mono ?_
      rintro e w11 ⟨An, cn, Bk, dq, rfl, hrn, hry, hb11, hfn⟩
      clear k0 k1 k2 k3 k4 f0 f1 f2 f3 f4 kt p0 p1 p2 s0 s1 s2 CTp
      go_upto_region 12 with fail
      generalize hV : (w11.alloc (.cells #[.slice An n1 cn, .int .i64 (t1 : Int), .bool ov1, .bool li1, .bool h1] 34)).alloc (.cells #[.slice Bk mk dq, .int .i64 (sg : Int), .bool bell] 41) = V11
      obtain ⟨HK13, HK14, HB11⟩ := kx_new _ _ _ _ _ _ _ _ _ _ hV
      obtain ⟨b13, hb13⟩ : ∃ b, w11.heap.size = b := ⟨_, rfl⟩
      obtain ⟨b14, hb14⟩ : ∃ b, b13 + 1 = b := ⟨_, rfl⟩
      rw [hb13, hb14] at HK14
      rw [hb13] at HK13
      rw [hb13, hb14]
      have hBx : Below Vp.heap.size Vp V11 := bCall hb11 HB11.out
      have HBx := keepd hBx
      have HRN := keepd (hrn.at_ HB11.out)
      have HRY := keepd (hry.at_ HB11.out)
      have HFN := keepd hfn
      have hs11 := hb11.size
      have HP14 : Hid (Vp.heap.size ≤ b14) := keepd (by omega)
      have h5x := SR.call h5p hBx h5p.lt
      have HX5 := keepd h5x
      have hn13 : b13 ≠ V0.heap.size := by have h0 := HV0.out; have h2 := HWP.out.1; omega
      have hV0b : V0.heap.size ≤ b13 := by have h0 := HV0.out; have h2 := HWP.out.1; omega
      clear hV hb13 hb14 hrn hry hb11 hfn hs11 h5p
      obtain ⟨k0, k1, k2, k3, k4, f0, f1, f2, f3, f4, kt⟩ := tk_facts HX5.out
      obtain ⟨j0, j1, j2, j3, j4, _, _, _, _, _, jt⟩ := tk_facts HK13.out
      go_upto_region 13 with fail
      generalize hV : (((((V11.setCell ⟨V0.heap.size, 0, none⟩ (.slice An n1 cn)).setCell ⟨V0.heap.size, 1, none⟩ (.int .i64 (t1 : Int))).setCell ⟨V0.heap.size, 2, none⟩ (.bool ov1)).setCell ⟨V0.heap.size, 3, none⟩ (.bool li1)).setCell ⟨V0.heap.size, 4, none⟩ (.bool h1)) = V12
      have e12 : set5 V11 V0.heap.size (.slice An n1 cn) (.int .i64 (t1 : Int)) (.bool ov1) (.bool li1) (.bool h1) = V12 := hV
      have fs12 : V.heap.size ≤ V12.heap.size := by rw [← e12, set5_size]; exact Nat.le_trans HWP.out.1 HBx.out.size
      have fh12 : ∀ k, k < V.heap.size → k ≠ V0.heap.size → V12.heap[k]? = V.heap[k]? := fun k hk hne => by
        rw [← e12, set5_heap _ _ _ _ _ _ _ hne]
        exact ((bCall HBP.out HBx.out).block k (by omega)).trans (HPS.out.fh k hk hne)
      have HD12 : Hid (DK V12 w.heap.size X room) := (fh12 _ (SR.lt HDV.out) (by have h0 := HDV0.out; omega)).trans HDV.out
      have h612 : SR 32 V12 (V0.heap.size + 1) [.slice A6 n c6, .int .i64 (t : Int), .bool ov, .bool li] := (fh12 _ H6V.out.lt (by omega)).trans H6V.out
      have hr612 : Rd V12 V12.heap.size A6 l c6 := HR6.out.frame H5V.out tk_no fs12 fh12
      have hhw12 : SR 36 V12 b12 [.int .u8 (u.toNat : Int), .bool ed, .bool fw] := by
        rw [← e12]
        exact set5_far (SR.call HHW.out HBx.out HHW.out.lt) (by have h0 := HWP.out.2; have h2 := HV0.out; omega)
      have HE12 := keepd e12
      have hs12 : V11.heap.size = V12.heap.size := by rw [← e12, set5_size]
      have HS12 := keepd hs12
      clear hV e12 fs12 fh12 k0 k1 k2 k3 k4 f0 f1 f2 f3 f4 kt j0 j1 j2 j3 j4 jt
      obtain ⟨⟨p0, p1⟩, p2⟩ := DK.facts HD12.out
      obtain ⟨k0, k1, k2, k3, _, _, _, _, kt⟩ := st_facts h612
      obtain ⟨s0, s1, s2⟩ := how_facts hhw12
      have CKp := keepd (CK.out V12 A6 c6 hr612)
      clear CK hr612 hhw12 h612
      go_wp2_with fail
      with_reducible refine CKp.out.mono ?_
      rintro e w13 ⟨Ak, ck, Be, de, La, rfl, hla, hlm, hrk, hre, hb13, hfb, hfk, hfx⟩
      clear k0 k1 k2 k3 kt p0 p1 p2 s0 s1 s2 CKp
      go_upto_region 14 with fail
      generalize hV : w13.alloc (.cells #[.slice Ak n1 ck, .int .i64 (t1 : Int), .bool ov1, .bool li1] 32) = V13
      obtain ⟨HK15, HB13⟩ := st_new _ _ _ _ _ _ hV
      obtain ⟨b15, hb15⟩ : ∃ b, w13.heap.size = b := ⟨_, rfl⟩
      rw [hb15] at HK15
      rw [hb15]
      have HCC : Hid (CB V0 V Vp b14 b15 An Ak Be Bk l1 n1 cn ck (t1 : Int) ov1 li1 h1 me de mk dq La (sg : Int) bell V13 ∧ Own V13 V.heap.size (.slice Bs ms ds) sn ∧ Rd V13 V13.heap.size Bk ks dq) := by
        have hs := HS12.out
        have h13 := hb13.size
        refine cb_make HPS.out HBP.out HBx.out (V11 := V11) ?_ HV0.out (HK14.out) HP14.out HK15.out (by omega) HRN.out HRY.out (hrk.at_ HB13.out) (hre.at_ HB13.out) HFN.out (Frs.mono hfk (by omega)) (fun g hg => by have h0 := hfb g hg; omega) (fun x hx => Frs.mono (hfx x hx) (by omega))
        rw [HE12.out, hs]
        exact bCall hb13 HB13.out
      have HLA := keepd hla
      have HLM := keepd hlm
      have HCB := keepd HCC.out.1
      have HOS := keepd HCC.out.2.1
      have HRK := keepd HCC.out.2.2
      have HVP2 := keepd HWP.out.1
      have hlt2 : ∀ g, (Value.slice Bs ms ds).ownBlock = some g → g < Vp.heap.size := fun g hg => Nat.lt_of_lt_of_le (HPS.out.ow.ge g hg).2 HBP.out.size
      have HLT := keepd hlt2
      clear hV hb15 hla hlm hrk hre hb13 hfb hfk hfx HB13 HCC HE12 HS12 HK15 HK14 HK13 HBx HRN HRY HFN HP14 HX5 HHW HDVp HPS HBP hlt2 hs12
      go_cut [18, 19, 20] from 77 to 90 (fun s18 s19 s20 wx => ∃ (b18 : Nat) (Af : Option Addr) (cf : Nat) (Bb : Option Addr) (db : Nat), s18 = .pointer (some ⟨b18, 0, none⟩) ∧ s19 = .slice Bb me db ∧ s20 = .int .i64 (b2 : Int) ∧ Hid (MidS V0 V Vp b14 b15 b18 An Ak Be Bk Af l1 lf2 n1 cn ck nf2 cf (t1 : Int) (tf2 : Int) ov1 li1 h1 ovf2 lif2 me de mk dq La es Bb db (sg : Int) bell wx))
      case first =>
        refine wp_region_held_drew (S := fun W => rowOf W w.heap.size = (dk X room).toArray ∧ isRow W 27 w.heap.size 63 = true ∧ W.cell? ⟨w.heap.size, 62, none⟩ = some (.int .i64 room) ∧ W.cell? ⟨V0.heap.size + 1 + 1, 0, none⟩ = some (.slice A7 nf c7) ∧ W.cell? ⟨V0.heap.size + 1 + 1, 1, none⟩ = some (.int .i64 (tf : Int)) ∧ W.cell? ⟨V0.heap.size + 1 + 1, 2, none⟩ = some (.bool ovf) ∧ W.cell? ⟨V0.heap.size + 1 + 1, 3, none⟩ = some (.bool lif) ∧ W.cell? ⟨b14, 0, none⟩ = some (.slice Bk mk dq)) (by kernel_rfl) (sSame HDV.out H7V.out (CB.drew HCB.out) (by have h0 := HDV0.out; omega) (by omega)) (fun hHeld => ?_)
        refine wpAnyH_take (i := 0) (oi := { dst := some 78, op := Op.fieldAddr 27 (Operand.tmp 2) 0, type := 0, pos := "law.go:63", after := #[], guard := none }) (v := .pointer (some ⟨w.heap.size, 0, none⟩)) rfl (by kernel_rfl) (by kernel_rfl) (by kernel_rfl) (fun _ _ _ h => h) (Or.inl ⟨by rfl, fun W hW => ?_⟩) hHeld ?_
        · obtain ⟨q0, q1, q2, q3, q4, q5, q6, q7⟩ := hW
          go_simp
        simp only [Act.put, List.setIfInBounds_toArray, List.set_cons_zero, List.set_cons_succ]
        refine wpAnyH_take (i := 1) (oi := { dst := some 79, op := Op.load 25 (Operand.tmp 78), type := 25, pos := "law.go:63", after := #[{ on := 0, ground := Ground.data }], guard := none }) (v := tv X) rfl (by kernel_rfl) (by kernel_rfl) (by kernel_rfl) (fun _ _ _ h => h) (Or.inl ⟨by rfl, fun W hW => ?_⟩) hHeld ?_
        · obtain ⟨q0, q1, q2, q3, q4, q5, q6, q7⟩ := hW
          go_simp
        simp only [Act.put, List.setIfInBounds_toArray, List.set_cons_zero, List.set_cons_succ]
        refine wpAnyH_take (i := 2) (oi := { dst := some 80, op := Op.fieldAddr 27 (Operand.tmp 2) 1, type := 0, pos := "law.go:63", after := #[], guard := none }) (v := .pointer (some ⟨w.heap.size, 62, none⟩)) rfl (by kernel_rfl) (by kernel_rfl) (by kernel_rfl) (fun _ _ _ h => h) (Or.inl ⟨by rfl, fun W hW => ?_⟩) hHeld ?_
        · obtain ⟨q0, q1, q2, q3, q4, q5, q6, q7⟩ := hW
          go_simp
        simp only [Act.put, List.setIfInBounds_toArray, List.set_cons_zero, List.set_cons_succ]
        refine wpAnyH_take (i := 3) (oi := { dst := some 81, op := Op.load 3 (Operand.tmp 80), type := 3, pos := "law.go:63", after := #[{ on := 2, ground := Ground.data }], guard := none }) (v := .int .i64 room) rfl (by kernel_rfl) (by kernel_rfl) (by kernel_rfl) (fun _ _ _ h => h) (Or.inl ⟨by rfl, fun W hW => ?_⟩) hHeld ?_
        · obtain ⟨q0, q1, q2, q3, q4, q5, q6, q7⟩ := hW
          go_simp
        simp only [Act.put, List.setIfInBounds_toArray, List.set_cons_zero, List.set_cons_succ]
        refine wpAnyH_take (i := 4) (oi := { dst := some 82, op := Op.load 32 (Operand.tmp 7), type := 32, pos := "law.go:63", after := #[], guard := none }) (v := .agg #[.slice A7 nf c7, .int .i64 (tf : Int), .bool ovf, .bool lif]) rfl (by kernel_rfl) (by kernel_rfl) (by kernel_rfl) (fun _ _ _ h => h) (Or.inl ⟨by rfl, fun W hW => ?_⟩) hHeld ?_
        · obtain ⟨q0, q1, q2, q3, q4, q5, q6, q7⟩ := hW
          go_simp
        simp only [Act.put, List.setIfInBounds_toArray, List.set_cons_zero, List.set_cons_succ]
        refine wpAnyH_take (i := 5) (oi := { dst := some 83, op := Op.move (Operand.tmp 11), type := 28, pos := "law.go:63", after := #[], guard := none }) (v := .slice Bs ms ds) rfl (by kernel_rfl) (by kernel_rfl) (by kernel_rfl) (fun _ _ _ h => h) (Or.inl ⟨by rfl, fun W hW => ?_⟩) hHeld ?_
        · obtain ⟨q0, q1, q2, q3, q4, q5, q6, q7⟩ := hW
          go_simp
        simp only [Act.put, List.setIfInBounds_toArray, List.set_cons_zero, List.set_cons_succ]
        refine wpAnyH_take (i := 6) (oi := { dst := some 84, op := Op.fieldAddr 41 (Operand.tmp 14) 0, type := 0, pos := "law.go:63", after := #[], guard := none }) (v := .pointer (some ⟨b14, 0, none⟩)) rfl (by kernel_rfl) (by kernel_rfl) (by kernel_rfl) (fun _ _ _ h => h) (Or.inl ⟨by rfl, fun W hW => ?_⟩) hHeld ?_
        · obtain ⟨q0, q1, q2, q3, q4, q5, q6, q7⟩ := hW
          go_simp
        simp only [Act.put, List.setIfInBounds_toArray, List.set_cons_zero, List.set_cons_succ]
        refine wpAnyH_take (i := 7) (oi := { dst := some 85, op := Op.load 28 (Operand.tmp 84), type := 28, pos := "law.go:63", after := #[{ on := 6, ground := Ground.data }], guard := none }) (v := .slice Bk mk dq) rfl (by kernel_rfl) (by kernel_rfl) (by kernel_rfl) (fun _ _ _ h => h) (Or.inl ⟨by rfl, fun W hW => ?_⟩) hHeld ?_
        · obtain ⟨q0, q1, q2, q3, q4, q5, q6, q7⟩ := hW
          go_simp
        simp only [Act.put, List.setIfInBounds_toArray, List.set_cons_zero, List.set_cons_succ]
        refine wpAnyH_ready (rs := [8, 14]) (by kernel_rfl) (by simp) ?_
        refine AllReadyH.cons (o := { dst := some 86, op := Op.call { callee := Callee.builtin Builtin.append, args := #[Operand.tmp 83, Operand.tmp 85], argTypes := #[28, 28] }, type := 28, pos := "law.go:63", after := #[{ on := 5, ground := Ground.data }, { on := 7, ground := Ground.data }], guard := none }) rfl (fun K hK => ?_) (AllReadyH.cons (o := { dst := some 18, op := Op.alloc 32, type := 0, pos := "law.go:63", after := #[], guard := none }) rfl (fun K hK => ?_) AllReadyH.nil)
        · refine step_app _ rfl (.tmp 83) (.tmp 85) rfl V.heap.size (.slice Bs ms ds) sn rfl HOS.out _ Bk mk dq ks rfl HMK.out.symm HRK.out ?_ (CB.fs (CB.drew HCB.out)) ?_
          · exact Nat.le_trans HLK.out (by omega)
          intro vx1 wx1 hox1 hgx1 hatx1
          have hbx1 := CB.grow (CB.drew HCB.out) HOS.out HLT.out hgx1
          obtain ⟨Dx1, dx1, hvx1e, hrx1⟩ := hox1.rd
          rw [show (sn ++ ks).length = kk from HKK.out] at hvx1e
          subst hvx1e
          clear hox1 hgx1 hatx1
          refine hK.out _ _ (sSame HDV.out H7V.out hbx1 (by have h0 := HDV0.out; omega) (by omega)) (fun hHeld2 => ?_)
          clear hK K hHeld
          have hHeld := hHeld2
          clear hHeld2
          try simp only [Act.put, List.setIfInBounds_toArray, List.set_cons_zero, List.set_cons_succ]
          refine wpAnyH_ready (rs := [9, 14]) (by kernel_rfl) (by simp) ?_
          refine AllReadyH.cons (o := { dst := some 87, op := Op.call { callee := Callee.value (Operand.func 21), args := #[Operand.tmp 79, Operand.tmp 81, Operand.tmp 82, Operand.tmp 86], argTypes := #[25, 3, 32, 28] }, type := 58, pos := "law.go:63", after := #[{ on := 1, ground := Ground.data }, { on := 3, ground := Ground.data }, { on := 4, ground := Ground.data }, { on := 8, ground := Ground.data }, { on := 8, ground := Ground.chain }], guard := none }) rfl (fun K hK => ?_) (AllReadyH.cons (o := { dst := some 18, op := Op.alloc 32, type := 0, pos := "law.go:63", after := #[], guard := none }) rfl (fun K hK => ?_) AllReadyH.nil)
          · go_simp
            with_reducible refine (CPL.out wx1 Dx1 dx1 (r7_of H5V.out HR7.out hbx1) hrx1).mono ?_
            rintro e wx2 ⟨Af, cf, Bb, db, Lb, rfl, hlx2, hmx2, hrx2, hex2, hcx2, hfx2, _, _⟩
            have hbx2 := CB.call hbx1 hcx2
            have hsx2 := hbx1.fs
            have hfbx2 : ∀ g, (Value.slice Bb me db).ownBlock = some g → V.heap.size ≤ g := fun g hg => Nat.le_trans hsx2 (hfx2 g hg)
            go_wp2_with fail
            refine hK.out _ _ (sSame HDV.out H7V.out hbx2 (by have h0 := HDV0.out; omega) (by omega)) (fun hHeld2 => ?_)
            clear hK K hHeld
            have hHeld := hHeld2
            clear hHeld2
            try simp only [Act.put, List.setIfInBounds_toArray, List.set_cons_zero, List.set_cons_succ]
            refine wpAnyH_take (i := 10) (oi := { dst := some 77, op := Op.move (Operand.tmp 87), type := 58, pos := "law.go:63", after := #[{ on := 9, ground := Ground.data }], guard := none }) (v := .tuple #[.agg #[.slice Af nf2 cf, .int .i64 (tf2 : Int), .bool ovf2, .bool lif2], .slice Bb me db, .int .i64 (b2 : Int)]) rfl (by kernel_rfl) (by kernel_rfl) (by kernel_rfl) (fun _ _ _ h => h) (Or.inl ⟨by rfl, fun W hW => ?_⟩) hHeld ?_
            · obtain ⟨q0, q1, q2, q3, q4, q5, q6, q7⟩ := hW
              go_simp
            simp only [Act.put, List.setIfInBounds_toArray, List.set_cons_zero, List.set_cons_succ]
            refine wpAnyH_take (i := 11) (oi := { dst := some 88, op := Op.extract (Operand.tmp 77) 0, type := 32, pos := "law.go:63", after := #[{ on := 10, ground := Ground.data }], guard := none }) (v := .agg #[.slice Af nf2 cf, .int .i64 (tf2 : Int), .bool ovf2, .bool lif2]) rfl (by kernel_rfl) (by kernel_rfl) (by kernel_rfl) (fun _ _ _ h => h) (Or.inl ⟨by rfl, fun W hW => ?_⟩) hHeld ?_
            · obtain ⟨q0, q1, q2, q3, q4, q5, q6, q7⟩ := hW
              go_simp
            simp only [Act.put, List.setIfInBounds_toArray, List.set_cons_zero, List.set_cons_succ]
            refine wpAnyH_take (i := 12) (oi := { dst := some 89, op := Op.extract (Operand.tmp 77) 1, type := 53, pos := "law.go:63", after := #[{ on := 10, ground := Ground.data }, { on := 15, ground := Ground.gcOnly Departure.lateStores }], guard := none }) (v := .slice Bb me db) rfl (by kernel_rfl) (by kernel_rfl) (by kernel_rfl) (fun _ _ _ h => h) (Or.inl ⟨by rfl, fun W hW => ?_⟩) hHeld ?_
            · obtain ⟨q0, q1, q2, q3, q4, q5, q6, q7⟩ := hW
              go_simp
            simp only [Act.put, List.setIfInBounds_toArray, List.set_cons_zero, List.set_cons_succ]
            refine wpAnyH_take (i := 13) (oi := { dst := some 90, op := Op.extract (Operand.tmp 77) 2, type := 3, pos := "law.go:63", after := #[{ on := 10, ground := Ground.data }, { on := 16, ground := Ground.gcOnly Departure.lateStores }], guard := none }) (v := .int .i64 (b2 : Int)) rfl (by kernel_rfl) (by kernel_rfl) (by kernel_rfl) (fun _ _ _ h => h) (Or.inl ⟨by rfl, fun W hW => ?_⟩) hHeld ?_
            · obtain ⟨q0, q1, q2, q3, q4, q5, q6, q7⟩ := hW
              go_simp
            simp only [Act.put, List.setIfInBounds_toArray, List.set_cons_zero, List.set_cons_succ]
            refine wpAnyH_ready (rs := [14]) (by kernel_rfl) (by simp) ?_
            refine AllReadyH.cons (o := { dst := some 18, op := Op.alloc 32, type := 0, pos := "law.go:63", after := #[], guard := none }) rfl (fun K hK => ?_) AllReadyH.nil
            go_simp
            have hax3 : Below wx2.heap.size wx2 (wx2.alloc (.cells #[.slice none 0 0, .int .i64 0, .bool false, .bool false] 32)) := (bAlloc (Below.refl wx2.heap.size wx2) (.cells #[.slice none 0 0, .int .i64 0, .bool false, .bool false] 32))
            have hbx3 := CB.call (W := wx2) hbx2 hax3
            have hzx3 : SR 32 (wx2.alloc (.cells #[.slice none 0 0, .int .i64 0, .bool false, .bool false] 32)) (wx2.heap.size) [.slice none 0 0, .int .i64 0, .bool false, .bool false] := SR.new 32 (wx2) [.slice none 0 0, .int .i64 0, .bool false, .bool false]
            have hvx3 : Vp.heap.size ≤ wx2.heap.size := by have h1 := CB.s15 (W := wx2) hbx2; have h2 := CB.p15 hbx2; have h3 := h1.lt; omega
            have hq9 : b14 ≠ wx2.heap.size ∧ b15 ≠ wx2.heap.size := ⟨Nat.ne_of_lt (SR.lt (CB.s14 (W := wx2) hbx2)), Nat.ne_of_lt (SR.lt (CB.s15 (W := wx2) hbx2))⟩
            have hfx3 := (hrx2).at_ hax3
            have hex3 := (hex2).at_ hax3
            refine hK.out _ _ (sSame HDV.out H7V.out hbx3 (by have h0 := HDV0.out; omega) (by omega)) (fun hHeld2 => ?_)
            clear hK K hHeld
            have hHeld := hHeld2
            clear hHeld2
            try simp only [Act.put, List.setIfInBounds_toArray, List.set_cons_zero, List.set_cons_succ]
            generalize hWx3 : wx2.alloc (.cells #[.slice none 0 0, .int .i64 0, .bool false, .bool false] 32) = Wx3 at *
            clear hWx3
            obtain ⟨y0, y1, y2, y3, y4, y5, y6, y7, y8⟩ := st_facts hzx3
            have HM := keepd (same_end hbx3 hzx3 hvx3 HVP2.out hlx2 hmx2 hfx3 hex3 hfbx2 hq9.1 hq9.2 (cf := cf) (n := nf2) (z := (tf2 : Int)) (ov := ovf2) (li := lif2))
            refine wpAnyH_ready (rs := [15]) (by kernel_rfl) (by simp) ?_
            refine AllReadyH.cons (o := { dst := none, op := Op.store 32 (Operand.tmp 18) (Operand.tmp 88), type := 0, pos := "law.go:63", after := #[{ on := 14, ground := Ground.data }, { on := 11, ground := Ground.data }, { on := 9, ground := Ground.chain }, { on := 0, ground := Ground.phase }, { on := 1, ground := Ground.phase }, { on := 2, ground := Ground.phase }, { on := 3, ground := Ground.phase }, { on := 4, ground := Ground.phase }, { on := 5, ground := Ground.phase }, { on := 6, ground := Ground.phase }, { on := 7, ground := Ground.phase }, { on := 8, ground := Ground.phase }, { on := 9, ground := Ground.phase }, { on := 10, ground := Ground.phase }, { on := 11, ground := Ground.phase }, { on := 12, ground := Ground.textOnly Departure.lateStores }, { on := 13, ground := Ground.textOnly Departure.lateStores }, { on := 14, ground := Ground.phase }], guard := none }) rfl (fun K hK => ?_) AllReadyH.nil
            go_simp
            refine hK.out _ (set4 Wx3 wx2.heap.size (.slice Af nf2 cf) (.int .i64 (tf2 : Int)) (.bool ovf2) (.bool lif2)) (sSame HDV.out H7V.out HM.out.1 (by have h0 := HDV0.out; omega) (by omega)) (fun hHeld2 => ?_)
            clear hK K hHeld
            have hHeld := hHeld2
            clear hHeld2
            try simp only [Act.put, List.setIfInBounds_toArray, List.set_cons_zero, List.set_cons_succ]
            refine wpAnyH_take (i := 16) (oi := { dst := some 19, op := Op.assign (Operand.tmp 89), type := 53, pos := "law.go:63", after := #[{ on := 12, ground := Ground.data }, { on := 15, ground := Ground.chain }, { on := 0, ground := Ground.phase }, { on := 1, ground := Ground.phase }, { on := 2, ground := Ground.phase }, { on := 3, ground := Ground.phase }, { on := 4, ground := Ground.phase }, { on := 5, ground := Ground.phase }, { on := 6, ground := Ground.phase }, { on := 7, ground := Ground.phase }, { on := 8, ground := Ground.phase }, { on := 9, ground := Ground.phase }, { on := 10, ground := Ground.phase }, { on := 11, ground := Ground.phase }, { on := 12, ground := Ground.phase }, { on := 13, ground := Ground.textOnly Departure.lateStores }, { on := 14, ground := Ground.phase }, { on := 15, ground := Ground.phase }], guard := none }) (v := .slice Bb me db) rfl (by kernel_rfl) (by kernel_rfl) (by kernel_rfl) (fun _ _ _ h => h) (Or.inl ⟨by rfl, fun W hW => ?_⟩) hHeld ?_
            · obtain ⟨q0, q1, q2, q3, q4, q5, q6, q7⟩ := hW
              go_simp
            simp only [Act.put, List.setIfInBounds_toArray, List.set_cons_zero, List.set_cons_succ]
            refine wpAnyH_take (i := 17) (oi := { dst := some 20, op := Op.assign (Operand.tmp 90), type := 3, pos := "law.go:63", after := #[{ on := 13, ground := Ground.data }, { on := 16, ground := Ground.chain }, { on := 0, ground := Ground.phase }, { on := 1, ground := Ground.phase }, { on := 2, ground := Ground.phase }, { on := 3, ground := Ground.phase }, { on := 4, ground := Ground.phase }, { on := 5, ground := Ground.phase }, { on := 6, ground := Ground.phase }, { on := 7, ground := Ground.phase }, { on := 8, ground := Ground.phase }, { on := 9, ground := Ground.phase }, { on := 10, ground := Ground.phase }, { on := 11, ground := Ground.phase }, { on := 12, ground := Ground.phase }, { on := 13, ground := Ground.phase }, { on := 14, ground := Ground.phase }, { on := 15, ground := Ground.phase }, { on := 16, ground := Ground.phase }], guard := none }) (v := .int .i64 (b2 : Int)) rfl (by kernel_rfl) (by kernel_rfl) (by kernel_rfl) (fun _ _ _ h => h) (Or.inl ⟨by rfl, fun W hW => ?_⟩) hHeld ?_
            · obtain ⟨q0, q1, q2, q3, q4, q5, q6, q7⟩ := hW
              go_simp
            simp only [Act.put, List.setIfInBounds_toArray, List.set_cons_zero, List.set_cons_succ]
            refine wpAnyH_done (by kernel_rfl) ?_ _
            go_wp2_with fail
            go_meet
            exact ⟨_, _, _, _, _, rfl, rfl, rfl, HM⟩
          · go_simp
            have hax4 : Below wx1.heap.size wx1 (wx1.alloc (.cells #[.slice none 0 0, .int .i64 0, .bool false, .bool false] 32)) := (bAlloc (Below.refl wx1.heap.size wx1) (.cells #[.slice none 0 0, .int .i64 0, .bool false, .bool false] 32))
            have hbx4 := CB.call (W := wx1) hbx1 hax4
            have hzx4 : SR 32 (wx1.alloc (.cells #[.slice none 0 0, .int .i64 0, .bool false, .bool false] 32)) (wx1.heap.size) [.slice none 0 0, .int .i64 0, .bool false, .bool false] := SR.new 32 (wx1) [.slice none 0 0, .int .i64 0, .bool false, .bool false]
            have hvx4 : Vp.heap.size ≤ wx1.heap.size := by have h1 := CB.s15 (W := wx1) hbx1; have h2 := CB.p15 hbx1; have h3 := h1.lt; omega
            have hq9 : b14 ≠ wx1.heap.size ∧ b15 ≠ wx1.heap.size := ⟨Nat.ne_of_lt (SR.lt (CB.s14 (W := wx1) hbx1)), Nat.ne_of_lt (SR.lt (CB.s15 (W := wx1) hbx1))⟩
            have hrx4 := (hrx1).at_ hax4
            refine hK.out _ _ (sSame HDV.out H7V.out hbx4 (by have h0 := HDV0.out; omega) (by omega)) (fun hHeld2 => ?_)
            clear hK K hHeld
            have hHeld := hHeld2
            clear hHeld2
            try simp only [Act.put, List.setIfInBounds_toArray, List.set_cons_zero, List.set_cons_succ]
            generalize hWx4 : wx1.alloc (.cells #[.slice none 0 0, .int .i64 0, .bool false, .bool false] 32) = Wx4 at *
            clear hWx4
            refine wpAnyH_ready (rs := [9]) (by kernel_rfl) (by simp) ?_
            refine AllReadyH.cons (o := { dst := some 87, op := Op.call { callee := Callee.value (Operand.func 21), args := #[Operand.tmp 79, Operand.tmp 81, Operand.tmp 82, Operand.tmp 86], argTypes := #[25, 3, 32, 28] }, type := 58, pos := "law.go:63", after := #[{ on := 1, ground := Ground.data }, { on := 3, ground := Ground.data }, { on := 4, ground := Ground.data }, { on := 8, ground := Ground.data }, { on := 8, ground := Ground.chain }], guard := none }) rfl (fun K hK => ?_) AllReadyH.nil
            go_simp
            with_reducible refine (CPL.out Wx4 Dx1 dx1 (r7_of H5V.out HR7.out hbx4) hrx4).mono ?_
            rintro e wx5 ⟨Af, cf, Bb, db, Lb, rfl, hlx5, hmx5, hrx5, hex5, hcx5, hfx5, _, _⟩
            have hbx5 := CB.call hbx4 hcx5
            have hsx5 := hbx4.fs
            have hzx5_14 := SR.call hzx4 hcx5 (hzx4).lt
            have hfbx5 : ∀ g, (Value.slice Bb me db).ownBlock = some g → V.heap.size ≤ g := fun g hg => Nat.le_trans hsx5 (hfx5 g hg)
            go_wp2_with fail
            refine hK.out _ _ (sSame HDV.out H7V.out hbx5 (by have h0 := HDV0.out; omega) (by omega)) (fun hHeld2 => ?_)
            clear hK K hHeld
            have hHeld := hHeld2
            clear hHeld2
            try simp only [Act.put, List.setIfInBounds_toArray, List.set_cons_zero, List.set_cons_succ]
            refine wpAnyH_take (i := 10) (oi := { dst := some 77, op := Op.move (Operand.tmp 87), type := 58, pos := "law.go:63", after := #[{ on := 9, ground := Ground.data }], guard := none }) (v := .tuple #[.agg #[.slice Af nf2 cf, .int .i64 (tf2 : Int), .bool ovf2, .bool lif2], .slice Bb me db, .int .i64 (b2 : Int)]) rfl (by kernel_rfl) (by kernel_rfl) (by kernel_rfl) (fun _ _ _ h => h) (Or.inl ⟨by rfl, fun W hW => ?_⟩) hHeld ?_
            · obtain ⟨q0, q1, q2, q3, q4, q5, q6, q7⟩ := hW
              go_simp
            simp only [Act.put, List.setIfInBounds_toArray, List.set_cons_zero, List.set_cons_succ]
            refine wpAnyH_take (i := 11) (oi := { dst := some 88, op := Op.extract (Operand.tmp 77) 0, type := 32, pos := "law.go:63", after := #[{ on := 10, ground := Ground.data }], guard := none }) (v := .agg #[.slice Af nf2 cf, .int .i64 (tf2 : Int), .bool ovf2, .bool lif2]) rfl (by kernel_rfl) (by kernel_rfl) (by kernel_rfl) (fun _ _ _ h => h) (Or.inl ⟨by rfl, fun W hW => ?_⟩) hHeld ?_
            · obtain ⟨q0, q1, q2, q3, q4, q5, q6, q7⟩ := hW
              go_simp
            simp only [Act.put, List.setIfInBounds_toArray, List.set_cons_zero, List.set_cons_succ]
            refine wpAnyH_take (i := 12) (oi := { dst := some 89, op := Op.extract (Operand.tmp 77) 1, type := 53, pos := "law.go:63", after := #[{ on := 10, ground := Ground.data }, { on := 15, ground := Ground.gcOnly Departure.lateStores }], guard := none }) (v := .slice Bb me db) rfl (by kernel_rfl) (by kernel_rfl) (by kernel_rfl) (fun _ _ _ h => h) (Or.inl ⟨by rfl, fun W hW => ?_⟩) hHeld ?_
            · obtain ⟨q0, q1, q2, q3, q4, q5, q6, q7⟩ := hW
              go_simp
            simp only [Act.put, List.setIfInBounds_toArray, List.set_cons_zero, List.set_cons_succ]
            refine wpAnyH_take (i := 13) (oi := { dst := some 90, op := Op.extract (Operand.tmp 77) 2, type := 3, pos := "law.go:63", after := #[{ on := 10, ground := Ground.data }, { on := 16, ground := Ground.gcOnly Departure.lateStores }], guard := none }) (v := .int .i64 (b2 : Int)) rfl (by kernel_rfl) (by kernel_rfl) (by kernel_rfl) (fun _ _ _ h => h) (Or.inl ⟨by rfl, fun W hW => ?_⟩) hHeld ?_
            · obtain ⟨q0, q1, q2, q3, q4, q5, q6, q7⟩ := hW
              go_simp
            simp only [Act.put, List.setIfInBounds_toArray, List.set_cons_zero, List.set_cons_succ]
            obtain ⟨y0, y1, y2, y3, y4, y5, y6, y7, y8⟩ := st_facts hzx5_14
            have HM := keepd (same_end hbx5 hzx5_14 hvx4 HVP2.out hlx5 hmx5 hrx5 hex5 hfbx5 hq9.1 hq9.2 (cf := cf) (n := nf2) (z := (tf2 : Int)) (ov := ovf2) (li := lif2))
            refine wpAnyH_ready (rs := [15]) (by kernel_rfl) (by simp) ?_
            refine AllReadyH.cons (o := { dst := none, op := Op.store 32 (Operand.tmp 18) (Operand.tmp 88), type := 0, pos := "law.go:63", after := #[{ on := 14, ground := Ground.data }, { on := 11, ground := Ground.data }, { on := 9, ground := Ground.chain }, { on := 0, ground := Ground.phase }, { on := 1, ground := Ground.phase }, { on := 2, ground := Ground.phase }, { on := 3, ground := Ground.phase }, { on := 4, ground := Ground.phase }, { on := 5, ground := Ground.phase }, { on := 6, ground := Ground.phase }, { on := 7, ground := Ground.phase }, { on := 8, ground := Ground.phase }, { on := 9, ground := Ground.phase }, { on := 10, ground := Ground.phase }, { on := 11, ground := Ground.phase }, { on := 12, ground := Ground.textOnly Departure.lateStores }, { on := 13, ground := Ground.textOnly Departure.lateStores }, { on := 14, ground := Ground.phase }], guard := none }) rfl (fun K hK => ?_) AllReadyH.nil
            go_simp
            refine hK.out _ (set4 wx5 wx1.heap.size (.slice Af nf2 cf) (.int .i64 (tf2 : Int)) (.bool ovf2) (.bool lif2)) (sSame HDV.out H7V.out HM.out.1 (by have h0 := HDV0.out; omega) (by omega)) (fun hHeld2 => ?_)
            clear hK K hHeld
            have hHeld := hHeld2
            clear hHeld2
            try simp only [Act.put, List.setIfInBounds_toArray, List.set_cons_zero, List.set_cons_succ]
            refine wpAnyH_take (i := 16) (oi := { dst := some 19, op := Op.assign (Operand.tmp 89), type := 53, pos := "law.go:63", after := #[{ on := 12, ground := Ground.data }, { on := 15, ground := Ground.chain }, { on := 0, ground := Ground.phase }, { on := 1, ground := Ground.phase }, { on := 2, ground := Ground.phase }, { on := 3, ground := Ground.phase }, { on := 4, ground := Ground.phase }, { on := 5, ground := Ground.phase }, { on := 6, ground := Ground.phase }, { on := 7, ground := Ground.phase }, { on := 8, ground := Ground.phase }, { on := 9, ground := Ground.phase }, { on := 10, ground := Ground.phase }, { on := 11, ground := Ground.phase }, { on := 12, ground := Ground.phase }, { on := 13, ground := Ground.textOnly Departure.lateStores }, { on := 14, ground := Ground.phase }, { on := 15, ground := Ground.phase }], guard := none }) (v := .slice Bb me db) rfl (by kernel_rfl) (by kernel_rfl) (by kernel_rfl) (fun _ _ _ h => h) (Or.inl ⟨by rfl, fun W hW => ?_⟩) hHeld ?_
            · obtain ⟨q0, q1, q2, q3, q4, q5, q6, q7⟩ := hW
              go_simp
            simp only [Act.put, List.setIfInBounds_toArray, List.set_cons_zero, List.set_cons_succ]
            refine wpAnyH_take (i := 17) (oi := { dst := some 20, op := Op.assign (Operand.tmp 90), type := 3, pos := "law.go:63", after := #[{ on := 13, ground := Ground.data }, { on := 16, ground := Ground.chain }, { on := 0, ground := Ground.phase }, { on := 1, ground := Ground.phase }, { on := 2, ground := Ground.phase }, { on := 3, ground := Ground.phase }, { on := 4, ground := Ground.phase }, { on := 5, ground := Ground.phase }, { on := 6, ground := Ground.phase }, { on := 7, ground := Ground.phase }, { on := 8, ground := Ground.phase }, { on := 9, ground := Ground.phase }, { on := 10, ground := Ground.phase }, { on := 11, ground := Ground.phase }, { on := 12, ground := Ground.phase }, { on := 13, ground := Ground.phase }, { on := 14, ground := Ground.phase }, { on := 15, ground := Ground.phase }, { on := 16, ground := Ground.phase }], guard := none }) (v := .int .i64 (b2 : Int)) rfl (by kernel_rfl) (by kernel_rfl) (by kernel_rfl) (fun _ _ _ h => h) (Or.inl ⟨by rfl, fun W hW => ?_⟩) hHeld ?_
            · obtain ⟨q0, q1, q2, q3, q4, q5, q6, q7⟩ := hW
              go_simp
            simp only [Act.put, List.setIfInBounds_toArray, List.set_cons_zero, List.set_cons_succ]
            refine wpAnyH_done (by kernel_rfl) ?_ _
            go_wp2_with fail
            go_meet
            exact ⟨_, _, _, _, _, rfl, rfl, rfl, HM⟩
        · go_simp
          have hax6 : Below V13.heap.size V13 ((V13.alloc (.cells #[.slice none 0 0, .int .i64 0, .bool false, .bool false] 32)).drew) := (Below.drew (bAlloc (Below.refl V13.heap.size V13) (.cells #[.slice none 0 0, .int .i64 0, .bool false, .bool false] 32)))
          have hbx6 := CB.call (W := V13) HCB.out hax6
          have hzx6 : SR 32 ((V13.alloc (.cells #[.slice none 0 0, .int .i64 0, .bool false, .bool false] 32)).drew) (V13.heap.size) [.slice none 0 0, .int .i64 0, .bool false, .bool false] := SR.new 32 (V13) [.slice none 0 0, .int .i64 0, .bool false, .bool false]
          have hvx6 : Vp.heap.size ≤ V13.heap.size := by have h1 := CB.s15 (W := V13) HCB.out; have h2 := CB.p15 HCB.out; have h3 := h1.lt; omega
          have hq9 : b14 ≠ V13.heap.size ∧ b15 ≠ V13.heap.size := ⟨Nat.ne_of_lt (SR.lt (CB.s14 (W := V13) HCB.out)), Nat.ne_of_lt (SR.lt (CB.s15 (W := V13) HCB.out))⟩
          have hkx6 := (HRK.out).at_ hax6
          have hox6 := Own.below (w := V13) HOS.out hax6
          refine hK.out _ _ (sSame HDV.out H7V.out hbx6 (by have h0 := HDV0.out; omega) (by omega)) (fun hHeld2 => ?_)
          clear hK K hHeld
          have hHeld := hHeld2
          clear hHeld2
          try simp only [Act.put, List.setIfInBounds_toArray, List.set_cons_zero, List.set_cons_succ]
          generalize hWx6 : (V13.alloc (.cells #[.slice none 0 0, .int .i64 0, .bool false, .bool false] 32)).drew = Wx6 at *
          clear hWx6
          refine wpAnyH_ready (rs := [8]) (by kernel_rfl) (by simp) ?_
          refine AllReadyH.cons (o := { dst := some 86, op := Op.call { callee := Callee.builtin Builtin.append, args := #[Operand.tmp 83, Operand.tmp 85], argTypes := #[28, 28] }, type := 28, pos := "law.go:63", after := #[{ on := 5, ground := Ground.data }, { on := 7, ground := Ground.data }], guard := none }) rfl (fun K hK => ?_) AllReadyH.nil
          refine step_app _ rfl (.tmp 83) (.tmp 85) rfl V.heap.size (.slice Bs ms ds) sn rfl hox6 _ Bk mk dq ks rfl HMK.out.symm hkx6 ?_ (CB.fs hbx6) ?_
          · exact Nat.le_trans HLK.out (by omega)
          intro vx7 wx7 hox7 hgx7 hatx7
          have hbx7 := CB.grow hbx6 hox6 HLT.out hgx7
          have hzx7_14 := sr_grow hzx6 hgx7 (by intro e; have h0 := HLT.out _ e; have h1 := hvx6; omega)
          obtain ⟨Dx7, dx7, hvx7e, hrx7⟩ := hox7.rd
          rw [show (sn ++ ks).length = kk from HKK.out] at hvx7e
          subst hvx7e
          clear hox7 hgx7 hatx7
          refine hK.out _ _ (sSame HDV.out H7V.out hbx7 (by have h0 := HDV0.out; omega) (by omega)) (fun hHeld2 => ?_)
          clear hK K hHeld
          have hHeld := hHeld2
          clear hHeld2
          try simp only [Act.put, List.setIfInBounds_toArray, List.set_cons_zero, List.set_cons_succ]
          refine wpAnyH_ready (rs := [9]) (by kernel_rfl) (by simp) ?_
          refine AllReadyH.cons (o := { dst := some 87, op := Op.call { callee := Callee.value (Operand.func 21), args := #[Operand.tmp 79, Operand.tmp 81, Operand.tmp 82, Operand.tmp 86], argTypes := #[25, 3, 32, 28] }, type := 58, pos := "law.go:63", after := #[{ on := 1, ground := Ground.data }, { on := 3, ground := Ground.data }, { on := 4, ground := Ground.data }, { on := 8, ground := Ground.data }, { on := 8, ground := Ground.chain }], guard := none }) rfl (fun K hK => ?_) AllReadyH.nil
          go_simp
          with_reducible refine (CPL.out wx7 Dx7 dx7 (r7_of H5V.out HR7.out hbx7) hrx7).mono ?_
          rintro e wx8 ⟨Af, cf, Bb, db, Lb, rfl, hlx8, hmx8, hrx8, hex8, hcx8, hfx8, _, _⟩
          have hbx8 := CB.call hbx7 hcx8
          have hsx8 := hbx7.fs
          have hzx8_14 := SR.call hzx7_14 hcx8 (hzx7_14).lt
          have hfbx8 : ∀ g, (Value.slice Bb me db).ownBlock = some g → V.heap.size ≤ g := fun g hg => Nat.le_trans hsx8 (hfx8 g hg)
          go_wp2_with fail
          refine hK.out _ _ (sSame HDV.out H7V.out hbx8 (by have h0 := HDV0.out; omega) (by omega)) (fun hHeld2 => ?_)
          clear hK K hHeld
          have hHeld := hHeld2
          clear hHeld2
          try simp only [Act.put, List.setIfInBounds_toArray, List.set_cons_zero, List.set_cons_succ]
          refine wpAnyH_take (i := 10) (oi := { dst := some 77, op := Op.move (Operand.tmp 87), type := 58, pos := "law.go:63", after := #[{ on := 9, ground := Ground.data }], guard := none }) (v := .tuple #[.agg #[.slice Af nf2 cf, .int .i64 (tf2 : Int), .bool ovf2, .bool lif2], .slice Bb me db, .int .i64 (b2 : Int)]) rfl (by kernel_rfl) (by kernel_rfl) (by kernel_rfl) (fun _ _ _ h => h) (Or.inl ⟨by rfl, fun W hW => ?_⟩) hHeld ?_
          · obtain ⟨q0, q1, q2, q3, q4, q5, q6, q7⟩ := hW
            go_simp
          simp only [Act.put, List.setIfInBounds_toArray, List.set_cons_zero, List.set_cons_succ]
          refine wpAnyH_take (i := 11) (oi := { dst := some 88, op := Op.extract (Operand.tmp 77) 0, type := 32, pos := "law.go:63", after := #[{ on := 10, ground := Ground.data }], guard := none }) (v := .agg #[.slice Af nf2 cf, .int .i64 (tf2 : Int), .bool ovf2, .bool lif2]) rfl (by kernel_rfl) (by kernel_rfl) (by kernel_rfl) (fun _ _ _ h => h) (Or.inl ⟨by rfl, fun W hW => ?_⟩) hHeld ?_
          · obtain ⟨q0, q1, q2, q3, q4, q5, q6, q7⟩ := hW
            go_simp
          simp only [Act.put, List.setIfInBounds_toArray, List.set_cons_zero, List.set_cons_succ]
          refine wpAnyH_take (i := 12) (oi := { dst := some 89, op := Op.extract (Operand.tmp 77) 1, type := 53, pos := "law.go:63", after := #[{ on := 10, ground := Ground.data }, { on := 15, ground := Ground.gcOnly Departure.lateStores }], guard := none }) (v := .slice Bb me db) rfl (by kernel_rfl) (by kernel_rfl) (by kernel_rfl) (fun _ _ _ h => h) (Or.inl ⟨by rfl, fun W hW => ?_⟩) hHeld ?_
          · obtain ⟨q0, q1, q2, q3, q4, q5, q6, q7⟩ := hW
            go_simp
          simp only [Act.put, List.setIfInBounds_toArray, List.set_cons_zero, List.set_cons_succ]
          refine wpAnyH_take (i := 13) (oi := { dst := some 90, op := Op.extract (Operand.tmp 77) 2, type := 3, pos := "law.go:63", after := #[{ on := 10, ground := Ground.data }, { on := 16, ground := Ground.gcOnly Departure.lateStores }], guard := none }) (v := .int .i64 (b2 : Int)) rfl (by kernel_rfl) (by kernel_rfl) (by kernel_rfl) (fun _ _ _ h => h) (Or.inl ⟨by rfl, fun W hW => ?_⟩) hHeld ?_
          · obtain ⟨q0, q1, q2, q3, q4, q5, q6, q7⟩ := hW
            go_simp
          simp only [Act.put, List.setIfInBounds_toArray, List.set_cons_zero, List.set_cons_succ]
          obtain ⟨y0, y1, y2, y3, y4, y5, y6, y7, y8⟩ := st_facts hzx8_14
          have HM := keepd (same_end hbx8 hzx8_14 hvx6 HVP2.out hlx8 hmx8 hrx8 hex8 hfbx8 hq9.1 hq9.2 (cf := cf) (n := nf2) (z := (tf2 : Int)) (ov := ovf2) (li := lif2))
          refine wpAnyH_ready (rs := [15]) (by kernel_rfl) (by simp) ?_
          refine AllReadyH.cons (o := { dst := none, op := Op.store 32 (Operand.tmp 18) (Operand.tmp 88), type := 0, pos := "law.go:63", after := #[{ on := 14, ground := Ground.data }, { on := 11, ground := Ground.data }, { on := 9, ground := Ground.chain }, { on := 0, ground := Ground.phase }, { on := 1, ground := Ground.phase }, { on := 2, ground := Ground.phase }, { on := 3, ground := Ground.phase }, { on := 4, ground := Ground.phase }, { on := 5, ground := Ground.phase }, { on := 6, ground := Ground.phase }, { on := 7, ground := Ground.phase }, { on := 8, ground := Ground.phase }, { on := 9, ground := Ground.phase }, { on := 10, ground := Ground.phase }, { on := 11, ground := Ground.phase }, { on := 12, ground := Ground.textOnly Departure.lateStores }, { on := 13, ground := Ground.textOnly Departure.lateStores }, { on := 14, ground := Ground.phase }], guard := none }) rfl (fun K hK => ?_) AllReadyH.nil
          go_simp
          refine hK.out _ (set4 wx8 V13.heap.size (.slice Af nf2 cf) (.int .i64 (tf2 : Int)) (.bool ovf2) (.bool lif2)) (sSame HDV.out H7V.out HM.out.1 (by have h0 := HDV0.out; omega) (by omega)) (fun hHeld2 => ?_)
          clear hK K hHeld
          have hHeld := hHeld2
          clear hHeld2
          try simp only [Act.put, List.setIfInBounds_toArray, List.set_cons_zero, List.set_cons_succ]
          refine wpAnyH_take (i := 16) (oi := { dst := some 19, op := Op.assign (Operand.tmp 89), type := 53, pos := "law.go:63", after := #[{ on := 12, ground := Ground.data }, { on := 15, ground := Ground.chain }, { on := 0, ground := Ground.phase }, { on := 1, ground := Ground.phase }, { on := 2, ground := Ground.phase }, { on := 3, ground := Ground.phase }, { on := 4, ground := Ground.phase }, { on := 5, ground := Ground.phase }, { on := 6, ground := Ground.phase }, { on := 7, ground := Ground.phase }, { on := 8, ground := Ground.phase }, { on := 9, ground := Ground.phase }, { on := 10, ground := Ground.phase }, { on := 11, ground := Ground.phase }, { on := 12, ground := Ground.phase }, { on := 13, ground := Ground.textOnly Departure.lateStores }, { on := 14, ground := Ground.phase }, { on := 15, ground := Ground.phase }], guard := none }) (v := .slice Bb me db) rfl (by kernel_rfl) (by kernel_rfl) (by kernel_rfl) (fun _ _ _ h => h) (Or.inl ⟨by rfl, fun W hW => ?_⟩) hHeld ?_
          · obtain ⟨q0, q1, q2, q3, q4, q5, q6, q7⟩ := hW
            go_simp
          simp only [Act.put, List.setIfInBounds_toArray, List.set_cons_zero, List.set_cons_succ]
          refine wpAnyH_take (i := 17) (oi := { dst := some 20, op := Op.assign (Operand.tmp 90), type := 3, pos := "law.go:63", after := #[{ on := 13, ground := Ground.data }, { on := 16, ground := Ground.chain }, { on := 0, ground := Ground.phase }, { on := 1, ground := Ground.phase }, { on := 2, ground := Ground.phase }, { on := 3, ground := Ground.phase }, { on := 4, ground := Ground.phase }, { on := 5, ground := Ground.phase }, { on := 6, ground := Ground.phase }, { on := 7, ground := Ground.phase }, { on := 8, ground := Ground.phase }, { on := 9, ground := Ground.phase }, { on := 10, ground := Ground.phase }, { on := 11, ground := Ground.phase }, { on := 12, ground := Ground.phase }, { on := 13, ground := Ground.phase }, { on := 14, ground := Ground.phase }, { on := 15, ground := Ground.phase }, { on := 16, ground := Ground.phase }], guard := none }) (v := .int .i64 (b2 : Int)) rfl (by kernel_rfl) (by kernel_rfl) (by kernel_rfl) (fun _ _ _ h => h) (Or.inl ⟨by rfl, fun W hW => ?_⟩) hHeld ?_
          · obtain ⟨q0, q1, q2, q3, q4, q5, q6, q7⟩ := hW
            go_simp
          simp only [Act.put, List.setIfInBounds_toArray, List.set_cons_zero, List.set_cons_succ]
          refine wpAnyH_done (by kernel_rfl) ?_ _
          go_wp2_with fail
          go_meet
          exact ⟨_, _, _, _, _, rfl, rfl, rfl, HM⟩
      case rest =>
        obtain ⟨b18, Af, cf, Bb, db, rfl, rfl, rfl, HM⟩ := hcut
        obtain ⟨V14, hV14⟩ : ∃ V14, V14 = wc := ⟨_, rfl⟩
        subst hV14
        have HMd : Hid (MidS V0 V Vp b14 b15 b18 An Ak Be Bk Af l1 lf2 n1 cn ck nf2 cf (t1 : Int) (tf2 : Int) ov1 li1 h1 ovf2 lif2 me de mk dq La es Bb db (sg : Int) bell V14.drew) := MidS.call HM.out (Below.drew (Below.refl _ _))
        clear HM
        have HAB : Hid (SR 32 V14.drew b15 [.slice Ak n1 ck, .int .i64 (t1 : Int), .bool ov1, .bool li1] ∧ SR 32 V14.drew b18 [.slice Af nf2 cf, .int .i64 (tf2 : Int), .bool ovf2, .bool lif2]) := ⟨HMd.out.1.s15, HMd.out.2.1⟩
        go_upto_region 15 with fail
        refine wp_region_held_drew (S := fun W => W.cell? ⟨b15, 0, none⟩ = some (.slice Ak n1 ck) ∧ W.cell? ⟨b15, 1, none⟩ = some (.int .i64 (t1 : Int)) ∧ W.cell? ⟨b15, 2, none⟩ = some (.bool ov1) ∧ W.cell? ⟨b15, 3, none⟩ = some (.bool li1) ∧ W.cell? ⟨b18, 0, none⟩ = some (.slice Af nf2 cf) ∧ W.cell? ⟨b18, 1, none⟩ = some (.int .i64 (tf2 : Int)) ∧ W.cell? ⟨b18, 2, none⟩ = some (.bool ovf2) ∧ W.cell? ⟨b18, 3, none⟩ = some (.bool lif2)) (by kernel_rfl) (s15_ok HAB.out) (fun hHeld => ?_)
        refine wpAnyH_take (i := 0) (oi := { dst := some 91, op := Op.load 32 (Operand.tmp 15), type := 32, pos := "law.go:64", after := #[], guard := none }) (v := .agg #[.slice Ak n1 ck, .int .i64 (t1 : Int), .bool ov1, .bool li1]) rfl (by kernel_rfl) (by kernel_rfl) (by kernel_rfl) (fun _ _ _ h => h) (Or.inl ⟨by rfl, fun W hW => ?_⟩) hHeld ?_
        · obtain ⟨q0, q1, q2, q3, q4, q5, q6, q7⟩ := hW
          go_simp
        simp only [Act.put, List.setIfInBounds_toArray, List.set_cons_zero, List.set_cons_succ]
        refine wpAnyH_take (i := 1) (oi := { dst := some 92, op := Op.load 32 (Operand.tmp 18), type := 32, pos := "law.go:64", after := #[{ on := 2, ground := Ground.gcOnly Departure.lateStores }], guard := none }) (v := .agg #[.slice Af nf2 cf, .int .i64 (tf2 : Int), .bool ovf2, .bool lif2]) rfl (by kernel_rfl) (by kernel_rfl) (by kernel_rfl) (fun _ _ _ h => h) (Or.inl ⟨by rfl, fun W hW => ?_⟩) hHeld ?_
        · obtain ⟨q0, q1, q2, q3, q4, q5, q6, q7⟩ := hW
          go_simp
        simp only [Act.put, List.setIfInBounds_toArray, List.set_cons_zero, List.set_cons_succ]
        generalize hWd : V14.drew = Vd at *
        clear hWd
        have fhd := HMd.out.1.fh
        have k6 : SR 32 Vd (V0.heap.size + 1) [.slice A6 n c6, .int .i64 (t : Int), .bool ov, .bool li] := (fhd _ H6V.out.lt (by omega)).trans H6V.out
        have k7 : SR 32 Vd (V0.heap.size + 1 + 1) [.slice A7 nf c7, .int .i64 (tf : Int), .bool ovf, .bool lif] := (fhd _ H7V.out.lt (by omega)).trans H7V.out
        have hne15 : b15 ≠ V0.heap.size + 1 ∧ b18 ≠ V0.heap.size + 1 ∧ b15 ≠ V0.heap.size + 1 + 1 ∧ b18 ≠ V0.heap.size + 1 + 1 := by
          have h0 := HMd.out.1.p15
          have h1 := HMd.out.2.2.2.2.2
          have h2 := H7V.out.lt
          have h3 := HVP2.out
          omega
        have j7 := set4_far (a := .slice Ak n1 ck) (b := .int .i64 (t1 : Int)) (x := .bool ov1) (y := .bool li1) (g := V0.heap.size + 1) k7 (by omega)
        have HAC : Hid (SR 32 (set4 Vd (V0.heap.size + 1) (.slice Ak n1 ck) (.int .i64 (t1 : Int)) (.bool ov1) (.bool li1)) b15 [.slice Ak n1 ck, .int .i64 (t1 : Int), .bool ov1, .bool li1] ∧ SR 32 (set4 Vd (V0.heap.size + 1) (.slice Ak n1 ck) (.int .i64 (t1 : Int)) (.bool ov1) (.bool li1)) b18 [.slice Af nf2 cf, .int .i64 (tf2 : Int), .bool ovf2, .bool lif2]) := ⟨set4_far HAB.out.1 hne15.1, set4_far HAB.out.2 hne15.2.1⟩
        have HAD : Hid (SR 32 (set4 (set4 Vd (V0.heap.size + 1) (.slice Ak n1 ck) (.int .i64 (t1 : Int)) (.bool ov1) (.bool li1)) (V0.heap.size + 1 + 1) (.slice Af nf2 cf) (.int .i64 (tf2 : Int)) (.bool ovf2) (.bool lif2)) b15 [.slice Ak n1 ck, .int .i64 (t1 : Int), .bool ov1, .bool li1] ∧ SR 32 (set4 (set4 Vd (V0.heap.size + 1) (.slice Ak n1 ck) (.int .i64 (t1 : Int)) (.bool ov1) (.bool li1)) (V0.heap.size + 1 + 1) (.slice Af nf2 cf) (.int .i64 (tf2 : Int)) (.bool ovf2) (.bool lif2)) b18 [.slice Af nf2 cf, .int .i64 (tf2 : Int), .bool ovf2, .bool lif2]) := ⟨set4_far HAC.out.1 hne15.2.2.1, set4_far HAC.out.2 hne15.2.2.2⟩
        obtain ⟨hro15, Lb, elb, elm, hse⟩ := se_end HMd.out HVP2.out H6V.out H7V.out HRO.out H5V.out
        have HRO15 := keepd hro15
        have HSE15 := keepd hse
        have HLB := keepd elb
        have HLBM := keepd elm
        clear hro15 hse elb elm fhd
        obtain ⟨y0, y1, y2, y3, y4, y5, y6, y7, y8⟩ := st_facts k6
        refine wpAnyH_ready (rs := [2]) (by kernel_rfl) (by simp) ?_
        refine AllReadyH.cons (o := { dst := none, op := Op.store 32 (Operand.tmp 6) (Operand.tmp 91), type := 0, pos := "law.go:64", after := #[{ on := 0, ground := Ground.data }, { on := 0, ground := Ground.phase }, { on := 1, ground := Ground.textOnly Departure.lateStores }], guard := none }) rfl (fun K hK => ?_) AllReadyH.nil
        go_simp
        refine hK.out _ (set4 Vd (V0.heap.size + 1) (.slice Ak n1 ck) (.int .i64 (t1 : Int)) (.bool ov1) (.bool li1)) (s15_ok HAC.out) (fun hHeld2 => ?_)
        clear hK K hHeld
        have hHeld := hHeld2
        clear hHeld2 y0 y1 y2 y3 y4 y5 y6 y7 y8
        try simp only [Act.put, List.setIfInBounds_toArray, List.set_cons_zero, List.set_cons_succ]
        obtain ⟨y0, y1, y2, y3, y4, y5, y6, y7, y8⟩ := st_facts j7
        refine wpAnyH_ready (rs := [3]) (by kernel_rfl) (by simp) ?_
        refine AllReadyH.cons (o := { dst := none, op := Op.store 32 (Operand.tmp 7) (Operand.tmp 92), type := 0, pos := "law.go:64", after := #[{ on := 1, ground := Ground.data }, { on := 2, ground := Ground.chain }, { on := 0, ground := Ground.phase }, { on := 1, ground := Ground.phase }, { on := 2, ground := Ground.phase }], guard := none }) rfl (fun K hK => ?_) AllReadyH.nil
        go_simp
        refine hK.out _ (set4 (set4 Vd (V0.heap.size + 1) (.slice Ak n1 ck) (.int .i64 (t1 : Int)) (.bool ov1) (.bool li1)) (V0.heap.size + 1 + 1) (.slice Af nf2 cf) (.int .i64 (tf2 : Int)) (.bool ovf2) (.bool lif2)) (s15_ok HAD.out) (fun hHeld2 => ?_)
        clear hK K hHeld
        have hHeld := hHeld2
        clear hHeld2 y0 y1 y2 y3 y4 y5 y6 y7 y8
        try simp only [Act.put, List.setIfInBounds_toArray, List.set_cons_zero, List.set_cons_succ]
        refine wpAnyH_done (by kernel_rfl) ?_ _
        clear hHeld k6 k7 j7 HAB HAC HAD HMd
        generalize hW5 : set4 (set4 Vd (V0.heap.size + 1) (.slice Ak n1 ck) (.int .i64 (t1 : Int)) (.bool ov1) (.bool li1)) (V0.heap.size + 1 + 1) (.slice Af nf2 cf) (.int .i64 (tf2 : Int)) (.bool ovf2) (.bool lif2) = V15 at *
        clear hW5
        have hv8 : ∀ g, (Value.slice Bv8 m8 dv8).ownBlock = some g → V0.heap.size + 1 + 1 + 1 ≤ g ∧ g < V.heap.size := fun g hg => HRO.out.o8.ge g hg
        have hv9 : ∀ g, (Value.slice Bv9 m8 dv9).ownBlock = some g → V0.heap.size + 1 + 1 + 1 ≤ g ∧ g < V.heap.size := fun g hg => HRO.out.o9.ge g hg
        have HHV8 := keepd hv8
        have HHV9 := keepd hv9
        have HLE8 : Hid (L8.length + La.length ≤ 200000) := keepd (by have h0 := HEV.out.2; have h1 := HLM.out; have h2 := HFEW.out; omega)
        have HLE9 : Hid (L9.length + Lb.length ≤ 200000) := keepd (by have h0 := HEV.out.2; have h1 := HLBM.out; have h2 := HFEW.out; have h3 := HM8.out; have h4 := HM9.out; omega)
        have HBS : Hid (V0.heap.size + 1 + 1 + 1 ≤ V15.heap.size) := keepd (by have h0 := HSE15.out.vs; have h1 := HSE15.out.v0; omega)
        clear hv8 hv9
        go_upto_region 17 with first
          | (at_builtin; refine wpList_appEN _ rfl (.tmp 93) (.tmp 94) rfl (V0.heap.size + 1 + 1 + 1) _ L8 rfl HRO15.out.o8 HRO15.out.n8 Be me de La rfl HLM.out.symm HSE15.out.re HLE8.out HBS.out ?_; intro v16 w16 ho16 hn16 hg16 hat16; have HRO16 := keepd (HRO15.out.app8 ho16 hn16 hg16 hat16 HSE15.out.re.2.2.2); have HSE16 := keepd (HSE15.out.app HRO15.out.n8 HHV8.out hg16); clear ho16 hn16 hg16 hat16)
          | (at_builtin; refine wpList_appEN _ rfl (.tmp 96) (.tmp 97) rfl (V0.heap.size + 1 + 1 + 1) _ L9 rfl HRO16.out.o9 HRO16.out.n9 Bb me db Lb rfl HLBM.out.symm HSE16.out.rb HLE9.out (by have h0 := HSE16.out.vs; have h1 := HSE16.out.v0; omega) ?_; intro v17 w17 ho17 hn17 hg17 hat17; have HRO17 := keepd ((HRO16.out.swap.app8 ho17 hn17 hg17 hat17 HSE16.out.rb.2.2.2).swap); have HSE17 := keepd (HSE16.out.app HRO16.out.n9 HHV9.out hg17); clear ho17 hn17 hg17 hat17)
        obtain ⟨m17, hm17⟩ : ∃ m, (L8 ++ La).length = m := ⟨_, rfl⟩
        obtain ⟨Bw8, dw8, hv16, hre8⟩ := HRO17.out.o8.rd HRO17.out.x8
        obtain ⟨Bw9, dw9, hv17, hre9⟩ := HRO17.out.o9.rd HRO17.out.x9
        have hm18 : (L9 ++ Lb).length = m17 := by
          have h0 := HM8.out
          have h1 := HM9.out
          have h2 := HLM.out
          have h3 := HLBM.out
          rw [← hm17, List.length_append, List.length_append]
          omega
        rw [hm17] at hv16
        rw [hm18] at hv17
        subst hv16 hv17
        have HLK8 := keepd hm17
        have HLK9 := keepd hm18
        have hm17b : m17 ≤ 1000000 := by rw [← hm17, List.length_append]; have h0 := HLE8.out; omega
        have HHI : Hid (Inv X room ⟨l1, t1, ov1, li1⟩ ∧ l1.length = n1 ∧ lf2.length = nf2 ∧ farT ⟨⟨l1, t1, ov1, li1⟩, h1⟩ = ⟨lf2, tf2, ovf2, lif2⟩ ∧ (L8 ++ La).map EvM.abs = (L9 ++ Lb).map EvM.abs ∧ (L8 ++ La).length ≤ i + 1) := by
          refine ⟨HIN.out.1, HIN.out.2.1, HIN.out.2.2.1, HIN.out.2.2.2, ?_, ?_⟩
          · rw [List.map_append, List.map_append, HEV.out.1, HLA.out, HLB.out]
          · rw [List.length_append]
            have h0 := HEV.out.2
            have h1 := HLM.out
            have h2 := HFEW.out
            omega
        have HRE8 := keepd hre8
        have HRE9 := keepd hre9
        have HM17 := keepd hm17b
        clear hm17 hm18 hre8 hre9 hm17b HRO15 HRO16 HSE15 HSE16 HLE8 HLE9 HHV8 HHV9 HBS HRO HLA HLB HLM HLBM HEV HCB HOS HRK HLT HVP2 H5V H6V H7V HR5 HR6 HR7 HD12 hne15 HWP HLK HMK HKK HMS HSN HSF CPL
        have HDA : Hid (DK w17 w.heap.size X room) := SR.call HD.out HSE17.out.bl (SR.lt HD.out)
        obtain ⟨k0, k1, k2, k3, k4, _, _, _, _, _, kt⟩ := tk_facts HSE17.out.s5
        go_upto_region 18 with fail
        generalize hV : w17.alloc (.cells #[.slice An n1 cn, .int .i64 (t1 : Int), .bool ov1, .bool li1] 32) = V18
        obtain ⟨b21, hb21⟩ : ∃ b, w17.heap.size = b := ⟨_, rfl⟩
        obtain ⟨HK21, HB18⟩ := st_new _ _ _ _ _ _ hV
        rw [hb21] at HK21
        rw [hb21]
        have HSE18 := keepd (HSE17.out.call HB18.out)
        have HRO18 := keepd (HRO17.out.call HB18.out)
        have HRE88 := keepd (HRE8.out.at_ HB18.out)
        have HRE98 := keepd (HRE9.out.at_ HB18.out)
        have HB21 := keepd (Nat.le_of_eq hb21)
        clear hV hb21 k0 k1 k2 k3 k4 kt HDA
        obtain ⟨k0, k1, k2, k3, k4, _, _, _, _, _, kt⟩ := tk_facts HSE18.out.s5
        cases h1
        case false =>
          have e := HIN.out.2.2.2
          unfold farT at e
          simp only [Bool.false_eq_true, if_false, Ed.mk.injEq] at e
          obtain ⟨e1, e2, e3, e4⟩ := e
          have e5 : n1 = nf2 := by rw [← HIN.out.2.1, ← HIN.out.2.2.1, e1]
          have HKW : Hid (SR 32 V18 b21 [.slice An nf2 cn, .int .i64 (tf2 : Int), .bool ovf2, .bool lif2]) := by
            have h0 := HK21.out
            rw [e2, e3, e4, e5] at h0
            exact h0
          have HRW : Hid (Rd V18 V18.heap.size An lf2 cn) := by
            have h0 := HSE18.out.rn
            rw [e1] at h0
            exact h0
          clear e1 e2 e3 e4 e5 HK21 HSE17 HRO17 HRE8 HRE9 HB18 HB21
          go_upto_region 20 with fail
          clear k0 k1 k2 k3 k4 kt
          obtain ⟨k0, k1, k2, k3, k4, _, _, _, _, _, kt⟩ := tk_facts HSE18.out.s5
          obtain ⟨y0, y1, y2, y3, _, _, _, _, yt⟩ := st_facts HSE18.out.s6
          have C1 := keepd (esame_any An Ak l1 l1 n1 n1 cn ck (t1 : Int) (t1 : Int) ov1 ov1 li1 li1 true V18 HIN.out.2.1.symm HIN.out.2.1.symm HSE18.out.rn HSE18.out.rk (sameS_iff.2 ⟨rfl, rfl, rfl, rfl⟩))
          go_wp2_with fail
          with_reducible refine C1.out.mono ?_
          rintro e w20 ⟨rfl, hb20⟩
          have HSE20 := keepd (HSE18.out.call hb20)
          have HRO20 := keepd (HRO18.out.call hb20)
          have HRE820 := keepd (HRE88.out.at_ hb20)
          have HRE920 := keepd (HRE98.out.at_ hb20)
          have HKW20 := keepd (SR.call HKW.out hb20 HKW.out.lt)
          have HRW20 := keepd (HRW.out.at_ hb20)
          clear hb20 C1 k0 k1 k2 k3 k4 kt y0 y1 y2 y3 yt HSE18 HRO18 HRE88 HRE98 HKW HRW
          obtain ⟨f0, f1, f2, _, _, _, ft⟩ := ty_facts HSE20.out.s14
          have C2 := keepd (alike_any Bw9 Bw8 (L9 ++ Lb) (L8 ++ La) m17 m17 dw9 dw8 true w20 HLK9.out.symm HLK8.out.symm HRE920.out HRE820.out (likeE_iff.2 HHI.out.2.2.2.2.1.symm) HM17.out)
          have hbb : (bell != bell) = false := by simp
          go_wp2_with fail
          with_reducible refine C2.out.mono ?_
          rintro e w21 ⟨rfl, hb21⟩
          have HSE21 := keepd (HSE20.out.call hb21)
          have HRO21 := keepd (HRO20.out.call hb21)
          have HKW21 := keepd (SR.call HKW20.out hb21 HKW20.out.lt)
          have HRW21 := keepd (HRW20.out.at_ hb21)
          clear hb21 C2 f0 f1 f2 ft HSE20 HRO20 HRE820 HRE920 HKW20 HRW20
          obtain ⟨y0, y1, y2, y3, _, _, _, _, yt⟩ := st_facts HSE21.out.s7
          obtain ⟨j0, j1, j2, j3, _, _, _, _, jt⟩ := st_facts HKW21.out
          have C3 := keepd (esame_any Af An lf2 lf2 nf2 nf2 cf cn (tf2 : Int) (tf2 : Int) ovf2 ovf2 lif2 lif2 true w21 HIN.out.2.2.1.symm HIN.out.2.2.1.symm HSE21.out.rf HRW21.out (sameS_iff.2 ⟨rfl, rfl, rfl, rfl⟩))
          go_wp2_with fail
          with_reducible refine C3.out.mono ?_
          rintro e w22 ⟨rfl, hb22⟩
          have HSE22 := keepd (HSE21.out.call hb22)
          have HRO22 := keepd (HRO21.out.call hb22)
          have HSN' : Hid (SI V0 l1 lf2 n1 t1 nf2 tf2 ov1 li1 false ovf2 lif2 An Ak Af cn ck cf (.slice Bw8 m17 dw8) (.slice Bw9 m17 dw9) (L8 ++ La) (L9 ++ Lb) w22) := ⟨HSE22.out.s5, HSE22.out.s6, HSE22.out.s7, HSE22.out.rn, HSE22.out.rk, HSE22.out.rf, HRO22.out, HSE22.out.bl⟩
          clear hb22 C3 y0 y1 y2 y3 yt j0 j1 j2 j3 jt HSE21 HRO21 HKW21 HRW21 HSE22 HRO22
          have i3 : (i : Int) + 1 ≤ (nn : Int) := by omega
          go_wp2_with fail
          go_roundw
          case rel => exact ⟨i + 1, l1, lf2, n1, t1, nf2, tf2, ov1, li1, false, ovf2, lif2, An, Ak, Af, cn, ck, cf, L8 ++ La, L9 ++ Lb, by omega, by omega, by go_num, HHI, HSN'⟩
          case measure => simp [intOf]; omega
        case true =>
          have e := HIN.out.2.2.2
          unfold farT zE at e
          simp only [if_true, Ed.mk.injEq] at e
          have e5 : 0 = nf2 := by rw [← HIN.out.2.2.1, ← e.1]; rfl
          have HEQ := keepd (And.intro e5 e)
          clear e e5
          obtain ⟨y0, y1, y2, y3, y4, y5, y6, y7, y8⟩ := st_facts HK21.out
          go_upto_region 20 with fail
          generalize hV : (((V18.setCell ⟨b21, 0, none⟩ (.slice none 0 0)).setCell ⟨b21, 1, none⟩ (.int .i64 0)).setCell ⟨b21, 2, none⟩ (.bool false)).setCell ⟨b21, 3, none⟩ (.bool false) = V19
          have hV2 : set4 V18 b21 (.slice none 0 0) (.int .i64 0) (.bool false) (.bool false) = V19 := hV
          have HKW : Hid (SR 32 V19 b21 [.slice none nf2 0, .int .i64 (tf2 : Int), .bool ovf2, .bool lif2]) := by
            have h0 := set4_sr (a := .slice none 0 0) (b := .int .i64 0) (x := .bool false) (y := .bool false) HK21.out
            rw [hV2] at h0
            rw [← HEQ.out.2.2.1, ← HEQ.out.2.2.2.1, ← HEQ.out.2.2.2.2, ← HEQ.out.1]
            exact h0
          have HRW : Hid (Rd V19 V19.heap.size none lf2 0) := by
            rw [← HEQ.out.2.1]
            exact Rd.nil _ _
          have hb19 : Below w17.heap.size w17 V19 := by
            have h0 := (st4_end HK21.out HB18.out HB21.out (.slice none 0 0) (.int .i64 0) (.bool false) (.bool false)).2.2
            rw [hV2] at h0
            exact h0
          have HSE19 := keepd (HSE17.out.call hb19)
          have HRO19 := keepd (HRO17.out.call hb19)
          have HRE89 := keepd (HRE8.out.at_ hb19)
          have HRE99 := keepd (HRE9.out.at_ hb19)
          clear hV hV2 hb19 HEQ HK21 HSE17 HRO17 HRE8 HRE9 HB18 HB21 HSE18 HRO18 HRE88 HRE98 k0 k1 k2 k3 k4 kt y0 y1 y2 y3 y4 y5 y6 y7 y8
          obtain ⟨k0, k1, k2, k3, k4, _, _, _, _, _, kt⟩ := tk_facts HSE19.out.s5
          obtain ⟨y0, y1, y2, y3, _, _, _, _, yt⟩ := st_facts HSE19.out.s6
          have C1 := keepd (esame_any An Ak l1 l1 n1 n1 cn ck (t1 : Int) (t1 : Int) ov1 ov1 li1 li1 true V19 HIN.out.2.1.symm HIN.out.2.1.symm HSE19.out.rn HSE19.out.rk (sameS_iff.2 ⟨rfl, rfl, rfl, rfl⟩))
          go_wp2_with fail
          with_reducible refine C1.out.mono ?_
          rintro e w20 ⟨rfl, hb20⟩
          have HSE20 := keepd (HSE19.out.call hb20)
          have HRO20 := keepd (HRO19.out.call hb20)
          have HRE820 := keepd (HRE89.out.at_ hb20)
          have HRE920 := keepd (HRE99.out.at_ hb20)
          have HKW20 := keepd (SR.call HKW.out hb20 HKW.out.lt)
          have HRW20 := keepd (HRW.out.at_ hb20)
          clear hb20 C1 k0 k1 k2 k3 k4 kt y0 y1 y2 y3 yt HSE19 HRO19 HRE89 HRE99 HKW HRW
          obtain ⟨f0, f1, f2, _, _, _, ft⟩ := ty_facts HSE20.out.s14
          have C2 := keepd (alike_any Bw9 Bw8 (L9 ++ Lb) (L8 ++ La) m17 m17 dw9 dw8 true w20 HLK9.out.symm HLK8.out.symm HRE920.out HRE820.out (likeE_iff.2 HHI.out.2.2.2.2.1.symm) HM17.out)
          have hbb : (bell != bell) = false := by simp
          go_wp2_with fail
          with_reducible refine C2.out.mono ?_
          rintro e w21 ⟨rfl, hb21⟩
          have HSE21 := keepd (HSE20.out.call hb21)
          have HRO21 := keepd (HRO20.out.call hb21)
          have HKW21 := keepd (SR.call HKW20.out hb21 HKW20.out.lt)
          have HRW21 := keepd (HRW20.out.at_ hb21)
          clear hb21 C2 f0 f1 f2 ft HSE20 HRO20 HRE820 HRE920 HKW20 HRW20
          obtain ⟨y0, y1, y2, y3, _, _, _, _, yt⟩ := st_facts HSE21.out.s7
          obtain ⟨j0, j1, j2, j3, _, _, _, _, jt⟩ := st_facts HKW21.out
          have C3 := keepd (esame_any Af none lf2 lf2 nf2 nf2 cf 0 (tf2 : Int) (tf2 : Int) ovf2 ovf2 lif2 lif2 true w21 HIN.out.2.2.1.symm HIN.out.2.2.1.symm HSE21.out.rf HRW21.out (sameS_iff.2 ⟨rfl, rfl, rfl, rfl⟩))
          go_wp2_with fail
          with_reducible refine C3.out.mono ?_
          rintro e w22 ⟨rfl, hb22⟩
          have HSE22 := keepd (HSE21.out.call hb22)
          have HRO22 := keepd (HRO21.out.call hb22)
          have HSN' : Hid (SI V0 l1 lf2 n1 t1 nf2 tf2 ov1 li1 true ovf2 lif2 An Ak Af cn ck cf (.slice Bw8 m17 dw8) (.slice Bw9 m17 dw9) (L8 ++ La) (L9 ++ Lb) w22) := ⟨HSE22.out.s5, HSE22.out.s6, HSE22.out.s7, HSE22.out.rn, HSE22.out.rk, HSE22.out.rf, HRO22.out, HSE22.out.bl⟩
          clear hb22 C3 y0 y1 y2 y3 yt j0 j1 j2 j3 jt HSE21 HRO21 HKW21 HRW21 HSE22 HRO22
          have i3 : (i : Int) + 1 ≤ (nn : Int) := by omega
          go_wp2_with fail
          go_roundw
          case rel => exact ⟨i + 1, l1, lf2, n1, t1, nf2, tf2, ov1, li1, true, ovf2, lif2, An, Ak, Af, cn, ck, cf, L8 ++ La, L9 ++ Lb, by omega, by omega, by go_num, HHI, HSN'⟩
          case measure => simp [intOf]; omega

end Go.Proofs.YtlfmbfecajhffaaDoor
