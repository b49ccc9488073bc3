/-
  Contracts of what an editor that works does: typeIn, signal. No conditions beyond those each theorem states.
-/
import Derived.Test.YtecihodifgjkoaaDoorE4
namespace Go.Proofs.YtecihodifgjkoaaDoor
open Go.RowKit
set_option maxRecDepth 100000

attribute [local go_sem ↓] ex_ld25 ex_st25 ex_al25 ex_bu25 ex_ix25 ex_eq25 ex_ne25 ex_eq23 ex_ne23 ex_ld25o ex_st65 ex_al65 ex_bu65 ex_bu65s
attribute [local go_sem] ptrB_at okPtr_at aggC_at agg62 agg69 isC_at isT_at eqV_t eqV_c isRow_new isRow_new65 World.setRow_alloc_new ptr4_at okPtr4_at cutT_at isI_at isS_at bW_at bWs_at

/-- Its parts, in every world that has V's old memory. -/
theorem sW {V W : World} {p : Nat} {x0 x1 x2 x66 : Value} (k0 : V.cell? ⟨p, 0, none⟩ = some x0) (k1 : V.cell? ⟨p, 1, none⟩ = some x1) (k2 : V.cell? ⟨p, 2, none⟩ = some x2) (k66 : V.cell? ⟨p, 66, none⟩ = some x66) (hp : p < V.heap.size) (b : Below V.heap.size V W) :
    W.cell? ⟨p, 0, none⟩ = some x0 ∧ W.cell? ⟨p, 1, none⟩ = some x1 ∧ W.cell? ⟨p, 2, none⟩ = some x2 ∧ W.cell? ⟨p, 66, none⟩ = some x66 ∧ Below V.heap.size V W :=
  ⟨(b.cell (p := ⟨p, 0, none⟩) hp).trans k0, (b.cell (p := ⟨p, 1, none⟩) hp).trans k1, (b.cell (p := ⟨p, 2, none⟩) hp).trans k2, (b.cell (p := ⟨p, 66, none⟩) hp).trans k66, b⟩

/-- What is left of a key that is typed. -/
def GotY (W : World) (p : Nat) (X : Tb) (room : Int) (s : Ed) (L : List EvM) (n : Int) (iv : Value) (e : Ending) (w' : World) : Prop :=
  e = .returned (.tuple #[]) ∧ ∃ A c, WJ W p X room s L n w' A c iv

set_option maxHeartbeats 4000000 in
theorem typeIn_any {W : World} {p : Nat} {X : Tb} {room : Int} {s : Ed} {L : List EvM} {n : Int} {w : World} {A : Option Addr} {c : Nat} {iv : Value} (h : WJ W p X room s L n w A c iv) (hk : s.ok) (hn0 : 0 ≤ n) (hn1 : n ≤ 1000000) (u : UInt8) (s' : Ed) (n' : Int) (hs : (typE s room u).s = s') (hn : n + ((typE s room u).n : Int) = n') :
    Calls Tryd.prog 46 #[.pointer (some ⟨p, 0, none⟩), .int .u8 (u.toNat : Int)] w (GotY W p X room s' L n' iv) := by
  obtain ⟨l, t, ov, li⟩ := s
  obtain ⟨hk1, hk2⟩ := hk
  simp only at hk1 hk2
  unfold typE at hs hn
  simp only at hs hn
  obtain ⟨m, hm⟩ : ∃ m, m = l.length := ⟨_, rfl⟩
  obtain ⟨l1, t1, hd1⟩ : ∃ l1 t1, tyR l t room ov u = (l1, t1) := ⟨_, _, rfl⟩
  obtain ⟨d, hd⟩ : ∃ d, (tyL l t room ov u).isSome = d := ⟨_, rfl⟩
  obtain ⟨m1, hm1⟩ : ∃ m1, l1.length = m1 := ⟨_, rfl⟩
  rw [hd1] at hs
  rw [hd] at hn
  have HT := keepd fun (V : World) (hb : Below w.heap.size w V) => ty_go A l l1 m c t t1 m1 room ov u d V hm (h.rd.at_ hb) (by rw [hm]; exact hk2) (by rw [hm]; exact hk1) hd1 hd hm1
  have HJ := keepd h
  have q : WB w p A m c (t : Int) ov li X room iv n := by rw [hm]; exact h.sr
  obtain ⟨c0, c1, c2, c3, c66, c67, c68⟩ := WB.cells q
  obtain ⟨f0, f1, f2, f3, f67, f68⟩ := WB.froz q
  have hlt := h.lt
  have K0 := keepd c0
  have K1 := keepd c1
  have K2 := keepd c2
  have K66 := keepd c66
  have KT := keepd hlt
  have HS := keepd hs
  have HN := keepd hn
  have HM1 := keepd hm1
  clear h q hd1 hd hm1 hm hs hn hk1 hk2 c3 c67 c68 f0 f1 f2 f3 f67 f68
  go_enter Tryd.func46, Tryd.ntmps46
  go_upto_region 0 with fail
  go_cut [4, 5] from 6 to 25 (fun s4 s5 wx => ∃ (b4 : Nat) (B1 : Option Addr) (e1 : Nat), s4 = .pointer (some ⟨b4, 0, none⟩) ∧ s5 = .bool d ∧ Hid (Mid w b4 B1 m1 e1 l1 (t1 : Int) wx))
  case first =>
    go_region_held3 (fun W => W.cell? ⟨p, 0, none⟩ = some (.slice A m c) ∧ W.cell? ⟨p, 1, none⟩ = some (.int .i64 (t : Int)) ∧ W.cell? ⟨p, 2, none⟩ = some (.bool ov) ∧ W.cell? ⟨p, 66, none⟩ = some (.int .i64 room) ∧ Below w.heap.size w W)
      ((refine sW K0.out K1.out K2.out K66.out KT.out ?_; repeat (first | assumption | exact Below.refl _ _ | with_reducible refine Below.setCell ?_ (Nat.le_refl w.heap.size) _ | with_reducible refine bAlloc ?_ _ | with_reducible refine Below.drew ?_)))
      (first | (go_at_call 55; (with_reducible refine (HT.out _ ?_).mono ?_); (focus (repeat (first | assumption | exact Below.refl _ _ | with_reducible refine bAlloc ?_ _ | with_reducible refine Below.drew ?_))); rintro e w4 ⟨⟨B1, e1, rfl, ho⟩, hb4⟩; have hbb : Below w.heap.size w w4 := (by first | exact noDrew hb4 | exact upD hb4); (first | (have HMid := keepd (mid_b (z := (t1 : Int)) ho hb4); obtain ⟨m0, m1, m2, m3, lt⟩ := z_of hb4) | have HMid := keepd (mid_a (wr := w) (z := (t1 : Int)) ho (Nat.le_refl _) hbb)); clear ho))
    all_goals go_wp2_with fail
    all_goals go_meet
    all_goals exact ⟨_, _, _, rfl, rfl, HMid⟩
  case rest =>
    obtain ⟨b4, B1, e1, rfl, rfl, HMid⟩ := hcut
    obtain ⟨V3, hV3⟩ : ∃ V3, V3 = wc := ⟨_, rfl⟩
    subst hV3
    obtain ⟨h4, ho, hb⟩ := HMid.out
    have HL := keepd (HJ.out.setL (t' := t1) hb ho HM1.out)
    have hlt3 := (HJ.out.call hb).lt
    have q := (HJ.out.call hb).sr
    obtain ⟨c0, c1, c2, c3, c66, c67, c68⟩ := WB.cells q
    obtain ⟨f0, f1, f2, f3, f67, f68⟩ := WB.froz q
    obtain ⟨j0, j1, j2, j3, jt⟩ := line_facts h4
    clear h4 ho hb q c2 c3 c66 c67 c68 f2 f3 f67 f68 K0 K1 K2 K66 HMid HT
    go_upto_region 2 with fail
    generalize hV : (V3.setCell ⟨p, 0, none⟩ (.slice B1 m1 e1)).setCell ⟨p, 1, none⟩ (.int .i64 (t1 : Int)) = V at *
    obtain ⟨c0, c1, c2, c3, c66, c67, c68⟩ := WB.cells HL.out.sr
    obtain ⟨f0, f1, f2, f3, f67, f68⟩ := WB.froz HL.out.sr
    have hlt4 := HL.out.lt
    clear hV j0 j1 j2 j3 jt
    cases d
    · have hw : IntKind.i64.wrap (n + 1) = n + 1 := by rw [IntKind.wrap_i64]; omega
      go_wp2_with fail
      go_end0
      refine ⟨rfl, B1, e1, ?_⟩
      rw [← HS.out, ← HN.out]
      exact HL.out.setN (n + 1)
    · go_wp2_with fail
      go_end0
      refine ⟨rfl, B1, e1, ?_⟩
      rw [← HS.out, ← HN.out]
      show WJ W p X room _ L (n + 0) _ _ _ _
      rw [Int.add_zero]
      exact HL.out

end Go.Proofs.YtecihodifgjkoaaDoor
