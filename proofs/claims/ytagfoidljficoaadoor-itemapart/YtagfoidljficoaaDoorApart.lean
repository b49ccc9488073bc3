/-
  The law ItemApart, walked: it returns true, whatever the two items.
-/
import Derived.Test.YtagfoidljficoaaDoorGraph
import Derived.Test.YtagfoidljficoaaDoorPre
namespace Go.Proofs.YtagfoidljficoaaDoor
open Go.RowKit

theorem min_nat (a b : Nat) (ts : Array TypeId) (t : TypeId) (W : World) : (Builtin.min_ ts t #[.int .i64 (a : Int), .int .i64 (b : Int)]).run Tryd.prog W = .ok (.int .i64 ((min a b : Nat) : Int)) W := by
  rw [run_min_int2]
  congr 2
  omega

theorem sameL_one (X Y : Itm) : sameL [X] [Y] = sameI X Y := by simp [sameL]

set_option maxRecDepth 100000 in
set_option maxHeartbeats 8000000 in
theorem apart_law (X Y : Itm) (n m : Nat) (hn : n = X.l.length) (hm : m = Y.l.length) (w : World) (hx : Rd w w.heap.size X.A X.l X.c) (hy : Rd w w.heap.size Y.A Y.l Y.c) :
    Calls Tryd.prog 5 #[.agg #[.int .i64 X.k, .int .i64 X.a, .int .i64 X.b, .slice X.A n X.c], .agg #[.int .i64 Y.k, .int .i64 Y.a, .int .i64 Y.b, .slice Y.A m Y.c]] w fun e w' => e = .returned (.bool true) ∧ Below w.heap.size w w' := by
  have HX := keepd hx
  have HY := keepd hy
  subst hn hm
  clear hx hy
  go_enter Tryd.func5, Tryd.ntmps5
  go_wp2_with fail
  have q1 := (SR.new 29 w [.int .i64 X.k, .int .i64 X.a, .int .i64 X.b, .slice X.A X.l.length X.c]).alloc (.cells #[.int .i64 Y.k, .int .i64 Y.a, .int .i64 Y.b, .slice Y.A Y.l.length Y.c] 29)
  have q2 : SR 29 ((w.alloc (.cells #[.int .i64 X.k, .int .i64 X.a, .int .i64 X.b, .slice X.A X.l.length X.c] 29)).alloc (.cells #[.int .i64 Y.k, .int .i64 Y.a, .int .i64 Y.b, .slice Y.A Y.l.length Y.c] 29)) (w.heap.size + 1) [.int .i64 Y.k, .int .i64 Y.a, .int .i64 Y.b, .slice Y.A Y.l.length Y.c] := by
    have := SR.new 29 (w.alloc (.cells #[.int .i64 X.k, .int .i64 X.a, .int .i64 X.b, .slice X.A X.l.length X.c] 29)) [.int .i64 Y.k, .int .i64 Y.a, .int .i64 Y.b, .slice Y.A Y.l.length Y.c]
    rw [World.size_alloc] at this
    exact this
  have hbV : Below w.heap.size w ((w.alloc (.cells #[.int .i64 X.k, .int .i64 X.a, .int .i64 X.b, .slice X.A X.l.length X.c] 29)).alloc (.cells #[.int .i64 Y.k, .int .i64 Y.a, .int .i64 Y.b, .slice Y.A Y.l.length Y.c] 29)) := bAlloc (bAlloc (Below.refl _ _) _) _
  have HQ1 : Hid (SR 29 _ w.heap.size [.int .i64 X.k, .int .i64 X.a, .int .i64 X.b, .slice X.A X.l.length X.c]) := q1
  have HQ2 := keepd q2
  have HBV := keepd hbV
  clear q1 q2 hbV
  generalize (w.alloc (.cells #[.int .i64 X.k, .int .i64 X.a, .int .i64 X.b, .slice X.A X.l.length X.c] 29)).alloc (.cells #[.int .i64 Y.k, .int .i64 Y.a, .int .i64 Y.b, .slice Y.A Y.l.length Y.c] 29) = V at *
  obtain ⟨q, hq⟩ : ∃ q, w.heap.size = q := ⟨_, rfl⟩
  have hq1 : q < V.heap.size := by rw [← hq]; exact HQ1.out.lt
  have hq2 : q + 1 < V.heap.size := by rw [← hq]; exact HQ2.out.lt
  rw [hq] at HQ1 HQ2
  rw [hq]
  refine region_graph (IA X Y X.l.length (cut6 X).l.length Y.l.length (cut6 Y).l.length w q) TA #[true, true, true, true, true, true, true, true, true, true, true, true] okA (fun L => L.toList.count false) (by kernel_rfl) (by kernel_rfl) (by kernel_rfl) ?_ ?_ ?_
  · intro i L a wv hpre hI
    obtain ⟨u11, u12, u13, u14, u15, u16, u17, u18, u19, u20, B1, b1, o1, c1, B2, b2, o2, c2, rfl, h⟩ := hI
    match i, hpre with
    | 0, hpre =>
      unfold okA at hpre
      simp only [Bool.and_eq_true, decide_eq_true_eq, Bool.not_eq_true'] at hpre
      obtain ⟨hsz, _, h10⟩ := hpre
      have s := h.s10 h10
      have p0 := s.cell 0
      have p1 := s.cell 1
      have p2 := s.cell 2
      have p3 := s.cell 3
      simp only [ic, List.getElem?_cons_zero, List.getElem?_cons_succ] at p0 p1 p2 p3
      refine wpOp_step rfl (fun K hK => ?_)
      unfold Fr
      go_simp
      refine hK _ _ ⟨iv X X.l.length, u12, u13, u14, u15, u16, u17, u18, u19, u20, B1, b1, o1, c1, B2, b2, o2, c2, rfl, ?_⟩
      rw [getD_upd L 0 (by omega)]
      exact { h with t0 := fun _ => rfl }
    | 1, hpre =>
      unfold okA at hpre
      simp only [Bool.and_eq_true, decide_eq_true_eq, Bool.not_eq_true'] at hpre
      obtain ⟨hsz, ⟨h0, _⟩, _⟩ := hpre
      have e := h.t0 h0
      unfold iv at e
      subst e
      refine wpOp_step rfl (fun K hK => ?_)
      unfold Fr
      go_simp
      refine hK _ _ ⟨_, .slice (some ⟨wv.heap.size, 0, none⟩) 1 1, u13, u14, u15, u16, u17, u18, u19, u20, wv.heap.size, b1, o1, c1, B2, b2, o2, c2, rfl, ?_⟩
      rw [getD_upd L 1 (by omega)]
      exact { h.more (bAlloc (Below.refl _ _) _) with t1 := fun _ => rfl, r1 := fun _ _ => one_rdI wv X (HX.out.at_ h.below) }
    | 2, hpre =>
      unfold okA at hpre
      simp only [Bool.and_eq_true, decide_eq_true_eq, Bool.not_eq_true'] at hpre
      obtain ⟨hsz, ⟨⟨h1, h2⟩, h3⟩, _⟩ := hpre
      have e := h.t1 h1
      subst e
      refine wpOp_step rfl (fun K hK => ?_)
      unfold Fr
      go_simp
      refine (few_new X _ 1 _ (h.r1 h1 h2)).mono ?_
      rintro e w1 ⟨b, off, cc, rfl, hn1, hl1, a0, a1, a2, a3, hb1⟩
      refine hK _ _ ⟨u11, _, .slice (some ⟨b, off, none⟩) 1 cc, u14, u15, u16, u17, u18, u19, u20, B1, b, off, cc, B2, b2, o2, c2, rfl, ?_⟩
      rw [getD_upd L 2 (by omega)]
      exact { h.more hb1 with t2 := fun _ => rfl, r1 := fun _ e => (by cases e), r2 := fun _ _ => ⟨hl1, a0, a1, a2, a3⟩, t3 := fun e => (by rw [show upd (fun j => L.getD j false) 2 3 = L.getD 3 false from rfl, h3] at e; cases e) }
    | 3, hpre =>
      unfold okA at hpre
      simp only [Bool.and_eq_true, decide_eq_true_eq, Bool.not_eq_true'] at hpre
      obtain ⟨hsz, h2, _⟩ := hpre
      have e := h.t2 h2
      subst e
      refine wpOp_step rfl (fun K hK => ?_)
      unfold Fr
      go_simp
      refine hK _ _ ⟨u11, u12, _, .pointer (some ⟨b1, o1, none⟩), u15, u16, u17, u18, u19, u20, B1, b1, o1, c1, B2, b2, o2, c2, rfl, ?_⟩
      rw [getD_upd L 3 (by omega)]
      exact { h with t3 := fun _ => rfl }
    | 4, hpre =>
      unfold okA at hpre
      simp only [Bool.and_eq_true, decide_eq_true_eq, Bool.not_eq_true'] at hpre
      obtain ⟨hsz, ⟨h2, h3⟩, h4⟩ := hpre
      have e := h.t3 h3
      subst e
      obtain ⟨_, p0, p1, p2, p3⟩ := h.r2 h2 h4
      refine wpOp_step rfl (fun K hK => ?_)
      unfold Fr
      go_simp
      refine hK _ _ ⟨u11, u12, u13, _, iv X (cut6 X).l.length, u16, u17, u18, u19, u20, B1, b1, o1, c1, B2, b2, o2, c2, rfl, ?_⟩
      rw [getD_upd L 4 (by omega)]
      exact { h with t4 := fun _ => rfl, r2 := fun _ e => (by cases e) }
    | 5, hpre =>
      unfold okA at hpre
      simp only [Bool.and_eq_true, decide_eq_true_eq, Bool.not_eq_true'] at hpre
      obtain ⟨hsz, _, h11⟩ := hpre
      have s := h.s11 h11
      have p0 := s.cell 0
      have p1 := s.cell 1
      have p2 := s.cell 2
      have p3 := s.cell 3
      simp only [ic, List.getElem?_cons_zero, List.getElem?_cons_succ] at p0 p1 p2 p3
      refine wpOp_step rfl (fun K hK => ?_)
      unfold Fr
      go_simp
      refine hK _ _ ⟨u11, u12, u13, u14, u15, iv Y Y.l.length, u17, u18, u19, u20, B1, b1, o1, c1, B2, b2, o2, c2, rfl, ?_⟩
      rw [getD_upd L 5 (by omega)]
      exact { h with t5 := fun _ => rfl }
    | 6, hpre =>
      unfold okA at hpre
      simp only [Bool.and_eq_true, decide_eq_true_eq, Bool.not_eq_true'] at hpre
      obtain ⟨hsz, ⟨h5, _⟩, _⟩ := hpre
      have e := h.t5 h5
      unfold iv at e
      subst e
      refine wpOp_step rfl (fun K hK => ?_)
      unfold Fr
      go_simp
      refine hK _ _ ⟨u11, u12, u13, u14, u15, _, .slice (some ⟨wv.heap.size, 0, none⟩) 1 1, u18, u19, u20, B1, b1, o1, c1, wv.heap.size, b2, o2, c2, rfl, ?_⟩
      rw [getD_upd L 6 (by omega)]
      exact { h.more (bAlloc (Below.refl _ _) _) with t6 := fun _ => rfl, r6 := fun _ _ => one_rdI wv Y (HY.out.at_ h.below) }
    | 7, hpre =>
      unfold okA at hpre
      simp only [Bool.and_eq_true, decide_eq_true_eq, Bool.not_eq_true'] at hpre
      obtain ⟨hsz, ⟨⟨h6, h7⟩, h8⟩, _⟩ := hpre
      have e := h.t6 h6
      subst e
      refine wpOp_step rfl (fun K hK => ?_)
      unfold Fr
      go_simp
      refine (few_new Y _ 1 _ (h.r6 h6 h7)).mono ?_
      rintro e w1 ⟨b, off, cc, rfl, hn1, hl1, a0, a1, a2, a3, hb1⟩
      refine hK _ _ ⟨u11, u12, u13, u14, u15, u16, _, .slice (some ⟨b, off, none⟩) 1 cc, u19, u20, B1, b1, o1, c1, B2, b, off, cc, rfl, ?_⟩
      rw [getD_upd L 7 (by omega)]
      exact { h.more hb1 with t7 := fun _ => rfl, r6 := fun _ e => (by cases e), r7 := fun _ _ => ⟨⟨hl1, a0, a1, a2, a3⟩, (by have := h.lt1; omega)⟩, t8 := fun e => (by rw [show upd (fun j => L.getD j false) 7 8 = L.getD 8 false from rfl, h8] at e; cases e) }
    | 8, hpre =>
      unfold okA at hpre
      simp only [Bool.and_eq_true, decide_eq_true_eq, Bool.not_eq_true'] at hpre
      obtain ⟨hsz, h7, _⟩ := hpre
      have e := h.t7 h7
      subst e
      refine wpOp_step rfl (fun K hK => ?_)
      unfold Fr
      go_simp
      refine hK _ _ ⟨u11, u12, u13, u14, u15, u16, u17, _, .pointer (some ⟨b2, o2, none⟩), u20, B1, b1, o1, c1, B2, b2, o2, c2, rfl, ?_⟩
      rw [getD_upd L 8 (by omega)]
      exact { h with t8 := fun _ => rfl }
    | 9, hpre =>
      unfold okA at hpre
      simp only [Bool.and_eq_true, decide_eq_true_eq, Bool.not_eq_true'] at hpre
      obtain ⟨hsz, ⟨h7, h8⟩, h9⟩ := hpre
      have e := h.t8 h8
      subst e
      obtain ⟨⟨_, p0, p1, p2, p3⟩, _⟩ := h.r7 h7 h9
      refine wpOp_step rfl (fun K hK => ?_)
      unfold Fr
      go_simp
      refine hK _ _ ⟨u11, u12, u13, u14, u15, u16, u17, u18, _, iv Y (cut6 Y).l.length, B1, b1, o1, c1, B2, b2, o2, c2, rfl, ?_⟩
      rw [getD_upd L 9 (by omega)]
      exact { h with t9 := fun _ => rfl, r7 := fun _ e => (by cases e) }
    | 10, hpre =>
      unfold okA at hpre
      simp only [Bool.and_eq_true, decide_eq_true_eq, Bool.not_eq_true'] at hpre
      obtain ⟨hsz, ⟨⟨⟨h2, h4⟩, h7⟩, h10⟩, h11⟩ := hpre
      have e := h.t4 h4
      unfold iv at e
      subst e
      have s := h.s10 h10
      have p0 := s.cell 0
      have p1 := s.cell 1
      have p2 := s.cell 2
      have p3 := s.cell 3
      have f0 := s.frozen 0
      have f1 := s.frozen 1
      have f2 := s.frozen 2
      have f3 := s.frozen 3
      simp only [ic, List.getElem?_cons_zero, List.getElem?_cons_succ] at p0 p1 p2 p3
      refine wpOp_step rfl (fun K hK => ?_)
      unfold Fr
      go_simp
      refine hK _ _ ⟨u11, u12, u13, u14, _, u16, u17, u18, u19, u20, B1, b1, o1, c1, B2, b2, o2, c2, rfl, ?_⟩
      rw [getD_upd L 10 (by omega)]
      have hq9 : q + 1 ≠ q := by omega
      exact { h with
        below := bSet (bSet (bSet (bSet h.below (by omega) _) (by omega) _) (by omega) _) (by omega) _
        lt1 := by simpa [World.setCell] using h.lt1
        s10 := fun e => (by cases e)
        s10' := fun _ => (((s.set 0 (.int .i64 X.k)).set 1 (.int .i64 X.a)).set 2 (.int .i64 X.b)).set 3 (.slice X.A (cut6 X).l.length X.c)
        s11 := fun e => ((((h.s11 e).far hq9 _).far hq9 _).far hq9 _).far hq9 _
        s11' := fun e => ((((h.s11' e).far hq9 _).far hq9 _).far hq9 _).far hq9 _
        r1 := fun _ e => (by rw [show upd (fun j => L.getD j false) 10 2 = L.getD 2 false from rfl, h2] at e; cases e)
        r2 := fun _ e => (by rw [show upd (fun j => L.getD j false) 10 4 = L.getD 4 false from rfl, h4] at e; cases e)
        r6 := fun _ e => (by rw [show upd (fun j => L.getD j false) 10 7 = L.getD 7 false from rfl, h7] at e; cases e)
        r7 := fun e1 e2 => ⟨(h.r7 e1 e2).1.far (h.r7 e1 e2).2, (h.r7 e1 e2).2⟩ }
    | 11, hpre =>
      unfold okA at hpre
      simp only [Bool.and_eq_true, decide_eq_true_eq, Bool.not_eq_true'] at hpre
      obtain ⟨hsz, ⟨⟨⟨⟨h2, h4⟩, h7⟩, h9⟩, h10⟩, h11⟩ := hpre
      have e := h.t9 h9
      unfold iv at e
      subst e
      have s := h.s11 h11
      have p0 := s.cell 0
      have p1 := s.cell 1
      have p2 := s.cell 2
      have p3 := s.cell 3
      have f0 := s.frozen 0
      have f1 := s.frozen 1
      have f2 := s.frozen 2
      have f3 := s.frozen 3
      simp only [ic, List.getElem?_cons_zero, List.getElem?_cons_succ] at p0 p1 p2 p3
      refine wpOp_step rfl (fun K hK => ?_)
      unfold Fr
      go_simp
      refine hK _ _ ⟨u11, u12, u13, u14, u15, u16, u17, u18, u19, _, B1, b1, o1, c1, B2, b2, o2, c2, rfl, ?_⟩
      rw [getD_upd L 11 (by omega)]
      have hq9 : q ≠ q + 1 := by omega
      exact { h with
        below := bSet (bSet (bSet (bSet h.below (by omega) _) (by omega) _) (by omega) _) (by omega) _
        lt1 := by simpa [World.setCell] using h.lt1
        s11 := fun e => (by cases e)
        s11' := fun _ => (((s.set 0 (.int .i64 Y.k)).set 1 (.int .i64 Y.a)).set 2 (.int .i64 Y.b)).set 3 (.slice Y.A (cut6 Y).l.length Y.c)
        s10 := fun e => ((((h.s10 e).far hq9 _).far hq9 _).far hq9 _).far hq9 _
        s10' := fun e => ((((h.s10' e).far hq9 _).far hq9 _).far hq9 _).far hq9 _
        r1 := fun _ e => (by rw [show upd (fun j => L.getD j false) 11 2 = L.getD 2 false from rfl, h2] at e; cases e)
        r2 := fun _ e => (by rw [show upd (fun j => L.getD j false) 11 4 = L.getD 4 false from rfl, h4] at e; cases e)
        r6 := fun _ e => (by rw [show upd (fun j => L.getD j false) 11 7 = L.getD 7 false from rfl, h7] at e; cases e)
        r7 := fun _ e => (by rw [show upd (fun j => L.getD j false) 11 9 = L.getD 9 false from rfl, h9] at e; cases e) }
    | i + 12, hpre =>
      unfold okA at hpre
      simp at hpre
  · have no : ∀ (j : Nat), (Array.replicate 12 false).getD j false = true → False := fun j e => by
      rw [Array.getD_eq_getD_getElem?, Array.getElem?_replicate] at e
      split at e <;> cases e
    exact ⟨undef, undef, undef, undef, undef, undef, undef, undef, undef, undef, 0, 0, 0, 0, 0, 0, 0, 0, rfl,
      ⟨HBV.out.drew, hq2, fun _ => HQ1.out, fun e => (no _ e).elim, fun _ => HQ2.out, fun e => (no _ e).elim, fun e => (no _ e).elim, fun e => (no _ e).elim, fun e => (no _ e).elim, fun e => (no _ e).elim, fun e => (no _ e).elim, fun e => (no _ e).elim,
        fun e => (no _ e).elim, fun e => (no _ e).elim, fun e => (no _ e).elim, fun e => (no _ e).elim, fun e => (no _ e).elim, fun e => (no _ e).elim, fun e => (no _ e).elim, fun e => (no _ e).elim⟩⟩
  · rintro a wz ⟨u11, u12, u13, u14, u15, u16, u17, u18, u19, u20, B1, b1, o1, c1, B2, b2, o2, c2, rfl, h⟩
    have S1 := keepd (h.s10' rfl)
    have S2 := keepd (h.s11' rfl)
    have HB := keepd h.below
    clear h HQ1 HQ2 HBV hq1 hq2
    unfold Fr
    have p0 := S1.out.cell 0
    have p1 := S1.out.cell 1
    have p2 := S1.out.cell 2
    have p3 := S1.out.cell 3
    simp only [ic, List.getElem?_cons_zero, List.getElem?_cons_succ] at p0 p1 p2 p3
    have hqa := S1.out.lt
    have hqb := S2.out.lt
    have HXz := keepd ((HX.out.take 600).at_ HB.out)
    have HYz := keepd ((HY.out.take 600).at_ HB.out)
    obtain ⟨P1, hP1⟩ : ∃ P, putL [cut6 X] = P := ⟨_, rfl⟩
    obtain ⟨P2, hP2⟩ : ∃ P, putL [cut6 Y] = P := ⟨_, rfl⟩
    obtain ⟨m1, hm1⟩ : ∃ m, P1.length = m := ⟨_, rfl⟩
    obtain ⟨m2, hm2⟩ : ∃ m, P2.length = m := ⟨_, rfl⟩
    obtain ⟨e1, he1⟩ : ∃ e, errL [cut6 X] = e := ⟨_, rfl⟩
    obtain ⟨e2, he2⟩ : ∃ e, errL [cut6 Y] = e := ⟨_, rfl⟩
    have g1 : RdI (wz.alloc (.cells #[.int .i64 X.k, .int .i64 X.a, .int .i64 X.b, .slice X.A (cut6 X).l.length X.c] 29)) (some ⟨wz.heap.size, 0, none⟩) [cut6 X] 1 := one_rdI wz (cut6 X) HXz.out
    go_wp2_with fail
    with_reducible refine (put_at _ [cut6 X] P1 m1 1 1 e1 _ rfl (by omega) g1 hP1 hm1 he1).mono ?_
    rintro e w3 ⟨A3, k3, rfl, hr3, hb3⟩
    have hb3' : Below wz.heap.size wz w3 := upA hb3
    have S13 := keepd (S1.out.call hb3' hqa)
    have S23 := keepd (S2.out.call hb3' hqb)
    have HB3 := keepd (bCall HB.out hb3')
    have HQ1 := keepd hr3
    have p0 := S23.out.cell 0
    have p1 := S23.out.cell 1
    have p2 := S23.out.cell 2
    have p3 := S23.out.cell 3
    simp only [ic, List.getElem?_cons_zero, List.getElem?_cons_succ] at p0 p1 p2 p3
    have g2 : RdI (w3.alloc (.cells #[.int .i64 Y.k, .int .i64 Y.a, .int .i64 Y.b, .slice Y.A (cut6 Y).l.length Y.c] 29)) (some ⟨w3.heap.size, 0, none⟩) [cut6 Y] 1 := one_rdI w3 (cut6 Y) (HYz.out.at_ hb3')
    clear hr3 hb3 hb3' g1 S1 S2 HB
    go_wp2_with fail
    with_reducible refine (put_at _ [cut6 Y] P2 m2 1 1 e2 _ rfl (by omega) g2 hP2 hm2 he2).mono ?_
    rintro e w4 ⟨A4, k4, rfl, hr4, hb4⟩
    have hb4' : Below w3.heap.size w3 w4 := upA hb4
    have S14 := keepd (S13.out.call hb4' S13.out.lt)
    have S24 := keepd (S23.out.call hb4' S23.out.lt)
    have HB4 := keepd (bCall HB3.out hb4')
    have HQ2 := keepd hr4
    have HQ1' := keepd (HQ1.out.at_ hb4')
    clear hr4 hb4 hb4' g2 S13 S23 HB3 HQ1 p0 p1 p2 p3
    have HAw := keepd iawake_any
    cases h1 : (cut6 X).may
    · have x1 := errL_no (L := [cut6 X]) (by rw [allMay_one]; exact h1)
      rw [he1] at x1
      subst x1
      go_wp2_with (go_at_call 20; with_reducible refine (HAw.out _).mono ?_; rintro e w5 ⟨rfl, hb5⟩)
      go_ret
      exact ⟨rfl, bCall HB4.out hb5⟩
    · have x1 := errL_yes (L := [cut6 X]) (by rw [allMay_one]; exact h1)
      rw [he1] at x1
      subst x1
      cases h2 : (cut6 Y).may
      · have x2 := errL_no (L := [cut6 Y]) (by rw [allMay_one]; exact h2)
        rw [he2] at x2
        subst x2
        go_wp2_with (go_at_call 20; with_reducible refine (HAw.out _).mono ?_; rintro e w5 ⟨rfl, hb5⟩)
        go_ret
        exact ⟨rfl, bCall HB4.out hb5⟩
      · have x2 := errL_yes (L := [cut6 Y]) (by rw [allMay_one]; exact h2)
        rw [he2] at x2
        subst x2
        rw [putL_one h1] at hP1
        rw [putL_one h2] at hP2
        obtain ⟨v, hv⟩ : ∃ v, sameI (cut6 X) (cut6 Y) = v := ⟨_, rfl⟩
        have hle := apart_le _ _ h1 h2
        have hgt := apart_gt (cut6 X) (cut6 Y)
        have hpos := lies_pos _ h1
        rw [hP1, hP2, hm1, hv] at hle
        rw [hP1, hP2, hm1, hm2, hv] at hgt
        rw [hP1, hm1] at hpos
        have HV := keepd hv
        have HM1 := keepd hm1
        have HM2 := keepd hm2
        have HLE := keepd hle
        have p0 := S14.out.cell 0
        have p1 := S14.out.cell 1
        have p2 := S14.out.cell 2
        have p3 := S14.out.cell 3
        have r0 := S24.out.cell 0
        have r1 := S24.out.cell 1
        have r2 := S24.out.cell 2
        have r3 := S24.out.cell 3
        simp only [ic, List.getElem?_cons_zero, List.getElem?_cons_succ] at p0 p1 p2 p3 r0 r1 r2 r3
        have hlb := S24.out.lt
        have hba : ∀ o, Below w4.heap.size w4 (w4.alloc o) := fun o => bAlloc (Below.refl _ _) o
        have R0 := fun o => ((hba o).cell (p := ⟨q + 1, 0, none⟩) hlb).trans r0
        have R1 := fun o => ((hba o).cell (p := ⟨q + 1, 1, none⟩) hlb).trans r1
        have R2 := fun o => ((hba o).cell (p := ⟨q + 1, 2, none⟩) hlb).trans r2
        have R3 := fun o => ((hba o).cell (p := ⟨q + 1, 3, none⟩) hlb).trans r3
        have HX4 := keepd ((HX.out.take 600).at_ HB4.out)
        have HY4 := keepd ((HY.out.take 600).at_ HB4.out)
        clear hP1 hP2 he1 he2 h1 h2 hm1 hm2 hv hle hba
        go_wp2_with fail
        have g1 : RdI ((w4.alloc (.cells #[.int .i64 X.k, .int .i64 X.a, .int .i64 X.b, .slice X.A (cut6 X).l.length X.c] 29)).alloc (.cells #[.int .i64 Y.k, .int .i64 Y.a, .int .i64 Y.b, .slice Y.A (cut6 Y).l.length Y.c] 29)) (some ⟨w4.heap.size, 0, none⟩) [cut6 X] 1 := (one_rdI w4 (cut6 X) HX4.out).at_ (bAlloc (Below.refl _ _) _)
        have g2 : RdI ((w4.alloc (.cells #[.int .i64 X.k, .int .i64 X.a, .int .i64 X.b, .slice X.A (cut6 X).l.length X.c] 29)).alloc (.cells #[.int .i64 Y.k, .int .i64 Y.a, .int .i64 Y.b, .slice Y.A (cut6 Y).l.length Y.c] 29)) (some ⟨w4.heap.size + 1, 0, none⟩) [cut6 Y] 1 := one_rdI2 w4 _ (cut6 Y) HY4.out
        with_reducible refine (same_any _ _ [cut6 X] [cut6 Y] 1 1 1 1 _ rfl rfl g1 g2).mono ?_
        rintro e w5 ⟨rfl, hb5⟩
        rw [sameL_one, HV.out]
        have hb5' : Below w4.heap.size w4 w5 := upA (upA hb5)
        have HB5 := keepd (bCall HB4.out hb5')
        have HQ15 := keepd (HQ1'.out.at_ hb5')
        have HQ25 := keepd (HQ2.out.at_ hb5')
        clear hb5 hb5' g1 g2 p0 p1 p2 p3 r0 r1 r2 r3 R0 R1 R2 R3 HX4 HY4
        by_cases hc : m1 ≤ m2
        · have hmn := min_nat m1 m2
          rw [Nat.min_eq_left hc] at hmn
          have d1' : decide ((m1 : Int) ≤ (m2 : Int)) = true := by simp; omega
          have d2 : decide ((m1 : Int) > 0) = true := by simp; omega
          have hk4 : m2 ≤ k4 := by have := HQ25.out.1; rw [HM2.out] at this; exact this
          have HT : Hid (m1 = (P2.take m1).length) := by show _ = _; rw [List.length_take, HM2.out]; omega
          have Y' := octets_n A3 A4 P1 (P2.take m1) m1 m1 k3 k4 _ _ HM1.out.symm HT.out HQ15.out (HQ25.out.take m1)
          rw [HLE.out] at Y'
          clear hgt
          go_wp2_with fail
          with_reducible refine Y'.mono ?_
          rintro e w6 ⟨rfl, rfl⟩
          clear Y' hmn
          cases v
          all_goals
            go_wp2_with (go_at_call 20; with_reducible refine (HAw.out _).mono ?_; rintro e w7 ⟨rfl, hb7⟩)
            go_ret
            exact ⟨rfl, bCall HB5.out hb7⟩
        · have d1' : decide ((m1 : Int) ≤ (m2 : Int)) = false := by simp; omega
          have d2 : decide ((m1 : Int) > 0) = true := by simp; omega
          have hvf : v = false := hgt (by omega)
          subst hvf
          go_wp2_with (go_at_call 20; with_reducible refine (HAw.out _).mono ?_; rintro e w7 ⟨rfl, hb7⟩)
          go_ret
          exact ⟨rfl, bCall HB5.out hb7⟩

end Go.Proofs.YtagfoidljficoaaDoor
