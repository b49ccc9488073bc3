/-
  Few, of one item, in new memory; and a region whose order is drawn, by a graph of what has come up.
-/
import Derived.Test.YtagfoidljficoaaDoorBegins
import Derived.Test.YtagfoidljficoaaDoorJ2
namespace Go.Proofs.YtagfoidljficoaaDoor
open Go.RowKit

/-- What Few leaves, and that it is new memory. -/
def GotFewN (w : World) (L : List Itm) (e : Ending) (w' : World) : Prop :=
  ∃ A c, e = .returned (.slice A (fewI L).length c) ∧ RdI w' A (fewI L) c ∧ (∀ b off, A = some ⟨b, off, none⟩ → w.heap.size ≤ b) ∧ Below w.heap.size w w'

set_option maxHeartbeats 1000000 in
theorem fewI_new (A : Option Addr) (L : List Itm) (n c : Nat) (w : World) (hn : n = L.length) (hr : RdI w A L c) : Calls Tryd.prog 9 #[.slice A n c] w (GotFewN w L) := by
  have HR := keepd hr
  have HN := keepd hn
  have c1 := hr.1
  have c2 := hr.2.1
  unfold maxLen at c2
  rw [← hn] at c1
  clear hr hn
  go_enter Tryd.func9, Tryd.ntmps9
  go_wp2_with fail
  go_loopw [3, 4] (fun vo vi wr => ∃ k : Nat, k ≤ n ∧ k ≤ 40 ∧ vi = .int .i64 k ∧ Hid (OwnI wr w.heap.size vo ((L.take k).map cut6)) ∧ Hid (Below w.heap.size w wr)) (fun _ vi _ => 40 - (intOf vi).toNat)
  case atStart => exact ⟨0, by omega, by omega, rfl, OwnI.nil _ _, Below.refl _ _⟩
  case round =>
    obtain ⟨k, hk, hk4, rfl, HO, HB⟩ := hrel
    have hsz := HB.out.size
    by_cases hlt : k < n ∧ k < 40
    · obtain ⟨h1, h2⟩ := hlt
      have g1 : decide ((k : Int) < (n : Int)) = true := by simp; omega
      have g2 : decide ((k : Int) < 40) = true := by simp; omega
      have hkL : k < L.length := by rw [← HN.out]; exact h1
      obtain ⟨b, off, hA, hbl, hce⟩ := HR.out.2.2.1 (by rintro rfl; simp at hkL)
      subst hA
      obtain ⟨e0, e1, e2, e3⟩ := hce k hkL
      have e0' := (HB.out.cell (p := ⟨b, off + k * 4, none⟩) hbl).trans e0
      have e1' := (HB.out.cell (p := ⟨b, off + k * 4 + 1, none⟩) hbl).trans e1
      have e2' := (HB.out.cell (p := ⟨b, off + k * 4 + 2, none⟩) hbl).trans e2
      have e3' := (HB.out.cell (p := ⟨b, off + k * 4 + 3, none⟩) hbl).trans e3
      have HRX := keepd ((HR.out.2.2.2 L[k] (List.getElem_mem hkL)).at_ HB.out)
      have HS : Hid ((L.take (k + 1)).map cut6 = (L.take k).map cut6 ++ [cut6 L[k]]) := by
        show _ = _
        rw [List.take_succ_eq_append_getElem hkL, List.map_append]
        rfl
      have HLn : Hid (((L.take k).map cut6).length ≤ 40) := by show _ ≤ _; rw [List.length_map, List.length_take]; omega
      generalize L[k] = X at *
      have d1 := HRX.out.1
      have d2 := HRX.out.2.1
      unfold maxLen at d2
      clear hce e0 e1 e2 e3
      by_cases h600 : X.l.length ≤ 600
      · have HX : Hid (cut6 X = X) := by
          show _ = _
          unfold cut6
          rw [List.take_of_length_le h600]
        have g3 : decide ((600 : Int) < (X.l.length : Int)) = false := by simp; omega
        have HRY := keepd (fun o => one_rdI2 wr o X HRX.out)
        go_wp2_with (at_builtin; refine wpList_appI _ rfl (.tmp 28) (.tmp 30) rfl w.heap.size _ ((L.take k).map cut6) rfl ((HO.out.alloc _).alloc _) (some ⟨wr.heap.size + 1, 0, none⟩) 1 1 [X] rfl rfl (HRY.out _) (by have := HLn.out; simp only [List.length_cons, List.length_nil]; omega) (by simp only [World.size_alloc]; omega) ?_; intro va w4 ho hg _)
        have hb4 : Below w.heap.size w w4 := (bAlloc (bAlloc HB.out _) _).trans (ownI_grown ((HO.out.alloc _).alloc _) hg (by simp only [World.size_alloc]; omega))
        have HB4 := keepd hb4
        have HO4 : Hid (OwnI w4 w.heap.size va ((L.take (k + 1)).map cut6)) := by
          show OwnI _ _ _ _
          rw [HS.out, HX.out]
          exact ho
        clear ho hg hb4 e0' e1' e2' e3'
        go_wp2
        go_roundw
        case rel => exact ⟨k + 1, by omega, by omega, by go_num, HO4, HB4⟩
        case measure => simp [intOf]; omega
      · have g3 : decide ((600 : Int) < (X.l.length : Int)) = true := by simp; omega
        have h6 : (cut6 X).l.length = 600 := by unfold cut6; rw [List.length_take]; omega
        have HRY : Hid (∀ o, RdI ((wr.alloc o).alloc (.cells #[.int .i64 X.k, .int .i64 X.a, .int .i64 X.b, .slice X.A 600 X.c] 29)) (some ⟨wr.heap.size + 1, 0, none⟩) [cut6 X] 1) := by
          intro o
          have := one_rdI2 wr o (cut6 X) (HRX.out.take 600)
          rw [h6] at this
          exact this
        clear h6
        go_wp2_with (at_builtin; refine wpList_appI _ rfl (.tmp 28) (.tmp 30) rfl w.heap.size _ ((L.take k).map cut6) rfl ((HO.out.alloc _).alloc _) (some ⟨wr.heap.size + 1, 0, none⟩) 1 1 [cut6 X] rfl rfl (HRY.out _) (by have := HLn.out; simp only [List.length_cons, List.length_nil]; omega) (by simp only [World.size_alloc]; omega) ?_; intro va w4 ho hg _)
        have hb4 : Below w.heap.size w w4 := (bAlloc (bAlloc HB.out _) _).trans (ownI_grown ((HO.out.alloc _).alloc _) hg (by simp only [World.size_alloc]; omega))
        have HB4 := keepd hb4
        have HO4 : Hid (OwnI w4 w.heap.size va ((L.take (k + 1)).map cut6)) := by
          show OwnI _ _ _ _
          rw [HS.out]
          exact ho
        clear ho hg hb4 e0' e1' e2' e3'
        go_wp2
        go_roundw
        case rel => exact ⟨k + 1, by omega, by omega, by go_num, HO4, HB4⟩
        case measure => simp [intOf]; omega
    · have hg : decide ((k : Int) < (n : Int)) = false ∨ (decide ((k : Int) < (n : Int)) = true ∧ decide ((k : Int) < 40) = false) := by
        by_cases h : k < n
        · exact .inr ⟨by simp; omega, by simp; omega⟩
        · exact .inl (by simp; omega)
      have HF : Hid (OwnI wr w.heap.size u3 (fewI L)) := by
        show OwnI _ _ _ _
        have := HO.out
        unfold fewI
        rcases Nat.lt_or_ge k 40 with h | h
        · have hkn : k = n := by omega
          have e1 : L.take k = L := List.take_of_length_le (by rw [← HN.out]; omega)
          have e2 : L.take 40 = L := List.take_of_length_le (by rw [← HN.out]; omega)
          rw [e1] at this
          rw [e2]
          exact this
        · have : k = 40 := by omega
          subst this
          exact HO.out
      have HRX : Hid (∀ x ∈ fewI L, Rd wr wr.heap.size x.A x.l x.c) := by
        intro x hx
        unfold fewI at hx
        obtain ⟨y, hy, rfl⟩ := List.mem_map.1 hx
        exact ((HR.out.2.2.2 y (List.mem_of_mem_take hy)).take 600).at_ HB.out
      obtain ⟨A', c', rfl, hr'⟩ := HF.out.rd HRX.out
      have H1 := keepd hr'
      have HG : Hid (∀ b off, A' = some ⟨b, off, none⟩ → w.heap.size ≤ b) := by
        intro b off e
        subst e
        exact (HF.out.ge b rfl).1
      clear hr' HO
      rcases hg with g1 | ⟨g1, g2⟩
      all_goals
        go_wp2
        all_goals
          go_ret
          exact ⟨A', c', rfl, H1.out, HG.out, HB.out⟩


/-- Few, of one item: in new memory. -/
theorem few_new (X : Itm) (A : Option Addr) (c : Nat) (w : World) (hr : RdI w A [X] c) :
    Calls Tryd.prog 9 #[.slice A 1 c] w fun e w' => ∃ b off c', e = .returned (.slice (some ⟨b, off, none⟩) 1 c') ∧ w.heap.size ≤ b ∧ b < w'.heap.size ∧ w'.cell? ⟨b, off, none⟩ = some (.int .i64 X.k) ∧ w'.cell? ⟨b, off + 1, none⟩ = some (.int .i64 X.a) ∧
      w'.cell? ⟨b, off + 2, none⟩ = some (.int .i64 X.b) ∧ w'.cell? ⟨b, off + 3, none⟩ = some (.slice X.A (cut6 X).l.length X.c) ∧ Below w.heap.size w w' := by
  refine (fewI_new A [X] 1 c w rfl hr).mono ?_
  rintro e w' ⟨A', c', rfl, h, hg, hb⟩
  obtain ⟨b, off, rfl, hlt, hc⟩ := h.2.2.1 (by simp [fewI])
  obtain ⟨h0, h1, h2, h3⟩ := hc 0 (by simp [fewI])
  exact ⟨b, off, c', rfl, hg b off rfl, hlt, h0, h1, h2, h3, hb⟩

/-- Four cells of a block, in every world that has w1's old memory. -/
theorem cells4 {w1 W : World} {b o : Nat} {u0 u1 u2 u3 : Value} (h : Below w1.heap.size w1 W) (hb : b < w1.heap.size) (k0 : w1.cell? ⟨b, o, none⟩ = some u0) (k1 : w1.cell? ⟨b, o + 1, none⟩ = some u1) (k2 : w1.cell? ⟨b, o + 2, none⟩ = some u2) (k3 : w1.cell? ⟨b, o + 3, none⟩ = some u3) :
    W.cell? ⟨b, o, none⟩ = some u0 ∧ W.cell? ⟨b, o + 1, none⟩ = some u1 ∧ W.cell? ⟨b, o + 2, none⟩ = some u2 ∧ W.cell? ⟨b, o + 3, none⟩ = some u3 :=
  ⟨(h.cell (p := ⟨b, o, none⟩) hb).trans k0, (h.cell (p := ⟨b, o + 1, none⟩) hb).trans k1, (h.cell (p := ⟨b, o + 2, none⟩) hb).trans k2, (h.cell (p := ⟨b, o + 3, none⟩) hb).trans k3⟩

theorem setFar {w : World} {q b o : Nat} {u v0 v1 v2 v3 : Value} (hb : b ≠ q) (h : w.cell? ⟨b, o, none⟩ = some u) :
    ((((w.setCell ⟨q, 0, none⟩ v0).setCell ⟨q, 1, none⟩ v1).setCell ⟨q, 2, none⟩ v2).setCell ⟨q, 3, none⟩ v3).cell? ⟨b, o, none⟩ = some u := by
  have k : ∀ (w : World) (i : Nat) (v : Value), (w.setCell ⟨q, i, none⟩ v).cell? ⟨b, o, none⟩ = w.cell? ⟨b, o, none⟩ := by
    intro w i v
    unfold World.cell?
    rw [Below.heap_setCell w ⟨q, i, none⟩ v b hb]
  rw [k, k, k, k]
  exact h

/-- A region whose order is drawn: what holds when just the operations of L have come up (I L), shown operation by operation; T: all sets L that can be. -/
theorem region_graph {P : Program} {ops : Array Oper} {Q : Exit → Act → World → Prop} {id : Nat} {a : Act} {w : World} (I : Array Bool → Act → World → Prop) (T : List (Array Bool)) (full : Array Bool) (okPre : Nat → Array Bool → Bool) (mu : Array Bool → Nat)
    (hm : P.follows .mixedOrders = true)
    (hT : (T.all fun L => (Region.ready .any ops L).all (fun i => okPre i L && (T.contains (L.setIfInBounds i true) && decide (mu (L.setIfInBounds i true) < mu L))) && (!(Region.ready .any ops L).isEmpty || L == full)) = true)
    (hs : (T.contains (Array.replicate ops.size false) && decide (mu (Array.replicate ops.size false) ≤ ops.size)) = true)
    (hstep : ∀ i L a w, okPre i L = true → I L a w → wpOp P ops Q i (I (L.setIfInBounds i true)) a w)
    (h0 : I (Array.replicate ops.size false) a { w with drawn := w.drawn + 1 })
    (hdone : ∀ a w, I full a w → Q .normal a w) : (Code.region id ops true).wp P Q a w := by
  refine wp_region_any hm ?_
  have key : ∀ (fuel : Nat) (L : Array Bool) (a : Act) (w : World), T.contains L = true → mu L ≤ fuel → I L a w → wpAny P .any ops Q fuel L a w := by
    intro fuel
    induction fuel with
    | zero =>
      intro L a w hL hmu hI
      have h1 := List.all_eq_true.1 hT L (List.contains_iff_mem.1 hL)
      simp only [Bool.and_eq_true, Bool.or_eq_true] at h1
      have hr : Region.ready .any ops L = [] := by
        cases hrr : Region.ready .any ops L with
        | nil => rfl
        | cons i r =>
          have h2 := List.all_eq_true.1 h1.1 i (by rw [hrr]; simp)
          simp only [Bool.and_eq_true, decide_eq_true_eq] at h2
          omega
      refine ⟨hr, ?_⟩
      rcases h1.2 with h2 | h2
      · rw [hr] at h2; cases h2
      · have : L = full := by simpa using h2
        subst this
        exact hdone a w hI
    | succ fuel ih =>
      intro L a w hL hmu hI
      have h1 := List.all_eq_true.1 hT L (List.contains_iff_mem.1 hL)
      simp only [Bool.and_eq_true, Bool.or_eq_true] at h1
      refine ⟨fun hr => ?_, fun i hi => ?_⟩
      · rcases h1.2 with h2 | h2
        · rw [hr] at h2; cases h2
        · have : L = full := by simpa using h2
          subst this
          exact hdone a w hI
      · have h2 := List.all_eq_true.1 h1.1 i hi
        simp only [Bool.and_eq_true, decide_eq_true_eq] at h2
        exact wpOp_mono (fun a w h => ih _ a w h2.2.1 (by omega) h) (hstep i L a w h2.1 hI)
  simp only [Bool.and_eq_true, decide_eq_true_eq] at hs
  exact key _ _ a _ hs.1 hs.2 h0

/-- What has come up, and one more. -/
def upd (f : Nat → Bool) (i : Nat) : Nat → Bool := fun j => if j = i then true else f j
theorem getD_upd (L : Array Bool) (i : Nat) (h : i < L.size) : (fun j => (L.setIfInBounds i true).getD j false) = upd (fun j => L.getD j false) i := by
  funext j
  unfold upd
  by_cases e : j = i
  · subst e
    rw [if_pos rfl, Array.getD_eq_getD_getElem?, Array.getElem?_setIfInBounds_self_of_lt h]
    rfl
  · rw [if_neg e, Array.getD_eq_getD_getElem?, Array.getElem?_setIfInBounds_ne (by omega), ← Array.getD_eq_getD_getElem?]

def iv (X : Itm) (n : Nat) : Value := .agg #[.int .i64 X.k, .int .i64 X.a, .int .i64 X.b, .slice X.A n X.c]
def ic (X : Itm) (n : Nat) : List Value := [.int .i64 X.k, .int .i64 X.a, .int .i64 X.b, .slice X.A n X.c]

/-- Four cells, an item's. -/
def C4 (w : World) (b o : Nat) (X : Itm) (n : Nat) : Prop :=
  b < w.heap.size ∧ w.cell? ⟨b, o, none⟩ = some (.int .i64 X.k) ∧ w.cell? ⟨b, o + 1, none⟩ = some (.int .i64 X.a) ∧ w.cell? ⟨b, o + 2, none⟩ = some (.int .i64 X.b) ∧ w.cell? ⟨b, o + 3, none⟩ = some (.slice X.A n X.c)

theorem C4.below {w w' : World} {b o : Nat} {X : Itm} {n : Nat} (h : C4 w b o X n) (hb : Below w.heap.size w w') : C4 w' b o X n := by
  obtain ⟨h0, h1, h2, h3, h4⟩ := h
  obtain ⟨k1, k2, k3, k4⟩ := cells4 hb h0 h1 h2 h3 h4
  exact ⟨Nat.lt_of_lt_of_le h0 hb.size, k1, k2, k3, k4⟩

theorem C4.far {w : World} {q b o : Nat} {X : Itm} {n : Nat} {v0 v1 v2 v3 : Value} (h : C4 w b o X n) (hb : b ≠ q) : C4 ((((w.setCell ⟨q, 0, none⟩ v0).setCell ⟨q, 1, none⟩ v1).setCell ⟨q, 2, none⟩ v2).setCell ⟨q, 3, none⟩ v3) b o X n := by
  obtain ⟨h0, h1, h2, h3, h4⟩ := h
  exact ⟨by simpa [World.setCell] using h0, setFar hb h1, setFar hb h2, setFar hb h3, setFar hb h4⟩

/-- What holds where just the operations of f have come up. -/
structure Fx (X Y : Itm) (nx mx ny my : Nat) (w0 : World) (q : Nat) (f : Nat → Bool) (u11 u12 u13 u14 u15 u16 u17 u18 u19 u20 : Value) (B1 b1 o1 c1 B2 b2 o2 c2 : Nat) (w : World) : Prop where
  below : Below w0.heap.size w0 w
  lt1 : q + 1 < w.heap.size
  s10 : f 10 = false → SR 29 w q (ic X nx)
  s10' : f 10 = true → SR 29 w q (ic X mx)
  s11 : f 11 = false → SR 29 w (q + 1) (ic Y ny)
  s11' : f 11 = true → SR 29 w (q + 1) (ic Y my)
  t0 : f 0 = true → u11 = iv X nx
  t1 : f 1 = true → u12 = .slice (some ⟨B1, 0, none⟩) 1 1
  r1 : f 1 = true → f 2 = false → RdI w (some ⟨B1, 0, none⟩) [X] 1
  t2 : f 2 = true → u13 = .slice (some ⟨b1, o1, none⟩) 1 c1
  r2 : f 2 = true → f 4 = false → C4 w b1 o1 X mx
  t3 : f 3 = true → u14 = .pointer (some ⟨b1, o1, none⟩)
  t4 : f 4 = true → u15 = iv X mx
  t5 : f 5 = true → u16 = iv Y ny
  t6 : f 6 = true → u17 = .slice (some ⟨B2, 0, none⟩) 1 1
  r6 : f 6 = true → f 7 = false → RdI w (some ⟨B2, 0, none⟩) [Y] 1
  t7 : f 7 = true → u18 = .slice (some ⟨b2, o2, none⟩) 1 c2
  r7 : f 7 = true → f 9 = false → C4 w b2 o2 Y my ∧ b2 ≠ q
  t8 : f 8 = true → u19 = .pointer (some ⟨b2, o2, none⟩)
  t9 : f 9 = true → u20 = iv Y my

theorem Fx.more {X Y : Itm} {nx mx ny my : Nat} {w0 : World} {q : Nat} {f : Nat → Bool} {u11 u12 u13 u14 u15 u16 u17 u18 u19 u20 : Value} {B1 b1 o1 c1 B2 b2 o2 c2 : Nat} {w w' : World} (h : Fx X Y nx mx ny my w0 q f u11 u12 u13 u14 u15 u16 u17 u18 u19 u20 B1 b1 o1 c1 B2 b2 o2 c2 w)
    (hb : Below w.heap.size w w') : Fx X Y nx mx ny my w0 q f u11 u12 u13 u14 u15 u16 u17 u18 u19 u20 B1 b1 o1 c1 B2 b2 o2 c2 w' where
  below := bCall h.below hb
  lt1 := Nat.lt_of_lt_of_le h.lt1 hb.size
  s10 := fun e => (h.s10 e).call hb (by have := h.lt1; omega)
  s10' := fun e => (h.s10' e).call hb (by have := h.lt1; omega)
  s11 := fun e => (h.s11 e).call hb h.lt1
  s11' := fun e => (h.s11' e).call hb h.lt1
  t0 := h.t0
  t1 := h.t1
  r1 := fun e1 e2 => (h.r1 e1 e2).at_ hb
  t2 := h.t2
  r2 := fun e1 e2 => (h.r2 e1 e2).below hb
  t3 := h.t3
  t4 := h.t4
  t5 := h.t5
  t6 := h.t6
  r6 := fun e1 e2 => (h.r6 e1 e2).at_ hb
  t7 := h.t7
  r7 := fun e1 e2 => ⟨(h.r7 e1 e2).1.below hb, (h.r7 e1 e2).2⟩
  t8 := h.t8
  t9 := h.t9

/-- The frame of the law, at its second region. -/
def Fr (X Y : Itm) (nx ny q : Nat) (u11 u12 u13 u14 u15 u16 u17 u18 u19 u20 : Value) : Act :=
  { tmps := #[.agg #[.int .i64 X.k, .int .i64 X.a, .int .i64 X.b, .slice X.A nx X.c], .agg #[.int .i64 Y.k, .int .i64 Y.a, .int .i64 Y.b, .slice Y.A ny Y.c], .pointer (some ⟨q, 0, none⟩), .pointer (some ⟨q + 1, 0, none⟩), .bool false, undef, undef, undef, undef, undef, undef, u11, u12, u13, u14, u15, u16, u17, u18, u19, u20, undef, undef, undef, undef, undef, undef, undef, undef, undef, undef, undef, undef, undef, undef, undef, undef, undef, undef, undef, undef, undef, undef, undef, undef, undef, undef, undef, undef, undef, undef, undef, undef, undef, undef, undef, undef, undef, undef, undef, undef, undef, undef, undef, undef, undef, undef, undef, undef, undef, undef, undef], defers := [] }

def IA (X Y : Itm) (nx mx ny my : Nat) (w0 : World) (q : Nat) (L : Array Bool) (a : Act) (w : World) : Prop :=
  ∃ u11 u12 u13 u14 u15 u16 u17 u18 u19 u20 : Value, ∃ B1 b1 o1 c1 B2 b2 o2 c2 : Nat, a = Fr X Y nx ny q u11 u12 u13 u14 u15 u16 u17 u18 u19 u20 ∧ Fx X Y nx mx ny my w0 q (fun j => L.getD j false) u11 u12 u13 u14 u15 u16 u17 u18 u19 u20 B1 b1 o1 c1 B2 b2 o2 c2 w

/-- Which operations must have come up, and which not, before one does. -/
def okA (i : Nat) (L : Array Bool) : Bool :=
  decide (L.size = 12) && match i with
  | 0 => !L.getD 0 false && !L.getD 10 false
  | 1 => L.getD 0 false && !L.getD 1 false && !L.getD 2 false
  | 2 => L.getD 1 false && !L.getD 2 false && !L.getD 3 false && !L.getD 4 false
  | 3 => L.getD 2 false && !L.getD 3 false
  | 4 => L.getD 2 false && L.getD 3 false && !L.getD 4 false
  | 5 => !L.getD 5 false && !L.getD 11 false
  | 6 => L.getD 5 false && !L.getD 6 false && !L.getD 7 false
  | 7 => L.getD 6 false && !L.getD 7 false && !L.getD 8 false && !L.getD 9 false
  | 8 => L.getD 7 false && !L.getD 8 false
  | 9 => L.getD 7 false && L.getD 8 false && !L.getD 9 false
  | 10 => L.getD 2 false && L.getD 4 false && L.getD 7 false && !L.getD 10 false && !L.getD 11 false
  | 11 => L.getD 2 false && L.getD 4 false && L.getD 7 false && L.getD 9 false && L.getD 10 false && !L.getD 11 false
  | _ => false

def TA : List (Array Bool) := [#[false, false, false, false, false, false, false, false, false, false, false, false], #[true, false, false, false, false, false, false, false, false, false, false, false], #[false, false, false, false, false, true, false, false, false, false, false, false], #[true, true, false, false, false, false, false, false, false, false, false, false], #[true, false, false, false, false, true, false, false, false, false, false, false], #[false, false, false, false, false, true, true, false, false, false, false, false], #[true, true, true, false, false, false, false, false, false, false, false, false], #[true, true, false, false, false, true, false, false, false, false, false, false], #[true, false, false, false, false, true, true, false, false, false, false, false], #[true, true, true, true, false, false, false, false, false, false, false, false], #[true, true, true, false, false, true, false, false, false, false, false, false], #[true, true, false, false, false, true, true, false, false, false, false, false], #[true, true, true, true, true, false, false, false, false, false, false, false], #[true, true, true, true, false, true, false, false, false, false, false, false], #[true, true, true, false, false, true, true, false, false, false, false, false], #[true, true, true, true, true, true, false, false, false, false, false, false], #[true, true, true, true, false, true, true, false, false, false, false, false], #[true, true, true, false, false, true, true, true, false, false, false, false], #[true, true, true, true, true, true, true, false, false, false, false, false], #[true, true, true, true, false, true, true, true, false, false, false, false], #[true, true, true, false, false, true, true, true, true, false, false, false], #[true, true, true, true, true, true, true, true, false, false, false, false], #[true, true, true, true, false, true, true, true, true, false, false, false], #[true, true, true, false, false, true, true, true, true, true, false, false], #[true, true, true, true, true, true, true, true, true, false, false, false], #[true, true, true, true, true, true, true, true, false, false, true, false], #[true, true, true, true, false, true, true, true, true, true, false, false], #[true, true, true, true, true, true, true, true, true, true, false, false], #[true, true, true, true, true, true, true, true, true, false, true, false], #[true, true, true, true, true, true, true, true, true, true, true, false], #[true, true, true, true, true, true, true, true, true, true, true, true]]

end Go.Proofs.YtagfoidljficoaaDoor
