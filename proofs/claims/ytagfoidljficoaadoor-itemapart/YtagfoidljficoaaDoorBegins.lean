/-
  The law ItemBegins, walked: it returns true, whatever the item.
-/
import Derived.Test.YtagfoidljficoaaDoorI9
import Derived.Test.YtagfoidljficoaaDoorT8
namespace Go.Proofs.YtagfoidljficoaaDoor
open Go.RowKit

/-- Few, of one item. -/
theorem few_one (X : Itm) (A : Option Addr) (c : Nat) (w : World) (hr : RdI w A [X] c) :
    Calls Tryd.prog 9 #[.slice A 1 c] w fun e w' => ∃ b off c', e = .returned (.slice (some ⟨b, off, none⟩) 1 c') ∧ w'.cell? ⟨b, off, none⟩ = some (.int .i64 X.k) ∧ w'.cell? ⟨b, off + 1, none⟩ = some (.int .i64 X.a) ∧
      w'.cell? ⟨b, off + 2, none⟩ = some (.int .i64 X.b) ∧ w'.cell? ⟨b, off + 3, none⟩ = some (.slice X.A (cut6 X).l.length X.c) ∧ Rd w' w'.heap.size X.A (cut6 X).l X.c ∧ Below w.heap.size w w' := by
  refine (fewI_any A [X] 1 c w rfl hr).mono ?_
  rintro e w' ⟨A', c', rfl, h, hb⟩
  obtain ⟨b, off, rfl, _, hc⟩ := h.2.2.1 (by simp [fewI])
  obtain ⟨h0, h1, h2, h3⟩ := hc 0 (by simp [fewI])
  exact ⟨b, off, c', rfl, h0, h1, h2, h3, h.2.2.2 (cut6 X) (by simp [fewI]), hb⟩

theorem allMay_one (Y : Itm) : allMay [Y] = Y.may := by simp [allMay]
theorem liesAll_one (Y : Itm) : liesAll [Y] = Y.lies := by simp [liesAll]
theorem putL_one {Y : Itm} (h : Y.may = true) : putL [Y] = Y.lies := by rw [putL_yes (by rw [allMay_one]; exact h), liesAll_one]

/-- How an item that may be begins. -/
theorem begins_shape (Y : Itm) (h : Y.may = true) : (Y.k = 1 ∧ ∃ u, Y.lies = layL [u]) ∨ (Y.k ≠ 1 ∧ ∃ v rest, Y.lies = 255 :: v :: rest ∧ v ≠ 255) := by
  unfold Itm.may mayN at h
  unfold Itm.lies liesN
  by_cases h1 : Y.k = 1
  · exact .inl ⟨h1, u8 Y.a, if_pos h1⟩
  · refine .inr ⟨h1, ?_⟩
    rw [if_neg h1] at h ⊢
    have key : ∀ z : Int, 0 ≤ z → z ≤ 254 → u8 z ≠ 255 := by
      intro z h0 h2 e
      have := u8_back h0 (by omega)
      rw [e] at this
      have e2 : ((255 : UInt8).toNat : Int) = 255 := rfl
      rw [e2] at this
      omega
    by_cases h2 : Y.k = 2
    · rw [if_pos h2] at h ⊢
      simp only [Bool.and_eq_true] at h
      obtain ⟨o1, o2, _⟩ := of_decide_eq_true (show decide _ = true from h.1.1)
      exact ⟨_, _, rfl, key _ (by omega) (by omega)⟩
    rw [if_neg h2] at h ⊢
    by_cases h3 : Y.k = 3
    · rw [if_pos h3] at h ⊢
      simp only [Bool.and_eq_true] at h
      obtain ⟨o1, o2⟩ := of_decide_eq_true (show decide _ = true from h.1.1)
      exact ⟨_, _, rfl, key _ (by omega) (by omega)⟩
    rw [if_neg h3]
    exact ⟨250, _, rfl, by decide⟩

theorem Rd.two {w : World} {B : Nat} {A : Option Addr} {x y : UInt8} {r : List UInt8} {c : Nat} (h : Rd w B A (x :: y :: r) c) :
    ∃ b off, A = some ⟨b, off, none⟩ ∧ w.cell? ⟨b, off, none⟩ = some (.int .u8 (x.toNat : Int)) ∧ w.cell? ⟨b, off + 1, none⟩ = some (.int .u8 (y.toNat : Int)) := by
  obtain ⟨b, off, e, _, h0⟩ := h.form (k := 0) (by simp)
  obtain ⟨b', off', e', _, h1⟩ := h.form (k := 1) (by simp)
  rw [e] at e'
  injection e' with e'
  injection e' with e1 e2
  subst e1 e2
  exact ⟨b, off, e, h0, h1⟩

theorem read_at (A : Option Addr) (l d : List UInt8) (m k n c : Nat) (w : World) (hn : n = l.length) (hr : Rd w w.heap.size A l c) (hl : n ≤ 5000) (hd : (readD l).1 = d) (hm : d.length = m) (hk : (readD l).2 = k) :
    Calls Tryd.prog 23 #[.slice A n c] w (fun e w' => ∃ A' c', e = .returned (.tuple #[.slice A' m c', .int .i64 (k : Int)]) ∧ Rd w' w'.heap.size A' d c' ∧ Below w.heap.size w w') := by
  subst hd hm hk
  exact read_any A l n c w hn hr hl

theorem beginsB (k : Int) (v : Bool) (h : (k == 1) = v) : (k != 1) = !v := by subst h; rfl

set_option maxRecDepth 100000 in
set_option maxHeartbeats 2000000 in
theorem begins_law (X : Itm) (n : Nat) (hn : n = X.l.length) (w : World) (hr : Rd w w.heap.size X.A X.l X.c) :
    Calls Tryd.prog 6 #[.agg #[.int .i64 X.k, .int .i64 X.a, .int .i64 X.b, .slice X.A n X.c]] w fun e w' => e = .returned (.bool true) ∧ Below w.heap.size w w' := by
  subst hn
  have HR := keepd hr
  clear hr
  go_enter Tryd.func6, Tryd.ntmps6
  go_wp2_with fail
  have g0 := one_rdI2 w (.cells #[.int .i64 X.k, .int .i64 X.a, .int .i64 X.b, .slice X.A X.l.length X.c] 29) X HR.out
  with_reducible refine (few_one X _ 1 _ g0).mono ?_
  rintro e w1 ⟨b, off, c', rfl, e0, e1, e2, e3, hr1, hb1⟩
  have q := ((SR.new 29 w [.int .i64 X.k, .int .i64 X.a, .int .i64 X.b, .slice X.A X.l.length X.c]).alloc (.cells #[.int .i64 X.k, .int .i64 X.a, .int .i64 X.b, .slice X.A X.l.length X.c] 29)).call hb1 (by simp; omega)
  have hb : Below w.heap.size w w1 := upA (upA hb1)
  have H1 := keepd hr1
  have HB1 := keepd hb
  have f0 := q.frozen 0
  have f1 := q.frozen 1
  have f2 := q.frozen 2
  have f3 := q.frozen 3
  have p0 := q.cell 0
  have p1 := q.cell 1
  have p2 := q.cell 2
  have p3 := q.cell 3
  simp only [List.getElem?_cons_zero, List.getElem?_cons_succ] at p0 p1 p2 p3
  have HQ := keepd q
  clear g0 hr1 hb1 hb q
  go_wp2_with fail
  have q2 := (((HQ.out.set 0 (.int .i64 X.k)).set 1 (.int .i64 X.a)).set 2 (.int .i64 X.b)).set 3 (.slice X.A (cut6 X).l.length X.c)
  have hb2 : Below w.heap.size w ((((w1.setCell ⟨w.heap.size, 0, none⟩ (.int .i64 X.k)).setCell ⟨w.heap.size, 1, none⟩ (.int .i64 X.a)).setCell ⟨w.heap.size, 2, none⟩ (.int .i64 X.b)).setCell ⟨w.heap.size, 3, none⟩ (.slice X.A (cut6 X).l.length X.c)) :=
    bSet (bSet (bSet (bSet HB1.out (Nat.le_refl _) _) (Nat.le_refl _) _) (Nat.le_refl _) _) (Nat.le_refl _) _
  have hs : ((((w1.setCell ⟨w.heap.size, 0, none⟩ (.int .i64 X.k)).setCell ⟨w.heap.size, 1, none⟩ (.int .i64 X.a)).setCell ⟨w.heap.size, 2, none⟩ (.int .i64 X.b)).setCell ⟨w.heap.size, 3, none⟩ (.slice X.A (cut6 X).l.length X.c)).heap.size = w1.heap.size := by simp [World.setCell]
  have HQ2 := keepd q2
  have HB2 := keepd hb2
  have HS := keepd hs
  clear q2 hb2 hs HQ HB1 H1 e0 e1 e2 e3 f0 f1 f2 f3 p0 p1 p2 p3
  generalize (((w1.setCell ⟨w.heap.size, 0, none⟩ (.int .i64 X.k)).setCell ⟨w.heap.size, 1, none⟩ (.int .i64 X.a)).setCell ⟨w.heap.size, 2, none⟩ (.int .i64 X.b)).setCell ⟨w.heap.size, 3, none⟩ (.slice X.A (cut6 X).l.length X.c) = W2 at *
  have g1 : RdI (W2.alloc (.cells #[.int .i64 X.k, .int .i64 X.a, .int .i64 X.b, .slice X.A (cut6 X).l.length X.c] 29)) (some ⟨w1.heap.size, 0, none⟩) [cut6 X] 1 := by
    rw [← HS.out]
    exact one_rdI W2 (cut6 X) ((HR.out.take 600).at_ HB2.out)
  have hlt : w.heap.size < W2.heap.size := HQ2.out.lt
  have HAw := keepd iawake_any
  obtain ⟨m6, hm6⟩ : ∃ m, (cut6 X).l.length = m := ⟨_, rfl⟩
  cases hm : (cut6 X).may
  · -- it may not be
    have x1 : putL [cut6 X] = [] := putL_no (by rw [allMay_one]; exact hm)
    have x2 : errL [cut6 X] = 1 := errL_no (by rw [allMay_one]; exact hm)
    with_reducible refine (put_at _ [cut6 X] [] 0 1 1 1 _ rfl (by omega) g1 x1 rfl x2).mono ?_
    rintro e w3 ⟨A3, c3, rfl, hr3, hb3⟩
    have HB3 := keepd (bCall HB2.out (upA hb3))
    clear hr3 hb3 g1 x1 x2 HQ2 HB2 hm
    go_wp2_with (go_at_call 20; with_reducible refine (HAw.out _).mono ?_; rintro e w4 ⟨rfl, hb4⟩)
    go_ret
    exact ⟨rfl, bCall HB3.out hb4⟩
  · have x1 : putL [cut6 X] = (cut6 X).lies := putL_one hm
    have x2 : errL [cut6 X] = 0 := errL_yes (by rw [allMay_one]; exact hm)
    have hle : (cut6 X).lies.length ≤ 1100 := liesN_len _ _ _ _ (mayN_len hm)
    rcases begins_shape _ hm with ⟨hk, u, hu⟩ | ⟨hk, v, rest, hu, hv⟩
    · have hk1 : X.k = 1 := hk
      have g2 : (X.k != 1) = false := by simpa using hk1
      have g3 : (X.k == 1) = true := by simpa using hk1
      rw [hu] at x1
      by_cases h255 : u = 255
      · subst h255
        have rd1 : readD [255, 255] = ([255], 2) := read_lay [255]
        change putL [cut6 X] = [255, 255] at x1
        with_reducible refine (put_at _ [cut6 X] [255, 255] 2 1 1 0 _ rfl (by omega) g1 x1 rfl x2).mono ?_
        rintro e w3 ⟨A3, c3, rfl, hr3, hb3⟩
        obtain ⟨b3, off3, rfl, d0, d1⟩ := hr3.two
        have c3l := hr3.1
        simp only [List.length_cons, List.length_nil] at c3l
        have HB3 := keepd (bCall HB2.out (upA hb3))
        have p0 := (HQ2.out.alloc (.cells #[.int .i64 X.k, .int .i64 X.a, .int .i64 X.b, .slice X.A (cut6 X).l.length X.c] 29)).call hb3 (by simp; omega)
        have HQ3 := keepd p0
        have H3 := keepd hr3
        have HRD := keepd rd1
        clear hr3 hb3 g1 x1 x2 HQ2 HB2 hm p0 hu rd1
        go_wp2_with fail
        with_reducible refine (read_at _ [255, 255] [255] 1 2 2 c3 _ rfl H3.out (by omega) (by rw [HRD.out]) rfl (by rw [HRD.out])).mono ?_
        rintro e w4 ⟨A4, c4, rfl, hr4, hb4⟩
        have q4 := HQ3.out.call hb4 HQ3.out.lt
        have p0 := q4.cell 0
        have HB4 := keepd (bCall HB3.out hb4)
        clear hr4 hb4 q4 H3 d0 d1
        go_wp2_with (go_at_call 20; with_reducible refine (HAw.out _).mono ?_; rintro e w5 ⟨rfl, hb5⟩)
        go_ret
        exact ⟨rfl, bCall HB4.out hb5⟩
      · by_cases h13 : u = 13
        · subst h13
          have rd1 : readD [13, 10] = ([13], 2) := read_lay [13]
          change putL [cut6 X] = [13, 10] at x1
          with_reducible refine (put_at _ [cut6 X] [13, 10] 2 1 1 0 _ rfl (by omega) g1 x1 rfl x2).mono ?_
          rintro e w3 ⟨A3, c3, rfl, hr3, hb3⟩
          obtain ⟨b3, off3, rfl, d0, d1⟩ := hr3.two
          have c3l := hr3.1
          simp only [List.length_cons, List.length_nil] at c3l
          have HB3 := keepd (bCall HB2.out (upA hb3))
          have p0 := (HQ2.out.alloc (.cells #[.int .i64 X.k, .int .i64 X.a, .int .i64 X.b, .slice X.A (cut6 X).l.length X.c] 29)).call hb3 (by simp; omega)
          have HQ3 := keepd p0
          have H3 := keepd hr3
          have HRD := keepd rd1
          clear hr3 hb3 g1 x1 x2 HQ2 HB2 hm p0 hu rd1
          go_wp2_with fail
          with_reducible refine (read_at _ [13, 10] [13] 1 2 2 c3 _ rfl H3.out (by omega) (by rw [HRD.out]) rfl (by rw [HRD.out])).mono ?_
          rintro e w4 ⟨A4, c4, rfl, hr4, hb4⟩
          have q4 := HQ3.out.call hb4 HQ3.out.lt
          have p0 := q4.cell 0
          have HB4 := keepd (bCall HB3.out hb4)
          clear hr4 hb4 q4 H3 d0 d1
          go_wp2_with (go_at_call 20; with_reducible refine (HAw.out _).mono ?_; rintro e w5 ⟨rfl, hb5⟩)
          go_ret
          exact ⟨rfl, bCall HB4.out hb5⟩
        · have hl1 : layL [u] = [u] := by show lay1 u ++ [] = [u]; rw [lay1_other h255 h13]; rfl
          rw [hl1] at x1
          have rd1 : readD [u] = ([u], 1) := by have := read_lay [u]; rw [hl1] at this; exact this
          with_reducible refine (put_at _ [cut6 X] [u] 1 1 1 0 _ rfl (by omega) g1 x1 rfl x2).mono ?_
          rintro e w3 ⟨A3, c3, rfl, hr3, hb3⟩
          have c3l := hr3.1
          simp only [List.length_cons, List.length_nil] at c3l
          have HB3 := keepd (bCall HB2.out (upA hb3))
          have p0 := (HQ2.out.alloc (.cells #[.int .i64 X.k, .int .i64 X.a, .int .i64 X.b, .slice X.A (cut6 X).l.length X.c] 29)).call hb3 (by simp; omega)
          have HQ3 := keepd p0
          have H3 := keepd hr3
          have HRD := keepd rd1
          clear hr3 hb3 g1 x1 x2 HQ2 HB2 hm p0 hu rd1
          go_wp2_with fail
          with_reducible refine (read_at _ [u] [u] 1 1 1 c3 _ rfl H3.out (by omega) (by rw [HRD.out]) rfl (by rw [HRD.out])).mono ?_
          rintro e w4 ⟨A4, c4, rfl, hr4, hb4⟩
          have q4 := HQ3.out.call hb4 HQ3.out.lt
          have p0 := q4.cell 0
          have HB4 := keepd (bCall HB3.out hb4)
          clear hr4 hb4 q4 H3
          go_wp2_with (go_at_call 20; with_reducible refine (HAw.out _).mono ?_; rintro e w5 ⟨rfl, hb5⟩)
          go_ret
          exact ⟨rfl, bCall HB4.out hb5⟩
    · have hk1 : X.k ≠ 1 := hk
      have g2 : (X.k != 1) = true := by simpa using hk1
      have g3 : (X.k == 1) = false := by simpa using hk1
      rw [hu] at x1 hle
      have rd1 : readD (255 :: v :: rest) = ([], 0) := readD_stop (.inr (by simp [wid, hv]))
      obtain ⟨m, hm2⟩ : ∃ m, (255 :: v :: rest).length = m := ⟨_, rfl⟩
      rw [hm2] at hle
      have m2 : 2 ≤ m := by rw [← hm2]; simp
      with_reducible refine (put_at _ [cut6 X] (255 :: v :: rest) m 1 1 0 _ rfl (by omega) g1 x1 hm2 x2).mono ?_
      rintro e w3 ⟨A3, c3, rfl, hr3, hb3⟩
      obtain ⟨b3, off3, rfl, d0, d1⟩ := hr3.two
      have y1 : ((v.toNat : Int) != 255) = true := by
        have := u8_beq v 255
        have e2 : ((255 : UInt8).toNat : Int) = 255 := rfl
        rw [e2] at this
        show (!((v.toNat : Int) == 255)) = true
        rw [this]
        simpa using hv
      have HB3 := keepd (bCall HB2.out (upA hb3))
      have p0 := (HQ2.out.alloc (.cells #[.int .i64 X.k, .int .i64 X.a, .int .i64 X.b, .slice X.A (cut6 X).l.length X.c] 29)).call hb3 (by simp; omega)
      have HQ3 := keepd p0
      have H3 := keepd hr3
      have HRD := keepd rd1
      have HM2 := keepd hm2
      have c3l := hr3.1
      rw [hm2] at c3l
      clear hr3 hb3 g1 x1 x2 HQ2 HB2 hm p0 hv hu rd1 hm2
      go_wp2_with fail
      with_reducible refine (read_at _ (255 :: v :: rest) [] 0 0 m c3 _ HM2.out.symm H3.out (by omega) (by rw [HRD.out]) rfl (by rw [HRD.out])).mono ?_
      rintro e w4 ⟨A4, c4, rfl, hr4, hb4⟩
      have q4 := HQ3.out.call hb4 HQ3.out.lt
      have p0 := q4.cell 0
      have HB4 := keepd (bCall HB3.out hb4)
      clear hr4 hb4 q4 H3 d0 d1
      go_wp2_with (go_at_call 20; with_reducible refine (HAw.out _).mono ?_; rintro e w5 ⟨rfl, hb5⟩)
      go_ret
      exact ⟨rfl, bCall HB4.out hb5⟩

end Go.Proofs.YtagfoidljficoaaDoor
