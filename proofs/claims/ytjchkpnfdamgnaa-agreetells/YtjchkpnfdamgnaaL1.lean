/-
  The laws AgreeStays and AgreeBoth. No conditions beyond those each theorem states.
-/
import Derived.Test.YtjchkpnfdamgnaaT5
import Derived.Test.YtjchkpnfdamgnaaT6
namespace Go.Proofs.Ytjchkpnfdamgnaa
open Go.RowKit
set_option maxRecDepth 100000

attribute [local go_sem ↓] ex_ld31 ex_st31 ex_al31 ex_bu31 ex_ix31 ex_eq31 ex_ne31 ex_eq29 ex_ne29 ex_ld25 ex_st25 ex_al25 ex_bu25 ex_ix25 ex_ld27 ex_st27 ex_eq27 ex_ne27
attribute [local go_sem] ptrB_at okPtr_at aggC_at agg62 isC_at isT_at eqV_t eqV_c isRow_new isRow_newp World.setRow_alloc_new agg6 isRow_new6 isV_at eqV_v


theorem in31 {X : Tb} (hm : mayT X = true) {f : Int} (h : 0 < f ∧ f < 31) : mayC (X f.toNat) = true := (mayT_iff.1 hm).2 _ (by omega)
theorem lv3 {f lv : Int} (h : mayTr f lv = true) : 0 ≤ lv ∧ lv ≤ 3 := ⟨(mayTr_iff.1 h).2.2.1, (mayTr_iff.1 h).2.2.2⟩
theorem mayTr_low {f lv lv' : Int} (h : mayTr f lv = true) (h0 : 0 ≤ lv') (h1 : lv' ≤ 3) : mayTr f lv' = true := mayTr_iff.2 ⟨(mayTr_iff.1 h).1, (mayTr_iff.1 h).2.1, h0, h1⟩
theorem settle_in {X : Tb} {x : Tr} (hm : mayT X = true) (ht : mayTr x.f x.lv = true) (hf : 0 < x.f ∧ x.f < 31) : settleF X x = (setF (X x.f.toNat) ⟨x.lv, x.v⟩, 0) := by
  unfold settleF
  rw [if_pos hm, if_pos ht, if_pos hf]
theorem settle_out {X : Tb} {x : Tr} (hm : mayT X = true) (ht : mayTr x.f x.lv = true) (hf : ¬ (0 < x.f ∧ x.f < 31)) : settleF X x = (⟨0, 0⟩, 0) := by
  unfold settleF
  rw [if_pos hm, if_pos ht, if_neg hf]
/-- What is settled is no higher than what was proposed, and may be told. -/
theorem settle_lv {X : Tb} {x : Tr} {c : Cl} (h : settleF X x = (c, 0)) : 0 ≤ c.lv ∧ c.lv ≤ 2 ∧ c.lv ≤ x.lv ∧ (c.lv = 0 → c.v = 0) := by
  obtain ⟨hm, ht, ⟨f0, f1, rfl⟩ | ⟨_, rfl⟩⟩ := settle_ok h
  · obtain ⟨_, h1, _, h3, h4, h5⟩ := set_facts (p := ⟨x.lv, x.v⟩) (in31 hm ⟨f0, f1⟩) (lv3 ht)
    exact ⟨h3, h4, h1, h5⟩
  · have := lv3 ht
    refine ⟨by simp, by simp, ?_, fun _ => rfl⟩
    show (0 : Int) ≤ x.lv
    omega
/-- Proposed again it is settled as it is, whatever the marks. -/
theorem settle_next {X : Tb} {x : Tr} {c : Cl} (h : settleF X x = (c, 0)) (a i o : Bool) : settleF X ⟨x.f, c.lv, a, i, o, c.v⟩ = (c, 0) := by
  obtain ⟨l0, l1, _, _⟩ := settle_lv h
  obtain ⟨hm, ht, ⟨f0, f1, hc⟩ | ⟨hf, rfl⟩⟩ := settle_ok h
  · rw [settle_in (x := ⟨x.f, c.lv, a, i, o, c.v⟩) hm (mayTr_low ht l0 (Int.le_trans l1 (by decide))) ⟨f0, f1⟩]
    have := set_again (p := ⟨x.lv, x.v⟩) (in31 hm ⟨f0, f1⟩) (lv3 ht)
    rw [← hc] at this
    rw [show (⟨c.lv, c.v⟩ : Cl) = c from rfl, this]
  · exact settle_out (x := ⟨x.f, 0, a, i, o, 0⟩) hm (mayTr_low ht (Int.le_refl 0) (show (0 : Int) ≤ 3 by decide)) hf
theorem answer_of {X : Tb} {x : Tr} {c : Cl} (h : settleF X x = (c, 0)) : answerF X x = (⟨x.f, c.lv, true, x.i, x.o, c.v⟩, 0) := by
  unfold answerF
  rw [h]
  simp

/-- Two ends come to one cell. -/
theorem both_facts {X Y : Tb} {x : Tr} {c d : Cl} (h : settleF X x = (c, 0)) (h' : settleF Y ⟨x.f, c.lv, false, false, false, c.v⟩ = (d, 0)) :
    settleF X ⟨x.f, d.lv, false, false, false, d.v⟩ = (d, 0) ∧ settleF Y ⟨x.f, d.lv, false, false, false, d.v⟩ = (d, 0) ∧ d.lv ≤ c.lv := by
  have h2 := settle_next h' false false false
  obtain ⟨l0, l1, l2, _⟩ := settle_lv h'
  refine ⟨?_, h2, l2⟩
  obtain ⟨hm, ht, ⟨f0, f1, hc⟩ | ⟨hf, hc⟩⟩ := settle_ok h
  · obtain ⟨hm', ht', ⟨_, _, hd⟩ | ⟨hf', _⟩⟩ := settle_ok h'
    · rw [settle_in (x := ⟨x.f, d.lv, false, false, false, d.v⟩) hm (mayTr_low ht l0 (Int.le_trans l1 (by decide))) ⟨f0, f1⟩]
      have := set_both (p := ⟨x.lv, x.v⟩) (in31 hm ⟨f0, f1⟩) (in31 hm' ⟨f0, f1⟩) (lv3 ht)
      rw [← hc] at this
      simp only [] at hd
      rw [show (⟨c.lv, c.v⟩ : Cl) = c from rfl] at hd
      rw [← hd] at this
      rw [show (⟨d.lv, d.v⟩ : Cl) = d from rfl, this]
    · exact absurd ⟨f0, f1⟩ hf'
  · obtain ⟨hm', ht', ⟨f0, f1, _⟩ | ⟨_, hd⟩⟩ := settle_ok h'
    · exact absurd ⟨f0, f1⟩ hf
    · subst hd
      exact settle_out (x := ⟨x.f, 0, false, false, false, 0⟩) hm (mayTr_low ht (Int.le_refl 0) (show (0 : Int) ≤ 3 by decide)) hf

set_option maxHeartbeats 4000000 in
theorem stays_law (X : Tb) (x : Tr) (w : World) : Calls Try.prog 5 #[tv X, vt x] w fun e w' => e = .returned (.bool true) ∧ Below w.heap.size w w' := by
  have HA := keepd awake_any
  obtain ⟨c, e0, hce⟩ : ∃ c e, settleF X x = (c, e) := ⟨_, _, rfl⟩
  have HC := keepd (settle_any X x c e0 hce)
  have HE := settle_err X x
  rw [hce] at HE
  simp only [] at HE
  have HS := keepd hce
  clear hce
  go_enter Try.func5, Try.ntmps5
  go_upto_region 1 with fail
  obtain ⟨W, hW⟩ : ∃ W, ((w.alloc (.cells (cs X).toArray 25)).alloc (.cells #[.int .i64 x.f, .int .i64 x.lv, .bool x.a, .bool x.i, .bool x.o, .int .u8 x.v] 27)) = W := ⟨_, rfl⟩
  obtain ⟨gP, gX, gB⟩ : SR 25 W (w.heap.size) (cs X) ∧ SR 27 W (w.heap.size + 1) (Tr.cells x) ∧ Below w.heap.size w W := by
    subst hW
    exact ⟨(SR.alloc (SR.new 25 w (cs X)) _), (show SR 27 _ _ (Tr.cells x) from heap_alloc2_new w _ _), (bAlloc (bAlloc (Below.refl _ _) _) _)⟩
  rw [hW]
  clear hW
  obtain ⟨bX, hp⟩ : ∃ b, w.heap.size + 1 = b := ⟨_, rfl⟩
  rw [hp] at gX ⊢
  clear hp
  obtain ⟨bP, hp⟩ : ∃ b, w.heap.size = b := ⟨_, rfl⟩
  rw [hp] at gP ⊢
  clear hp
  have HP0 := keepd gP
  have HX0 := keepd gX
  have HB0 := keepd gB
  clear gP gX gB
  obtain ⟨rP, kP⟩ := PB.facts HP0.out
  obtain ⟨rX, kX⟩ := SR.trF HX0.out
  go_wp2_with fail
  with_reducible refine (HC.out _).mono ?_
  rintro e v1 ⟨rfl, hb⟩
  have HP1 := keepd (SR.alloc (SR.call HP0.out hb (SR.lt HP0.out)) (.cells #[.int .i64 c.lv, .int .u8 c.v] 29))
  have HX1 := keepd (SR.alloc (SR.call HX0.out hb (SR.lt HX0.out)) (.cells #[.int .i64 c.lv, .int .u8 c.v] 29))
  have HB1 := keepd (bAlloc (bCall HB0.out hb) (.cells #[.int .i64 c.lv, .int .u8 c.v] 29))
  have HC1 : Hid (SR 29 (v1.alloc (.cells #[.int .i64 c.lv, .int .u8 c.v] 29)) v1.heap.size (cl c)) := SR.new 29 v1 (cl c)
  clear hb rP kP rX kX HP0 HX0 HB0 HC
  go_upto_region 2 with fail
  obtain ⟨w1, hw⟩ : ∃ W, v1.alloc (.cells #[.int .i64 c.lv, .int .u8 c.v] 29) = W := ⟨_, rfl⟩
  rw [hw] at HP1 HX1 HC1 HB1 ⊢
  clear hw
  obtain ⟨bC, hp⟩ : ∃ p, v1.heap.size = p := ⟨_, rfl⟩
  rw [hp] at HC1 ⊢
  clear hp
  rcases HE with rfl | ⟨rfl, hc0⟩
  case inr =>
    clear hc0 HS
    go_wp2_with fail
    with_reducible refine (HA.out _).mono ?_
    rintro e w9 ⟨rfl, hb9⟩
    have HB9 := keepd (bCall HB1.out hb9)
    clear hb9
    go_wp2
    go_returns
    exact ⟨rfl, HB9.out⟩
  have HS2 := keepd (settle_next HS.out false false false)
  have HD := keepd (settle_any X _ _ _ HS2.out)
  have HE1 := keepd (answer_any X x _ _ (answer_of HS.out))
  have HE2 := keepd (answer_any X ⟨x.f, c.lv, true, x.i, x.o, c.v⟩ _ _ (answer_of (x := ⟨x.f, c.lv, true, x.i, x.o, c.v⟩) (settle_next HS.out true x.i x.o)))
  clear HS HS2
  obtain ⟨rP, kP⟩ := PB.facts HP1.out
  obtain ⟨rC, kC, _, _⟩ := SR.clF HC1.out
  obtain ⟨cX0, cX1, cX2, cX3, cX4, cX5⟩ := SR.tr HX1.out
  go_wp2_with fail
  with_reducible refine (HD.out _).mono ?_
  rintro e v2 ⟨rfl, hb⟩
  have HP2 := keepd (SR.alloc (SR.call HP1.out hb (SR.lt HP1.out)) (.cells #[.int .i64 c.lv, .int .u8 c.v] 29))
  have HX2 := keepd (SR.alloc (SR.call HX1.out hb (SR.lt HX1.out)) (.cells #[.int .i64 c.lv, .int .u8 c.v] 29))
  have HC2 := keepd (SR.alloc (SR.call HC1.out hb (SR.lt HC1.out)) (.cells #[.int .i64 c.lv, .int .u8 c.v] 29))
  have HB2 := keepd (bAlloc (bCall HB1.out hb) (.cells #[.int .i64 c.lv, .int .u8 c.v] 29))
  have HD2 : Hid (SR 29 (v2.alloc (.cells #[.int .i64 c.lv, .int .u8 c.v] 29)) v2.heap.size (cl c)) := SR.new 29 v2 (cl c)
  clear hb rP kP rC kC cX0 cX1 cX2 cX3 cX4 cX5 HP1 HX1 HC1 HB1 HD
  go_upto_region 5 with fail
  obtain ⟨w2, hw⟩ : ∃ W, v2.alloc (.cells #[.int .i64 c.lv, .int .u8 c.v] 29) = W := ⟨_, rfl⟩
  rw [hw] at HP2 HX2 HC2 HD2 HB2 ⊢
  clear hw
  obtain ⟨bD, hp⟩ : ∃ p, v2.heap.size = p := ⟨_, rfl⟩
  rw [hp] at HD2 ⊢
  clear hp
  obtain ⟨y, hy⟩ : ∃ y : Tr, y = ⟨x.f, c.lv, true, x.i, x.o, c.v⟩ := ⟨_, rfl⟩
  have HE1 : Hid (∀ w, Calls Try.prog 10 #[tv X, vt x] w fun e w' => e = .returned (.tuple #[vt y, .int .i64 0]) ∧ Below w.heap.size w w') := by subst hy; exact HE1
  have HE2 : Hid (∀ w, Calls Try.prog 10 #[tv X, vt y] w fun e w' => e = .returned (.tuple #[vt y, .int .i64 0]) ∧ Below w.heap.size w w') := by subst hy; exact HE2
  have HYe := keepd hy
  clear hy
  obtain ⟨rP, kP⟩ := PB.facts HP2.out
  obtain ⟨rX, kX⟩ := SR.trF HX2.out
  go_wp2_with fail
  with_reducible refine (HE1.out _).mono ?_
  rintro e v3 ⟨rfl, hb⟩
  have HP3 := keepd (SR.alloc (SR.call HP2.out hb (SR.lt HP2.out)) (.cells #[.int .i64 y.f, .int .i64 y.lv, .bool y.a, .bool y.i, .bool y.o, .int .u8 y.v] 27))
  have HX3 := keepd (SR.alloc (SR.call HX2.out hb (SR.lt HX2.out)) (.cells #[.int .i64 y.f, .int .i64 y.lv, .bool y.a, .bool y.i, .bool y.o, .int .u8 y.v] 27))
  have HC3 := keepd (SR.alloc (SR.call HC2.out hb (SR.lt HC2.out)) (.cells #[.int .i64 y.f, .int .i64 y.lv, .bool y.a, .bool y.i, .bool y.o, .int .u8 y.v] 27))
  have HD3 := keepd (SR.alloc (SR.call HD2.out hb (SR.lt HD2.out)) (.cells #[.int .i64 y.f, .int .i64 y.lv, .bool y.a, .bool y.i, .bool y.o, .int .u8 y.v] 27))
  have HB3 := keepd (bAlloc (bCall HB2.out hb) (.cells #[.int .i64 y.f, .int .i64 y.lv, .bool y.a, .bool y.i, .bool y.o, .int .u8 y.v] 27))
  have HY3 : Hid (SR 27 (v3.alloc (.cells #[.int .i64 y.f, .int .i64 y.lv, .bool y.a, .bool y.i, .bool y.o, .int .u8 y.v] 27)) v3.heap.size (Tr.cells y)) := SR.new 27 v3 (Tr.cells y)
  clear hb rP kP rX kX HP2 HX2 HC2 HD2 HB2 
  go_upto_region 6 with fail
  obtain ⟨w3, hw⟩ : ∃ W, v3.alloc (.cells #[.int .i64 y.f, .int .i64 y.lv, .bool y.a, .bool y.i, .bool y.o, .int .u8 y.v] 27) = W := ⟨_, rfl⟩
  rw [hw] at HP3 HX3 HC3 HD3 HY3 HB3 ⊢
  clear hw
  obtain ⟨bY, hp⟩ : ∃ p, v3.heap.size = p := ⟨_, rfl⟩
  rw [hp] at HY3 ⊢
  clear hp
  obtain ⟨rP, kP⟩ := PB.facts HP3.out
  obtain ⟨rY, kY⟩ := SR.trF HY3.out
  go_wp2_with fail
  with_reducible refine (HE2.out _).mono ?_
  rintro e v4 ⟨rfl, hb⟩
  have HP4 := keepd (SR.alloc (SR.call HP3.out hb (SR.lt HP3.out)) (.cells #[.int .i64 y.f, .int .i64 y.lv, .bool y.a, .bool y.i, .bool y.o, .int .u8 y.v] 27))
  have HX4 := keepd (SR.alloc (SR.call HX3.out hb (SR.lt HX3.out)) (.cells #[.int .i64 y.f, .int .i64 y.lv, .bool y.a, .bool y.i, .bool y.o, .int .u8 y.v] 27))
  have HC4 := keepd (SR.alloc (SR.call HC3.out hb (SR.lt HC3.out)) (.cells #[.int .i64 y.f, .int .i64 y.lv, .bool y.a, .bool y.i, .bool y.o, .int .u8 y.v] 27))
  have HD4 := keepd (SR.alloc (SR.call HD3.out hb (SR.lt HD3.out)) (.cells #[.int .i64 y.f, .int .i64 y.lv, .bool y.a, .bool y.i, .bool y.o, .int .u8 y.v] 27))
  have HY4 := keepd (SR.alloc (SR.call HY3.out hb (SR.lt HY3.out)) (.cells #[.int .i64 y.f, .int .i64 y.lv, .bool y.a, .bool y.i, .bool y.o, .int .u8 y.v] 27))
  have HB4 := keepd (bAlloc (bCall HB3.out hb) (.cells #[.int .i64 y.f, .int .i64 y.lv, .bool y.a, .bool y.i, .bool y.o, .int .u8 y.v] 27))
  have HZ4 : Hid (SR 27 (v4.alloc (.cells #[.int .i64 y.f, .int .i64 y.lv, .bool y.a, .bool y.i, .bool y.o, .int .u8 y.v] 27)) v4.heap.size (Tr.cells y)) := SR.new 27 v4 (Tr.cells y)
  clear hb rP kP rY kY HP3 HX3 HC3 HD3 HY3 HB3 
  go_upto_region 7 with fail
  obtain ⟨w4, hw⟩ : ∃ W, v4.alloc (.cells #[.int .i64 y.f, .int .i64 y.lv, .bool y.a, .bool y.i, .bool y.o, .int .u8 y.v] 27) = W := ⟨_, rfl⟩
  rw [hw] at HP4 HX4 HC4 HD4 HY4 HZ4 HB4 ⊢
  clear hw
  obtain ⟨bZ, hp⟩ : ∃ p, v4.heap.size = p := ⟨_, rfl⟩
  rw [hp] at HZ4 ⊢
  clear hp
  obtain ⟨rY, kY⟩ := SR.trF HY4.out
  obtain ⟨rZ, kZ⟩ := SR.trF HZ4.out
  obtain ⟨rC, kC, _, _⟩ := SR.clF HC4.out
  obtain ⟨rD, kD, _, _⟩ := SR.clF HD4.out
  obtain ⟨cX0, cX1, cX2, cX3, cX4, cX5⟩ := SR.tr HX4.out
  obtain ⟨cY0, cY1, cY2, cY3, cY4, cY5⟩ := SR.tr HY4.out
  have hs := sameTr_self ⟨x.f, c.lv, true, x.i, x.o, c.v⟩
  have y0 : y.a = true := by rw [HYe.out]
  have y1 : y.f = x.f := by rw [HYe.out]
  have y2 : y.i = x.i := by rw [HYe.out]
  have y3 : y.o = x.o := by rw [HYe.out]
  have y4 : y.lv = c.lv := by rw [HYe.out]
  have y5 : y.v = c.v := by rw [HYe.out]
  go_wp2_with fail
  with_reducible refine (HA.out _).mono ?_
  rintro e w9 ⟨rfl, hb9⟩
  have HB9 := keepd (bCall HB4.out hb9)
  clear hb9
  go_wp2
  go_returns
  exact ⟨rfl, HB9.out⟩

set_option maxHeartbeats 4000000 in
theorem both_law (X Y : Tb) (x : Tr) (w : World) : Calls Try.prog 6 #[tv X, tv Y, vt x] w fun e w' => e = .returned (.bool true) ∧ Below w.heap.size w w' := by
  have HA := keepd awake_any
  obtain ⟨c, e0, hce⟩ : ∃ c e, settleF X x = (c, e) := ⟨_, _, rfl⟩
  obtain ⟨d, e1, hde⟩ : ∃ d e, settleF Y ⟨x.f, c.lv, false, false, false, c.v⟩ = (d, e) := ⟨_, _, rfl⟩
  have HC := keepd (settle_any X x c e0 hce)
  have HD := keepd (settle_any Y _ d e1 hde)
  have HE := settle_err X x
  have HF := settle_err Y ⟨x.f, c.lv, false, false, false, c.v⟩
  rw [hce] at HE
  rw [hde] at HF
  simp only [] at HE HF
  have HS := keepd hce
  have HT := keepd hde
  clear hce hde
  go_enter Try.func6, Try.ntmps6
  go_upto_region 1 with fail
  obtain ⟨W, hW⟩ : ∃ W, (((w.alloc (.cells (cs X).toArray 25)).alloc (.cells (cs Y).toArray 25)).alloc (.cells #[.int .i64 x.f, .int .i64 x.lv, .bool x.a, .bool x.i, .bool x.o, .int .u8 x.v] 27)) = W := ⟨_, rfl⟩
  obtain ⟨gP, gQ, gX, gB⟩ : SR 25 W (w.heap.size) (cs X) ∧ SR 25 W (w.heap.size + 1) (cs Y) ∧ SR 27 W (w.heap.size + 1 + 1) (Tr.cells x) ∧ Below w.heap.size w W := by
    subst hW
    exact ⟨(SR.alloc (SR.alloc (SR.new 25 w (cs X)) _) _), (SR.alloc (show SR 25 _ _ (cs Y) from heap_alloc2_new w _ _) _), (show SR 27 _ _ (Tr.cells x) from n4 w _ _ _), (bAlloc (bAlloc (bAlloc (Below.refl _ _) _) _) _)⟩
  rw [hW]
  clear hW
  obtain ⟨bX, hp⟩ : ∃ b, w.heap.size + 1 + 1 = b := ⟨_, rfl⟩
  rw [hp] at gX ⊢
  clear hp
  obtain ⟨bQ, hp⟩ : ∃ b, w.heap.size + 1 = b := ⟨_, rfl⟩
  rw [hp] at gQ ⊢
  clear hp
  obtain ⟨bP, hp⟩ : ∃ b, w.heap.size = b := ⟨_, rfl⟩
  rw [hp] at gP ⊢
  clear hp
  have HP0 := keepd gP
  have HQ0 := keepd gQ
  have HX0 := keepd gX
  have HB0 := keepd gB
  clear gP gQ gX gB
  obtain ⟨rP, kP⟩ := PB.facts HP0.out
  obtain ⟨rX, kX⟩ := SR.trF HX0.out
  go_wp2_with fail
  with_reducible refine (HC.out _).mono ?_
  rintro e v1 ⟨rfl, hb⟩
  have HP1 := keepd (SR.alloc (SR.call HP0.out hb (SR.lt HP0.out)) (.cells #[.int .i64 c.lv, .int .u8 c.v] 29))
  have HQ1 := keepd (SR.alloc (SR.call HQ0.out hb (SR.lt HQ0.out)) (.cells #[.int .i64 c.lv, .int .u8 c.v] 29))
  have HX1 := keepd (SR.alloc (SR.call HX0.out hb (SR.lt HX0.out)) (.cells #[.int .i64 c.lv, .int .u8 c.v] 29))
  have HB1 := keepd (bAlloc (bCall HB0.out hb) (.cells #[.int .i64 c.lv, .int .u8 c.v] 29))
  have HC1 : Hid (SR 29 (v1.alloc (.cells #[.int .i64 c.lv, .int .u8 c.v] 29)) v1.heap.size (cl c)) := SR.new 29 v1 (cl c)
  clear hb rP kP rX kX HP0 HQ0 HX0 HB0 HC
  go_upto_region 2 with fail
  obtain ⟨w1, hw⟩ : ∃ W, v1.alloc (.cells #[.int .i64 c.lv, .int .u8 c.v] 29) = W := ⟨_, rfl⟩
  rw [hw] at HP1 HQ1 HX1 HC1 HB1 ⊢
  clear hw
  obtain ⟨bC, hp⟩ : ∃ p, v1.heap.size = p := ⟨_, rfl⟩
  rw [hp] at HC1 ⊢
  clear hp
  obtain ⟨rQ, kQ⟩ := PB.facts HQ1.out
  obtain ⟨rC, kC, _, _⟩ := SR.clF HC1.out
  obtain ⟨cX0, cX1, cX2, cX3, cX4, cX5⟩ := SR.tr HX1.out
  go_wp2_with fail
  with_reducible refine (HD.out _).mono ?_
  rintro e v2 ⟨rfl, hb⟩
  have HP2 := keepd (SR.alloc (SR.call HP1.out hb (SR.lt HP1.out)) (.cells #[.int .i64 d.lv, .int .u8 d.v] 29))
  have HQ2 := keepd (SR.alloc (SR.call HQ1.out hb (SR.lt HQ1.out)) (.cells #[.int .i64 d.lv, .int .u8 d.v] 29))
  have HX2 := keepd (SR.alloc (SR.call HX1.out hb (SR.lt HX1.out)) (.cells #[.int .i64 d.lv, .int .u8 d.v] 29))
  have HC2 := keepd (SR.alloc (SR.call HC1.out hb (SR.lt HC1.out)) (.cells #[.int .i64 d.lv, .int .u8 d.v] 29))
  have HB2 := keepd (bAlloc (bCall HB1.out hb) (.cells #[.int .i64 d.lv, .int .u8 d.v] 29))
  have HD2 : Hid (SR 29 (v2.alloc (.cells #[.int .i64 d.lv, .int .u8 d.v] 29)) v2.heap.size (cl d)) := SR.new 29 v2 (cl d)
  clear hb rQ kQ rC kC cX0 cX1 cX2 cX3 cX4 cX5 HP1 HQ1 HX1 HC1 HB1 HD
  go_upto_region 3 with fail
  obtain ⟨w2, hw⟩ : ∃ W, v2.alloc (.cells #[.int .i64 d.lv, .int .u8 d.v] 29) = W := ⟨_, rfl⟩
  rw [hw] at HP2 HQ2 HX2 HC2 HD2 HB2 ⊢
  clear hw
  obtain ⟨bD, hp⟩ : ∃ p, v2.heap.size = p := ⟨_, rfl⟩
  rw [hp] at HD2 ⊢
  clear hp
  rcases HE with rfl | ⟨rfl, hc0⟩
  case inr =>
    clear hc0 HS HT HF
    go_wp2_with fail
    with_reducible refine (HA.out _).mono ?_
    rintro e w9 ⟨rfl, hb9⟩
    have HB9 := keepd (bCall HB2.out hb9)
    clear hb9
    go_wp2
    go_returns
    exact ⟨rfl, HB9.out⟩
  rcases HF with rfl | ⟨rfl, hc0⟩
  case inr =>
    clear hc0 HS HT
    go_wp2_with fail
    with_reducible refine (HA.out _).mono ?_
    rintro e w9 ⟨rfl, hb9⟩
    have HB9 := keepd (bCall HB2.out hb9)
    clear hb9
    go_wp2
    go_returns
    exact ⟨rfl, HB9.out⟩
  obtain ⟨f1, f2, f3⟩ := both_facts HS.out HT.out
  have HE1 := keepd (settle_any X _ _ _ f1)
  have HE2 := keepd (settle_any Y _ _ _ f2)
  have HL := keepd f3
  clear HS HT f1 f2 f3
  obtain ⟨rP, kP⟩ := PB.facts HP2.out
  obtain ⟨rD, kD, _, _⟩ := SR.clF HD2.out
  obtain ⟨cX0, cX1, cX2, cX3, cX4, cX5⟩ := SR.tr HX2.out
  go_wp2_with fail
  with_reducible refine (HE1.out _).mono ?_
  rintro e v3 ⟨rfl, hb⟩
  have HP3 := keepd (SR.alloc (SR.call HP2.out hb (SR.lt HP2.out)) (.cells #[.int .i64 d.lv, .int .u8 d.v] 29))
  have HQ3 := keepd (SR.alloc (SR.call HQ2.out hb (SR.lt HQ2.out)) (.cells #[.int .i64 d.lv, .int .u8 d.v] 29))
  have HX3 := keepd (SR.alloc (SR.call HX2.out hb (SR.lt HX2.out)) (.cells #[.int .i64 d.lv, .int .u8 d.v] 29))
  have HC3 := keepd (SR.alloc (SR.call HC2.out hb (SR.lt HC2.out)) (.cells #[.int .i64 d.lv, .int .u8 d.v] 29))
  have HD3 := keepd (SR.alloc (SR.call HD2.out hb (SR.lt HD2.out)) (.cells #[.int .i64 d.lv, .int .u8 d.v] 29))
  have HB3 := keepd (bAlloc (bCall HB2.out hb) (.cells #[.int .i64 d.lv, .int .u8 d.v] 29))
  have HE3 : Hid (SR 29 (v3.alloc (.cells #[.int .i64 d.lv, .int .u8 d.v] 29)) v3.heap.size (cl d)) := SR.new 29 v3 (cl d)
  clear hb rP kP rD kD cX0 cX1 cX2 cX3 cX4 cX5 HP2 HQ2 HX2 HC2 HD2 HB2 HE1
  go_upto_region 6 with fail
  obtain ⟨w3, hw⟩ : ∃ W, v3.alloc (.cells #[.int .i64 d.lv, .int .u8 d.v] 29) = W := ⟨_, rfl⟩
  rw [hw] at HP3 HQ3 HX3 HC3 HD3 HE3 HB3 ⊢
  clear hw
  obtain ⟨bE, hp⟩ : ∃ p, v3.heap.size = p := ⟨_, rfl⟩
  rw [hp] at HE3 ⊢
  clear hp
  obtain ⟨rQ, kQ⟩ := PB.facts HQ3.out
  obtain ⟨rD, kD, _, _⟩ := SR.clF HD3.out
  obtain ⟨cX0, cX1, cX2, cX3, cX4, cX5⟩ := SR.tr HX3.out
  go_wp2_with fail
  with_reducible refine (HE2.out _).mono ?_
  rintro e v4 ⟨rfl, hb⟩
  have HP4 := keepd (SR.alloc (SR.call HP3.out hb (SR.lt HP3.out)) (.cells #[.int .i64 d.lv, .int .u8 d.v] 29))
  have HQ4 := keepd (SR.alloc (SR.call HQ3.out hb (SR.lt HQ3.out)) (.cells #[.int .i64 d.lv, .int .u8 d.v] 29))
  have HX4 := keepd (SR.alloc (SR.call HX3.out hb (SR.lt HX3.out)) (.cells #[.int .i64 d.lv, .int .u8 d.v] 29))
  have HC4 := keepd (SR.alloc (SR.call HC3.out hb (SR.lt HC3.out)) (.cells #[.int .i64 d.lv, .int .u8 d.v] 29))
  have HD4 := keepd (SR.alloc (SR.call HD3.out hb (SR.lt HD3.out)) (.cells #[.int .i64 d.lv, .int .u8 d.v] 29))
  have HE4 := keepd (SR.alloc (SR.call HE3.out hb (SR.lt HE3.out)) (.cells #[.int .i64 d.lv, .int .u8 d.v] 29))
  have HB4 := keepd (bAlloc (bCall HB3.out hb) (.cells #[.int .i64 d.lv, .int .u8 d.v] 29))
  have HF4 : Hid (SR 29 (v4.alloc (.cells #[.int .i64 d.lv, .int .u8 d.v] 29)) v4.heap.size (cl d)) := SR.new 29 v4 (cl d)
  clear hb rQ kQ rD kD cX0 cX1 cX2 cX3 cX4 cX5 HP3 HQ3 HX3 HC3 HD3 HE3 HB3 HE2
  go_upto_region 7 with fail
  obtain ⟨w4, hw⟩ : ∃ W, v4.alloc (.cells #[.int .i64 d.lv, .int .u8 d.v] 29) = W := ⟨_, rfl⟩
  rw [hw] at HP4 HQ4 HX4 HC4 HD4 HE4 HF4 HB4 ⊢
  clear hw
  obtain ⟨bF, hp⟩ : ∃ p, v4.heap.size = p := ⟨_, rfl⟩
  rw [hp] at HF4 ⊢
  clear hp
  obtain ⟨rC, kC, _, _⟩ := SR.clF HC4.out
  obtain ⟨rD, kD, _, _⟩ := SR.clF HD4.out
  obtain ⟨rE, kE, _, _⟩ := SR.clF HE4.out
  obtain ⟨rF, kF, _, _⟩ := SR.clF HF4.out
  have g1 : decide (d.lv ≤ c.lv) = true := decide_eq_true HL.out
  go_wp2_with fail
  with_reducible refine (HA.out _).mono ?_
  rintro e w9 ⟨rfl, hb9⟩
  have HB9 := keepd (bCall HB4.out hb9)
  clear hb9
  go_wp2
  go_returns
  exact ⟨rfl, HB9.out⟩

end Go.Proofs.Ytjchkpnfdamgnaa
