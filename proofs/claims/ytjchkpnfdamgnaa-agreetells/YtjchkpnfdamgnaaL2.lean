/-
  The law AgreeNone. No conditions beyond those each theorem states.
-/
import Derived.Test.YtjchkpnfdamgnaaL1
namespace Go.Proofs.Ytjchkpnfdamgnaa
open Go.RowKit
set_option maxRecDepth 100000

attribute [local go_sem ↓] ex_ld31 ex_st31 ex_al31 ex_bu31 ex_ix31 ex_eq31 ex_ne31 ex_eq29 ex_ne29 ex_ld25 ex_st25 ex_al25 ex_bu25 ex_ix25 ex_ld27 ex_st27 ex_eq27 ex_ne27
attribute [local go_sem] ptrB_at okPtr_at aggC_at agg62 isC_at isT_at eqV_t eqV_c isRow_new isRow_newp World.setRow_alloc_new agg6 isRow_new6 isV_at eqV_v


/-- What is settled, way by way: what the own one is, what was proposed, what comes. -/
theorem set_ways {q p c : Cl} (hq : mayC q = true) (hp : 0 ≤ p.lv ∧ p.lv ≤ 3) (hc : c = setF q p) :
    (q.lv = 0 ∧ q.v = 0 ∧ c.lv = 0 ∧ c.v = 0 ∧ (p.lv = 0 ∨ p.lv = 1 ∨ p.lv = 2 ∨ p.lv = 3)) ∨ ((q.lv = 1 ∨ q.lv = 2) ∧ p.lv = 0 ∧ c.lv = 0 ∧ c.v = 0) ∨
    (q.lv = 1 ∧ p.lv = 1 ∧ ((c.lv = 0 ∧ c.v = 0) ∨ (c.lv = 1 ∧ c.v = q.v))) ∨ (q.lv = 1 ∧ p.lv = 2 ∧ c.lv = 1 ∧ c.v = q.v) ∨ ((q.lv = 1 ∨ q.lv = 2) ∧ p.lv = 3 ∧ c.lv = q.lv ∧ c.v = q.v) ∨
    (q.lv = 2 ∧ (p.lv = 1 ∨ p.lv = 2) ∧ c.lv = p.lv ∧ c.v = p.v) := by
  obtain ⟨a, b⟩ := q
  obtain ⟨d, e⟩ := p
  subst hc
  rw [mayC_iff] at hq
  have h3 : a = 0 ∧ b = 0 ∨ a = 1 ∨ a = 2 := hq
  have h4 : d = 0 ∨ d = 1 ∨ d = 2 ∨ d = 3 := by simp only [] at hp; omega
  rcases h3 with ⟨rfl, hb⟩ | rfl | rfl <;> rcases h4 with rfl | rfl | rfl | rfl <;> by_cases hbe : e = b <;> simp_all [setF]

set_option maxHeartbeats 4000000 in
theorem none_law (X : Tb) (x : Tr) (w : World) : Calls Try.prog 8 #[tv X, vt x] w fun e w' => e = .returned (.bool true) ∧ Below w.heap.size w w' := by
  have HA := keepd awake_any
  obtain ⟨c, e0, hce⟩ : ∃ c e, settleF X x = (c, e) := ⟨_, _, rfl⟩
  have HC := keepd (settle_any X x c e0 hce)
  have HE := settle_err X x
  rw [hce] at HE
  simp only [] at HE
  have HS := keepd hce
  clear hce
  go_enter Try.func8, Try.ntmps8
  go_upto_region 1 with fail
  obtain ⟨W, hW⟩ : ∃ W, ((w.alloc (.cells (cs X).toArray 25)).alloc (.cells #[.int .i64 x.f, .int .i64 x.lv, .bool x.a, .bool x.i, .bool x.o, .int .u8 x.v] 27)) = W := ⟨_, rfl⟩
  obtain ⟨gP, gX, gB⟩ : SR 25 W (w.heap.size) (cs X) ∧ SR 27 W (w.heap.size + 1) (Tr.cells x) ∧ Below w.heap.size w W := by
    subst hW
    exact ⟨(SR.alloc (SR.new 25 w (cs X)) _), (show SR 27 _ _ (Tr.cells x) from heap_alloc2_new w _ _), (bAlloc (bAlloc (Below.refl _ _) _) _)⟩
  rw [hW]
  clear hW
  obtain ⟨bX, hp⟩ : ∃ b, w.heap.size + 1 = b := ⟨_, rfl⟩
  rw [hp] at gX ⊢
  clear hp
  obtain ⟨bP, hp⟩ : ∃ b, w.heap.size = b := ⟨_, rfl⟩
  rw [hp] at gP ⊢
  clear hp
  have HP0 := keepd gP
  have HX0 := keepd gX
  have HB0 := keepd gB
  clear gP gX gB
  obtain ⟨rP, kP⟩ := PB.facts HP0.out
  obtain ⟨rX, kX⟩ := SR.trF HX0.out
  go_wp2_with fail
  with_reducible refine (HC.out _).mono ?_
  rintro e v1 ⟨rfl, hb⟩
  have HP1 := keepd (SR.alloc (SR.call HP0.out hb (SR.lt HP0.out)) (.cells #[.int .i64 c.lv, .int .u8 c.v] 29))
  have HX1 := keepd (SR.alloc (SR.call HX0.out hb (SR.lt HX0.out)) (.cells #[.int .i64 c.lv, .int .u8 c.v] 29))
  have HB1 := keepd (bAlloc (bCall HB0.out hb) (.cells #[.int .i64 c.lv, .int .u8 c.v] 29))
  have HC1 : Hid (SR 29 (v1.alloc (.cells #[.int .i64 c.lv, .int .u8 c.v] 29)) v1.heap.size (cl c)) := SR.new 29 v1 (cl c)
  clear hb rP kP rX kX HP0 HX0 HB0 HC
  go_upto_region 2 with fail
  obtain ⟨w1, hw⟩ : ∃ W, v1.alloc (.cells #[.int .i64 c.lv, .int .u8 c.v] 29) = W := ⟨_, rfl⟩
  rw [hw] at HP1 HX1 HC1 HB1 ⊢
  clear hw
  obtain ⟨bC, hp⟩ : ∃ p, v1.heap.size = p := ⟨_, rfl⟩
  rw [hp] at HC1 ⊢
  clear hp
  obtain ⟨rC, kC, _, _⟩ := SR.clF HC1.out
  obtain ⟨cX0, cX1, cX2, cX3, cX4, cX5⟩ := SR.tr HX1.out
  rcases HE with rfl | ⟨rfl, hc0⟩
  case inr =>
    clear hc0 HS
    go_wp2_with fail
    with_reducible refine (HA.out _).mono ?_
    rintro e w9 ⟨rfl, hb9⟩
    have HB9 := keepd (bCall HB1.out hb9)
    clear hb9
    go_wp2
    go_returns
    exact ⟨rfl, HB9.out⟩
  obtain ⟨hm, ht, hcase⟩ := settle_ok HS.out
  clear HS
  rcases hcase with ⟨f0, f1, hc⟩ | ⟨hf, _⟩
  case inr =>
    by_cases f0 : x.f < 1
    · have g1 : decide (x.f < 1) = true := decide_eq_true f0
      clear hm ht hf f0
      go_wp2_with fail
      with_reducible refine (HA.out _).mono ?_
      rintro e w9 ⟨rfl, hb9⟩
      have HB9 := keepd (bCall HB1.out hb9)
      clear hb9
      go_wp2
      go_returns
      exact ⟨rfl, HB9.out⟩
    · have g1 : decide (x.f < 1) = false := decide_eq_false f0
      have g2 : decide (x.f ≥ 31) = true := decide_eq_true (by omega)
      have g3 : decide (31 ≤ x.f) = true := decide_eq_true (by omega)
      clear hm ht hf f0
      go_wp2_with fail
      with_reducible refine (HA.out _).mono ?_
      rintro e w9 ⟨rfl, hb9⟩
      have HB9 := keepd (bCall HB1.out hb9)
      clear hb9
      go_wp2
      go_returns
      exact ⟨rfl, HB9.out⟩
  obtain ⟨n, hn⟩ : ∃ n : Nat, x.f = n := ⟨x.f.toNat, by omega⟩
  have hn31 : n < 31 := by omega
  have g1 : decide ((n : Int) < 1) = false := decide_eq_false (by omega)
  have g2 : decide ((n : Int) ≥ 31) = false := decide_eq_false (by omega)
  have g3 : decide (31 ≤ (n : Int)) = false := decide_eq_false (by omega)
  have i0 : (0 : Int) ≤ (n : Int) := by omega
  have i1 : (n : Int) < 31 := by omega
  have hq := in31 hm ⟨f0, f1⟩
  rw [hn, Int.toNat_natCast] at hq hc
  have HW := keepd (set_ways hq (lv3 ht) hc)
  simp only [] at HW
  obtain ⟨d0, d1⟩ := PB.at HP1.out n hn31
  clear hm ht f0 f1 hq hc
  go_upto_region 5 with fail
  obtain ⟨w2, hw⟩ : ∃ W, w1.alloc (.cells #[.int .i64 (X n).lv, .int .u8 (X n).v] 23) = W := ⟨_, rfl⟩
  have HB2 : Hid (Below w.heap.size w w2) := by subst hw; exact bAlloc HB1.out _
  have HX2 : Hid (SR 27 w2 bX (Tr.cells x)) := by subst hw; exact SR.alloc HX1.out _
  have HC2 : Hid (SR 29 w2 bC (cl c)) := by subst hw; exact SR.alloc HC1.out _
  have HO2 : Hid (SR 23 w2 w1.heap.size [.int .i64 (X n).lv, .int .u8 (X n).v]) := by subst hw; exact SR.new 23 w1 [.int .i64 (X n).lv, .int .u8 (X n).v]
  rw [hw]
  clear hw rC kC cX0 cX1 cX2 cX3 cX4 cX5 d0 d1 HP1 HX1 HC1 HB1
  obtain ⟨bO, hp⟩ : ∃ p, w1.heap.size = p := ⟨_, rfl⟩
  rw [hp] at HO2 ⊢
  clear hp
  obtain ⟨rC, kC, _, _⟩ := SR.clF HC2.out
  obtain ⟨cX0, cX1, cX2, cX3, cX4, cX5⟩ := SR.tr HX2.out
  have o0 := SR.cell HO2.out 0
  have o1 := SR.cell HO2.out 1
  simp only [List.getElem?_cons_zero, List.getElem?_cons_succ] at o0 o1
  generalize X n = q at *
  clear g1 g2 g3 hn31 i0 i1
  rcases HW.out with ⟨q0, q1, z0, z1, p0 | p0 | p0 | p0⟩ | ⟨q0 | q0, p0, z0, z1⟩ | ⟨q0, p0, ⟨z0, z1⟩ | ⟨z0, z1⟩⟩ | ⟨q0, p0, z0, z1⟩ | ⟨q0 | q0, p0, z0, z1⟩ | ⟨q0, p0 | p0, z0, z1⟩
  all_goals
    clear HW
    go_wp2_with fail
    with_reducible refine (HA.out _).mono ?_
    rintro e w9 ⟨rfl, hb9⟩
    have HB9 := keepd (bCall HB2.out hb9)
    clear hb9
    go_wp2
    go_returns
    exact ⟨rfl, HB9.out⟩

end Go.Proofs.Ytjchkpnfdamgnaa
