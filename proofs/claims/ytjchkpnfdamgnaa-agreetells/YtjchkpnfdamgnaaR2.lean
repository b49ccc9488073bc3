/-
  The contracts of the document's own Settle, Answer, First. No conditions beyond those each theorem states.
-/
import Derived.Test.YtjchkpnfdamgnaaR1
import Derived.Test.YtjchkpnfdamgnaaL2
namespace Go.Proofs.Ytjchkpnfdamgnaa
open Go.RowKit
set_option maxRecDepth 100000

attribute [local go_sem ↓] ex_ld31 ex_st31 ex_al31 ex_bu31 ex_ix31 ex_eq31 ex_ne31 ex_eq29 ex_ne29 ex_ld25 ex_st25 ex_al25 ex_bu25 ex_ix25 ex_ld27 ex_st27 ex_eq27 ex_ne27
attribute [local go_sem] ptrB_at okPtr_at aggC_at agg62 isC_at isT_at eqV_t eqV_c isRow_new isRow_newp World.setRow_alloc_new agg6 isRow_new6 isV_at eqV_v


/-- What is settled, way by way, with the keys where both can't be changed. -/
theorem set_ways2 {q p c : Cl} (hq : mayC q = true) (hp : 0 ≤ p.lv ∧ p.lv ≤ 3) (hc : c = setF q p) :
    ((q.lv = 0 ∧ c = ⟨0, 0⟩ ∧ (p.lv = 0 ∨ p.lv = 1 ∨ p.lv = 2 ∨ p.lv = 3)) ∨ ((q.lv = 1 ∨ q.lv = 2) ∧ c = ⟨0, 0⟩ ∧ p.lv = 0)) ∨
    (q.lv = 1 ∧ p.lv = 1 ∧ (p.v == q.v) = false ∧ c = ⟨0, 0⟩) ∨ (q.lv = 1 ∧ p.lv = 1 ∧ (p.v == q.v) = true ∧ c = ⟨1, q.v⟩) ∨ (q.lv = 1 ∧ p.lv = 2 ∧ c = ⟨1, q.v⟩) ∨ (q.lv = 1 ∧ p.lv = 3 ∧ c = ⟨1, q.v⟩) ∨ (q.lv = 2 ∧ p.lv = 3 ∧ c = ⟨2, q.v⟩) ∨
    (q.lv = 2 ∧ p.lv = 1 ∧ c = ⟨1, p.v⟩) ∨ (q.lv = 2 ∧ p.lv = 2 ∧ c = ⟨2, p.v⟩) := by
  obtain ⟨a, b⟩ := q
  obtain ⟨d, e⟩ := p
  subst hc
  rw [mayC_iff] at hq
  have h3 : a = 0 ∧ b = 0 ∨ a = 1 ∨ a = 2 := hq
  have h4 : d = 0 ∨ d = 1 ∨ d = 2 ∨ d = 3 := by simp only [] at hp; omega
  rcases h3 with ⟨rfl, hb⟩ | rfl | rfl <;> rcases h4 with rfl | rfl | rfl | rfl <;> by_cases hbe : e = b <;> simp_all [setF]

theorem results_cl1 {fn : Func} {p : Tmp} (h : fn.results = #[.cell p 29]) (tmps : Array Value) (w : World) (g : Nat) (c : Cl) (hp : tmps.getD p undef = .pointer (some ⟨g, 0, none⟩)) (hg : SR 29 w g (cl c)) :
    (results fn tmps).run Try.prog w = .ok (cv c) w := results_cell_row h tmps w g 29 _ (0, 0) _ hp hg Try.underlying29 rfl (by rw [size29]; rfl)
theorem results_tr1 {fn : Func} {p : Tmp} (h : fn.results = #[.cell p 27]) (tmps : Array Value) (w : World) (g : Nat) (x : Tr) (hp : tmps.getD p undef = .pointer (some ⟨g, 0, none⟩)) (hg : SR 27 w g x.cells) :
    (results fn tmps).run Try.prog w = .ok (vt x) w := results_cell_row h tmps w g 27 _ (0, 0) _ hp hg Try.underlying27 rfl (by rw [size27]; rfl)

set_option maxHeartbeats 4000000 in
theorem refSettle_any (X : Tb) (x : Tr) (c : Cl) (h : settleF X x = (c, 0)) (w : World) : Calls Try.prog 16 #[tv X, vt x] w fun e w' => e = .returned (cv c) ∧ Below w.heap.size w w' := by
  have HS := keepd h
  clear h
  go_enter Try.func16, Try.ntmps16
  go_upto_region 1 with fail
  generalize hW : ((w.alloc (.cells (cs X).toArray 25)).alloc (.cells #[.int .i64 x.f, .int .i64 x.lv, .bool x.a, .bool x.i, .bool x.o, .int .u8 x.v] 27)).alloc (.cells #[.int .i64 0, .int .u8 0] 29) = W
  obtain ⟨h1, h2, h3, h4⟩ := ptc_new _ _ _ _ hW
  clear hW
  have H1 := keepd h1
  have H2 := keepd h2
  have H3 := keepd h3
  have HB := keepd h4
  clear h1 h2 h3 h4
  obtain ⟨b0, hb0⟩ : ∃ b, w.heap.size = b := ⟨_, rfl⟩
  obtain ⟨b1, hb1⟩ : ∃ b, w.heap.size + 1 = b := ⟨_, rfl⟩
  obtain ⟨b2, hb2⟩ : ∃ b, w.heap.size + 1 + 1 = b := ⟨_, rfl⟩
  have HL : Hid (w.heap.size ≤ b2) := by show _ ≤ _; omega
  rw [hb2] at H3 ⊢
  rw [hb1] at H2 ⊢
  rw [hb0] at H1 ⊢
  clear hb0 hb1 hb2
  obtain ⟨p0, p1, p2, p3, p4, p5⟩ := SR.tr H2.out
  obtain ⟨z0, z1, y0, y1⟩ := SR.clF H3.out
  obtain ⟨hm, ht, hcase⟩ := settle_ok HS.out
  clear HS
  rcases hcase with ⟨f0, f1, hc⟩ | ⟨hf, hc⟩
  case inr =>
    subst hc
    by_cases f0 : x.f < 1
    · have g1 : decide (x.f < 1) = true := decide_eq_true f0
      clear hm ht hf f0
      go_wp2_with fail
      exact bodyPost_ret (results_cl1 Try.results16 _ _ b2 ⟨0, 0⟩ rfl (SR.clPut H3.out ⟨0, 0⟩)) rfl ⟨rfl, b2set HB.out HL.out _ _⟩
    · have g1 : decide (x.f < 1) = false := decide_eq_false f0
      have g2 : decide (x.f > 30) = true := decide_eq_true (by omega)
      have g3 : decide (30 < x.f) = true := decide_eq_true (by omega)
      clear hm ht hf f0
      go_wp2_with fail
      exact bodyPost_ret (results_cl1 Try.results16 _ _ b2 ⟨0, 0⟩ rfl (SR.clPut H3.out ⟨0, 0⟩)) rfl ⟨rfl, b2set HB.out HL.out _ _⟩
  obtain ⟨n, hn⟩ : ∃ n : Nat, x.f = n := ⟨x.f.toNat, by omega⟩
  have hn31 : n < 31 := by omega
  have g1 : decide ((n : Int) < 1) = false := decide_eq_false (by omega)
  have g2 : decide ((n : Int) > 30) = false := decide_eq_false (by omega)
  have g3 : decide (30 < (n : Int)) = false := decide_eq_false (by omega)
  have i0 : (0 : Int) ≤ (n : Int) := by omega
  have i1 : (n : Int) < 31 := by omega
  have hq := in31 hm ⟨f0, f1⟩
  rw [hn, Int.toNat_natCast] at hq hc
  have HW := keepd (set_ways2 hq (lv3 ht) hc)
  simp only [] at HW
  obtain ⟨d0, d1⟩ := PB.at H1.out n hn31
  clear hm ht f0 f1 hq hc
  generalize X n = q at *
  rcases HW.out with hz | hrest
  · have HR := keepd hz
    clear HW hz
    rcases HR.out with ⟨q0, rfl, r0 | r0 | r0 | r0⟩ | ⟨q0 | q0, rfl, r0⟩
    all_goals
      clear HR
      go_wp2_with fail
      exact bodyPost_ret (results_cl1 Try.results16 _ _ b2 ⟨0, 0⟩ rfl (SR.clPut H3.out ⟨0, 0⟩)) rfl ⟨rfl, b2set HB.out HL.out _ _⟩
  · have hqp : (q.lv = 1 ∨ q.lv = 2) ∧ (x.lv = 1 ∨ x.lv = 2 ∨ x.lv = 3) := by
      rcases hrest with ⟨a, b, _⟩ | ⟨a, b, _⟩ | ⟨a, b, _⟩ | ⟨a, b, _⟩ | ⟨a, b, _⟩ | ⟨a, b, _⟩ | ⟨a, b, _⟩ <;> omega
    have e1 : (x.lv == 0) = false := by
      have : x.lv ≠ 0 := by omega
      simpa using this
    have e2 : (q.lv == 0) = false := by
      have : q.lv ≠ 0 := by omega
      simpa using this
    have HR := keepd hrest
    clear HW hrest hqp
    go_upto_region 4 with fail
    obtain ⟨w2, hw⟩ : ∃ V, W.alloc (.cells #[.int .i64 q.lv, .int .u8 q.v] 23) = V := ⟨_, rfl⟩
    have HB2 : Hid (Below w.heap.size w w2) := by subst hw; exact bAlloc HB.out _
    have HX2 : Hid (SR 27 w2 b1 (Tr.cells x)) := by subst hw; exact SR.alloc H2.out _
    have HC2 : Hid (SR 29 w2 b2 (cl ⟨0, 0⟩)) := by subst hw; exact SR.alloc H3.out _
    have HO2 : Hid (SR 23 w2 W.heap.size [.int .i64 q.lv, .int .u8 q.v]) := by subst hw; exact SR.new 23 W [.int .i64 q.lv, .int .u8 q.v]
    rw [hw]
    clear hw p0 p1 p2 p3 p4 p5 z0 z1 y0 y1 d0 d1 H1 H2 H3 HB e1 e2 g1 g2 g3 i0 i1
    obtain ⟨bO, hp⟩ : ∃ p, W.heap.size = p := ⟨_, rfl⟩
    rw [hp] at HO2 ⊢
    clear hp
    obtain ⟨z0, z1, y0, y1⟩ := SR.clF HC2.out
    obtain ⟨p0, p1, p2, p3, p4, p5⟩ := SR.tr HX2.out
    have o0 := SR.cell HO2.out 0
    have o1 := SR.cell HO2.out 1
    simp only [List.getElem?_cons_zero, List.getElem?_cons_succ] at o0 o1
    rcases HR.out with ⟨q0, r0, r1, rfl⟩ | ⟨q0, r0, r1, rfl⟩ | ⟨q0, r0, rfl⟩ | ⟨q0, r0, rfl⟩ | ⟨q0, r0, rfl⟩ | ⟨q0, r0, rfl⟩ | ⟨q0, r0, rfl⟩
    all_goals
      clear HR
      go_wp2_with fail
    · exact bodyPost_ret (results_cl1 Try.results16 _ _ b2 ⟨0, 0⟩ rfl (SR.clPut HC2.out ⟨0, 0⟩)) rfl ⟨rfl, b2set HB2.out HL.out _ _⟩
    · exact bodyPost_ret (results_cl1 Try.results16 _ _ b2 ⟨1, q.v⟩ rfl (SR.clPut HC2.out ⟨1, q.v⟩)) rfl ⟨rfl, b2set HB2.out HL.out _ _⟩
    · exact bodyPost_ret (results_cl1 Try.results16 _ _ b2 ⟨1, q.v⟩ rfl (SR.clPut HC2.out ⟨1, q.v⟩)) rfl ⟨rfl, b2set HB2.out HL.out _ _⟩
    · exact bodyPost_ret (results_cl1 Try.results16 _ _ b2 ⟨1, q.v⟩ rfl (SR.clPut HC2.out ⟨1, q.v⟩)) rfl ⟨rfl, b2set HB2.out HL.out _ _⟩
    · exact bodyPost_ret (results_cl1 Try.results16 _ _ b2 ⟨2, q.v⟩ rfl (SR.clPut HC2.out ⟨2, q.v⟩)) rfl ⟨rfl, b2set HB2.out HL.out _ _⟩
    · exact bodyPost_ret (results_cl1 Try.results16 _ _ b2 ⟨1, x.v⟩ rfl (SR.clPut HC2.out ⟨1, x.v⟩)) rfl ⟨rfl, b2set HB2.out HL.out _ _⟩
    · exact bodyPost_ret (results_cl1 Try.results16 _ _ b2 ⟨2, x.v⟩ rfl (SR.clPut HC2.out ⟨2, x.v⟩)) rfl ⟨rfl, b2set HB2.out HL.out _ _⟩

set_option maxHeartbeats 1000000 in
theorem refAnswer_any (X : Tb) (x : Tr) (c : Cl) (h : settleF X x = (c, 0)) (w : World) : Calls Try.prog 17 #[tv X, vt x] w fun e w' => e = .returned (vt ⟨x.f, c.lv, true, x.i, x.o, c.v⟩) ∧ Below w.heap.size w w' := by
  have HC := keepd (refSettle_any X x c h)
  clear h
  go_enter Try.func17, Try.ntmps17
  go_upto_region 1 with fail
  generalize hW : ((w.alloc (.cells (cs X).toArray 25)).alloc (.cells #[.int .i64 x.f, .int .i64 x.lv, .bool x.a, .bool x.i, .bool x.o, .int .u8 x.v] 27)).alloc (.cells #[.int .i64 0, .int .i64 0, .bool false, .bool false, .bool false, .int .u8 0] 27) = W
  obtain ⟨h1, h2, h3, h4⟩ := ptt_new2 _ _ _ _ hW
  clear hW
  obtain ⟨r1, k1⟩ := PB.facts h1
  obtain ⟨p0, p1⟩ := SR.trF h2
  have H2 := keepd h2
  have H3 := keepd h3
  have HB := keepd h4
  clear h1 h2 h3 h4
  obtain ⟨b0, hb0⟩ : ∃ b, w.heap.size = b := ⟨_, rfl⟩
  obtain ⟨b1, hb1⟩ : ∃ b, w.heap.size + 1 = b := ⟨_, rfl⟩
  obtain ⟨b2, hb2⟩ : ∃ b, w.heap.size + 1 + 1 = b := ⟨_, rfl⟩
  have HL : Hid (w.heap.size ≤ b2) := by show _ ≤ _; omega
  rw [hb2] at H3 ⊢
  rw [hb1] at p0 p1 H2 ⊢
  rw [hb0] at r1 k1 ⊢
  clear hb0 hb1 hb2
  go_wp2_with fail
  with_reducible refine (HC.out _).mono ?_
  rintro e v2 ⟨rfl, hb⟩
  have H22 := keepd (SR.alloc (SR.call H2.out hb (SR.lt H2.out)) (.cells (cl c).toArray 29))
  have H32 := keepd (SR.alloc (SR.call H3.out hb (SR.lt H3.out)) (.cells (cl c).toArray 29))
  have HB2 := keepd (bAlloc (bCall HB.out hb) (.cells (cl c).toArray 29))
  have HV2 := keepd (SR.new 29 v2 (cl c))
  clear hb r1 k1 p0 p1 H2 H3 HB HC
  go_upto_region 2 with fail
  generalize v2.alloc (.cells (cl c).toArray 29) = w2 at *
  obtain ⟨b3, hp⟩ : ∃ p, v2.heap.size = p := ⟨_, rfl⟩
  rw [hp] at HV2 ⊢
  clear hp
  obtain ⟨p0, p1, p2, p3, p4, p5⟩ := SR.tr H22.out
  obtain ⟨_, z1⟩ := SR.trF H32.out
  obtain ⟨c0, c1, _, _⟩ := SR.clF HV2.out
  go_wp2_with fail
  exact bodyPost_ret (results_tr1 Try.results17 _ _ b2 ⟨x.f, c.lv, true, x.i, x.o, c.v⟩ rfl (SR.row H32.out _)) rfl ⟨rfl, bRow HB2.out HL.out _⟩

end Go.Proofs.Ytjchkpnfdamgnaa
