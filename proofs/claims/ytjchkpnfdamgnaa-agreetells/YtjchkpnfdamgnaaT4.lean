/-
  The contracts of Settle, Answer, First. No conditions beyond those each theorem states.
-/
import Derived.Test.YtjchkpnfdamgnaaT3
namespace Go.Proofs.Ytjchkpnfdamgnaa
open Go.RowKit
set_option maxRecDepth 100000

attribute [local go_sem ↓] ex_ld31 ex_st31 ex_al31 ex_bu31 ex_ix31 ex_eq31 ex_ne31 ex_eq29 ex_ne29 ex_ld25 ex_st25 ex_al25 ex_bu25 ex_ix25
attribute [local go_sem] ptrB_at okPtr_at aggC_at agg62 isC_at isT_at eqV_t eqV_c isRow_new isRow_newp World.setRow_alloc_new


theorem info27 : (Try.prog.info? 27).map (·.size) = some 6 := by kernel_rfl
theorem ex_ld27 (ρ : Operand → Value) (dst : Option Tmp) (x : Operand) (ty : TypeId) (pos : String) (af : Array Edge) (gd : Option (Nat × Bool)) (W : World) (h : okPtr W 27 6 (ρ x) = true) :
    Sem.run Try.prog (execOp ρ ⟨dst, .load 27 x, ty, pos, af, gd⟩) W = .ok (.value (.agg (rowOf W (ptrB (ρ x))))) W := by
  obtain ⟨h1, h2⟩ := okPtr_eq h
  obtain ⟨h3, h4⟩ := isRow_sr h2
  unfold execOp
  simp only []
  rw [h1]
  simp only [Instr.loadAt, Instr.sureAddr, Sem.run_bind, Sem.run_pure, Result.andThen_ok, ptrB_at]
  rw [run_loadVar_row W _ 27 27 _ (0, 0) _ h3 Try.underlying27 rfl (by rw [info27, h4])]
  rfl
theorem ex_st27 (ρ : Operand → Value) (dst : Option Tmp) (x y : Operand) (ty : TypeId) (pos : String) (af : Array Edge) (gd : Option (Nat × Bool)) (W : World) (h : okPtr W 27 6 (ρ x) = true) (hy : okAgg 6 (ρ y) = true) :
    Sem.run Try.prog (execOp ρ ⟨dst, .store 27 x y, ty, pos, af, gd⟩) W = .ok .skip (W.setRow (ptrB (ρ x)) (aggC (ρ y))) := by
  obtain ⟨h1, h2⟩ := okPtr_eq h
  obtain ⟨h3, h4⟩ := isRow_sr h2
  obtain ⟨k1, k2, k3⟩ := okAgg_eq hy
  unfold execOp
  simp only []
  rw [h1, k1]
  simp only [Instr.storeAt, Instr.sureAddr, Sem.run_bind, Sem.run_pure, Result.andThen_ok, ptrB_at, aggC_at]
  rw [run_storeVar_row W _ 27 27 _ _ h3 (by rw [info27, k2]) (by rw [h4, k2]) k3]
  rfl
theorem agg6 (a b : Int) (c d e : Bool) (v : Int) : okAgg 6 (.agg #[.int .i64 a, .int .i64 b, .bool c, .bool d, .bool e, .int .u8 v]) = true := by simp [okAgg, Value.oneCell']
theorem isRow_new6 (W : World) (a b c d e f : Value) : isRow (W.alloc (.cells #[a, b, c, d, e, f] 27)) 27 W.heap.size 6 = true := (SR.facts (SR.new 27 W [a, b, c, d, e, f]) 6 rfl).2
theorem SR.trF {W : World} {b : Nat} {x : Tr} (h : SR 27 W b x.cells) : rowOf W b = #[.int .i64 x.f, .int .i64 x.lv, .bool x.a, .bool x.i, .bool x.o, .int .u8 x.v] ∧ isRow W 27 b 6 = true := SR.facts h 6 rfl
attribute [local go_sem ↓] ex_ld27 ex_st27
attribute [local go_sem] agg6 isRow_new6
abbrev cl (c : Cl) : List Value := [.int .i64 c.lv, .int .u8 c.v]
theorem size29 : (Try.prog.info? 29).map (·.size) = some 2 := by kernel_rfl
theorem size27 : (Try.prog.info? 27).map (·.size) = some 6 := by kernel_rfl
theorem results_cl {fn : Func} {p t : Tmp} (h : fn.results = #[.cell p 29, .tmp t]) (tmps : Array Value) (w : World) (g : Nat) (c : Cl) (hp : tmps.getD p undef = .pointer (some ⟨g, 0, none⟩)) (hg : SR 29 w g (cl c)) :
    (results fn tmps).run Try.prog w = .ok (.tuple #[cv c, tmps.getD t undef]) w := by
  have hp' : tmps[p]?.getD undef = .pointer (some ⟨g, 0, none⟩) := by simpa using hp
  simp [results, h, hp', asAddr, run_loadVar_row w g 29 29 _ (0, 0) _ hg Try.underlying29 rfl (by rw [size29]; rfl)]
theorem results_tr {fn : Func} {p t : Tmp} (h : fn.results = #[.cell p 27, .tmp t]) (tmps : Array Value) (w : World) (g : Nat) (x : Tr) (hp : tmps.getD p undef = .pointer (some ⟨g, 0, none⟩)) (hg : SR 27 w g x.cells) :
    (results fn tmps).run Try.prog w = .ok (.tuple #[vt x, tmps.getD t undef]) w := by
  have hp' : tmps[p]?.getD undef = .pointer (some ⟨g, 0, none⟩) := by simpa using hp
  simp [results, h, hp', asAddr, run_loadVar_row w g 27 27 _ (0, 0) _ hg Try.underlying27 rfl (by rw [size27]; rfl)]
  rfl

theorem SR.clF {W : World} {b : Nat} {c : Cl} (h : SR 29 W b (cl c)) : W.cell? ⟨b, 0, none⟩ = some (.int .i64 c.lv) ∧ W.cell? ⟨b, 1, none⟩ = some (.int .u8 c.v) ∧ W.frozen? ⟨b, 0, none⟩ = false ∧ W.frozen? ⟨b, 1, none⟩ = false := ⟨SR.cell h 0, SR.cell h 1, SR.frozen h 0, SR.frozen h 1⟩
theorem SR.clPut {W : World} {b : Nat} {c : Cl} (h : SR 29 W b (cl c)) (d : Cl) : SR 29 ((W.setCell ⟨b, 0, none⟩ (.int .i64 d.lv)).setCell ⟨b, 1, none⟩ (.int .u8 d.v)) b (cl d) := SR.set (SR.set h 0 _) 1 _
theorem SR.tr {W : World} {b : Nat} {x : Tr} (h : SR 27 W b x.cells) : W.cell? ⟨b, 0, none⟩ = some (.int .i64 x.f) ∧ W.cell? ⟨b, 1, none⟩ = some (.int .i64 x.lv) ∧ W.cell? ⟨b, 2, none⟩ = some (.bool x.a) ∧ W.cell? ⟨b, 3, none⟩ = some (.bool x.i) ∧ W.cell? ⟨b, 4, none⟩ = some (.bool x.o) ∧ W.cell? ⟨b, 5, none⟩ = some (.int .u8 x.v) :=
  ⟨SR.cell h 0, SR.cell h 1, SR.cell h 2, SR.cell h 3, SR.cell h 4, SR.cell h 5⟩
theorem b2set {a w : World} {b : Nat} (h : Below a.heap.size a w) (hb : a.heap.size ≤ b) (u v : Value) : Below a.heap.size a ((w.setCell ⟨b, 0, none⟩ u).setCell ⟨b, 1, none⟩ v) := bSet (bSet h hb u) hb v

theorem ptc_new (w : World) (X : Tb) (x : Tr) (W : World) (h : ((w.alloc (.cells (cs X).toArray 25)).alloc (.cells #[.int .i64 x.f, .int .i64 x.lv, .bool x.a, .bool x.i, .bool x.o, .int .u8 x.v] 27)).alloc (.cells #[.int .i64 0, .int .u8 0] 29) = W) :
    PB W w.heap.size X ∧ SR 27 W (w.heap.size + 1) x.cells ∧ SR 29 W (w.heap.size + 1 + 1) (cl ⟨0, 0⟩) ∧ Below w.heap.size w W := by
  subst h
  exact ⟨((SR.new 25 w (cs X)).alloc _).alloc _, SR.alloc (t := 27) (cs := x.cells) (heap_alloc2_new w _ _) _, n4 w _ _ _, bAlloc (bAlloc (bAlloc (Below.refl _ _) _) _) _⟩

/-- What is read: a triple's function, level and key, and that function's pref. -/
def S9 (b0 b1 n : Nat) (X : Tb) (x : Tr) (V : World) : Prop :=
  V.cell? ⟨b1, 0, none⟩ = some (.int .i64 (n : Int)) ∧ V.cell? ⟨b1, 1, none⟩ = some (.int .i64 x.lv) ∧ V.cell? ⟨b1, 5, none⟩ = some (.int .u8 x.v) ∧ V.cell? ⟨b0, n * 2, none⟩ = some (.int .i64 (X n).lv) ∧ V.cell? ⟨b0, n * 2 + 1, none⟩ = some (.int .u8 (X n).v)
theorem S9.of {b0 b1 n : Nat} {X : Tb} {x : Tr} {V : World} (h0 : PB V b0 X) (h1 : SR 27 V b1 x.cells) (hn : n < 31) (hf : x.f = n) : S9 b0 b1 n X x V := by
  obtain ⟨p0, p1, _, _, _, p5⟩ := SR.tr h1
  obtain ⟨c0, c1⟩ := PB.at h0 n hn
  rw [hf] at p0
  exact ⟨p0, p1, p5, c0, c1⟩

set_option maxHeartbeats 1000000 in
theorem settle_any (X : Tb) (x : Tr) (c : Cl) (er : Int) (h : settleF X x = (c, er)) (w : World) : Calls Try.prog 9 #[tv X, vt x] w fun e w' => e = .returned (.tuple #[cv c, .int .i64 er]) ∧ Below w.heap.size w w' := by
  have HS := keepd h
  clear h
  go_enter Try.func9, Try.ntmps9
  go_upto_region 1 with fail
  generalize hW : ((w.alloc (.cells (cs X).toArray 25)).alloc (.cells #[.int .i64 x.f, .int .i64 x.lv, .bool x.a, .bool x.i, .bool x.o, .int .u8 x.v] 27)).alloc (.cells #[.int .i64 0, .int .u8 0] 29) = W
  obtain ⟨h1, h2, h3, h4⟩ := ptc_new _ _ _ _ hW
  clear hW
  obtain ⟨r1, k1⟩ := PB.facts h1
  have H1 := keepd h1
  have H2 := keepd h2
  have H3 := keepd h3
  have HB := keepd h4
  clear h1 h2 h3 h4
  obtain ⟨b0, hb0⟩ : ∃ b, w.heap.size = b := ⟨_, rfl⟩
  obtain ⟨b1, hb1⟩ : ∃ b, w.heap.size + 1 = b := ⟨_, rfl⟩
  obtain ⟨b2, hb2⟩ : ∃ b, w.heap.size + 1 + 1 = b := ⟨_, rfl⟩
  have HL : Hid (b0 < b1 ∧ b1 < b2 ∧ w.heap.size ≤ b2) := by show _ ∧ _ ∧ _; omega
  rw [hb2] at H3 ⊢
  rw [hb1] at H2 ⊢
  rw [hb0] at r1 k1 H1 ⊢
  clear hb0 hb1 hb2
  rcases errT_cases X with ⟨hm, he⟩ | ⟨hm, he⟩
  case inr =>
    have HC := keepd (check_any X 1 he)
    obtain ⟨rfl, rfl⟩ : c = ⟨0, 0⟩ ∧ er = 1 := by
      have := HS.out
      unfold settleF at this
      rw [hm] at this
      simp only [Bool.false_eq_true, if_false, Prod.mk.injEq] at this
      exact ⟨this.1.symm, this.2.symm⟩
    clear HS he hm
    go_wp2_with fail
    with_reducible refine (HC.out _).mono ?_
    rintro e w2 ⟨rfl, hb⟩
    have H3' := keepd (SR.call H3.out hb (SR.lt H3.out))
    have HB2 := keepd (bCall HB.out hb)
    clear hb r1 k1
    obtain ⟨z0, z1, y0, y1⟩ := SR.clF H3'.out
    go_wp2_with fail
    exact bodyPost_ret (results_cl Try.results9 _ _ b2 ⟨0, 0⟩ rfl (SR.clPut H3'.out ⟨0, 0⟩)) rfl ⟨rfl, b2set HB2.out HL.out.2.2 _ _⟩
  have HC := keepd (check_any X 0 he)
  clear he
  go_wp2_with fail
  with_reducible refine (HC.out _).mono ?_
  rintro e w2 ⟨rfl, hb⟩
  have H12 := keepd (SR.call H1.out hb (SR.lt H1.out))
  have H22 := keepd (SR.call H2.out hb (SR.lt H2.out))
  have H32 := keepd (SR.call H3.out hb (SR.lt H3.out))
  have HB2 := keepd (bCall HB.out hb)
  clear hb r1 k1 H1 H2 H3 HB HC
  obtain ⟨p0, p1⟩ := SR.trF H22.out
  rcases errTr_cases x.f x.lv with ⟨hm2, he⟩ | ⟨hm2, he⟩
  case inr =>
    have HC := keepd (scheckE_any x 1 he)
    obtain ⟨rfl, rfl⟩ : c = ⟨0, 0⟩ ∧ er = 1 := by
      have := HS.out
      unfold settleF at this
      rw [hm, hm2] at this
      simp only [Bool.false_eq_true, if_false, if_true, Prod.mk.injEq] at this
      exact ⟨this.1.symm, this.2.symm⟩
    clear HS he hm hm2
    go_wp2_with fail
    with_reducible refine (HC.out _).mono ?_
    rintro e w3 ⟨rfl, hb⟩
    have H3' := keepd (SR.call H32.out hb (SR.lt H32.out))
    have HB3 := keepd (bCall HB2.out hb)
    clear hb p0 p1
    obtain ⟨z0, z1, y0, y1⟩ := SR.clF H3'.out
    go_wp2_with fail
    exact bodyPost_ret (results_cl Try.results9 _ _ b2 ⟨0, 0⟩ rfl (SR.clPut H3'.out ⟨0, 0⟩)) rfl ⟨rfl, b2set HB3.out HL.out.2.2 _ _⟩
  have HC := keepd (scheckE_any x 0 he)
  clear he
  go_wp2_with fail
  with_reducible refine (HC.out _).mono ?_
  rintro e w3 ⟨rfl, hb⟩
  have H13 := keepd (SR.call H12.out hb (SR.lt H12.out))
  have H23 := keepd (SR.call H22.out hb (SR.lt H22.out))
  have H33 := keepd (SR.call H32.out hb (SR.lt H32.out))
  have HB3 := keepd (bCall HB2.out hb)
  clear hb p0 p1 H12 H22 H32 HB2 HC
  obtain ⟨p0, p1, p2, p3, p4, p5⟩ := SR.tr H23.out
  obtain ⟨z0, z1, y0, y1⟩ := SR.clF H33.out
  have HE := HS.out
  unfold settleF at HE
  rw [hm, hm2] at HE
  simp only [if_true] at HE
  clear HS hm hm2
  by_cases hf0 : x.f ≤ 0
  · rw [if_neg (by omega)] at HE
    obtain ⟨rfl, rfl⟩ : c = ⟨0, 0⟩ ∧ er = 0 := by
      simp only [Prod.mk.injEq] at HE
      exact ⟨HE.1.symm, HE.2.symm⟩
    have g1 : decide (x.f ≤ 0) = true := decide_eq_true hf0
    clear HE
    go_wp2_with fail
    exact bodyPost_ret (results_cl Try.results9 _ _ b2 ⟨0, 0⟩ rfl (SR.clPut H33.out ⟨0, 0⟩)) rfl ⟨rfl, b2set HB3.out HL.out.2.2 _ _⟩
  have g1 : decide (x.f ≤ 0) = false := decide_eq_false hf0
  by_cases hf1 : 31 ≤ x.f
  · rw [if_neg (by omega)] at HE
    obtain ⟨rfl, rfl⟩ : c = ⟨0, 0⟩ ∧ er = 0 := by
      simp only [Prod.mk.injEq] at HE
      exact ⟨HE.1.symm, HE.2.symm⟩
    have g2 : decide (x.f ≥ 31) = true := decide_eq_true hf1
    have g3 : decide (31 ≤ x.f) = true := decide_eq_true hf1
    clear HE
    go_wp2_with fail
    exact bodyPost_ret (results_cl Try.results9 _ _ b2 ⟨0, 0⟩ rfl (SR.clPut H33.out ⟨0, 0⟩)) rfl ⟨rfl, b2set HB3.out HL.out.2.2 _ _⟩
  have g2 : decide (x.f ≥ 31) = false := decide_eq_false hf1
  have g3 : decide (31 ≤ x.f) = false := decide_eq_false hf1
  rw [if_pos (by omega)] at HE
  obtain ⟨n, hn⟩ : ∃ n : Nat, x.f = n := ⟨x.f.toNat, by omega⟩
  rw [hn, Int.toNat_natCast] at HE
  obtain ⟨hc, rfl⟩ : setF (X n) ⟨x.lv, x.v⟩ = c ∧ er = 0 := by
    simp only [Prod.mk.injEq] at HE
    exact ⟨HE.1, HE.2.symm⟩
  have hn31 : n < 31 := by omega
  have i0 : (0 : Int) ≤ (n : Int) := by omega
  have i1 : (n : Int) < 31 := by omega
  have HC1 := keepd (cell_any (X n))
  have HC2 := keepd (settled_any (X n) ⟨x.lv, x.v⟩ c hc)
  clear HE hc
  go_upto_region 9 with fail
  have HN := keepd hn
  clear g1 g2 g3 hf0 hf1 hn p0 p1 p2 p3 p4 p5 z0 z1 y0 y1
  refine wp_region_held_drew (S := S9 b0 b1 n X x) (by kernel_rfl) (S9.of H13.out H23.out hn31 HN.out) (fun hHeld => ?_)
  refine wpAnyH_take (i := 0) (oi := { dst := some 29, op := Op.fieldAddr 27 (Operand.tmp 3) 0, type := 0, pos := "agree.go:28", after := #[], guard := none }) (v := .pointer (some ⟨b1, 0, none⟩)) rfl (by kernel_rfl) (by kernel_rfl) (by kernel_rfl) (fun _ _ _ h => h) (Or.inl ⟨by rfl, fun W hW => ?_⟩) hHeld ?_
  · obtain ⟨q1, q2, q3, q4, q5⟩ := hW
    go_simp
  simp only [Act.put, List.setIfInBounds_toArray, List.set_cons_zero, List.set_cons_succ]
  refine wpAnyH_take (i := 1) (oi := { dst := some 30, op := Op.load 3 (Operand.tmp 29), type := 3, pos := "agree.go:28", after := #[{ on := 0, ground := Ground.data }], guard := none }) (v := .int .i64 (n : Int)) rfl (by kernel_rfl) (by kernel_rfl) (by kernel_rfl) (fun _ _ _ h => h) (Or.inl ⟨by rfl, fun W hW => ?_⟩) hHeld ?_
  · obtain ⟨q1, q2, q3, q4, q5⟩ := hW
    go_simp
  simp only [Act.put, List.setIfInBounds_toArray, List.set_cons_zero, List.set_cons_succ]
  refine wpAnyH_take (i := 2) (oi := { dst := some 31, op := Op.indexAddr 25 (Operand.tmp 2) (Operand.tmp 30), type := 0, pos := "agree.go:28", after := #[{ on := 1, ground := Ground.data }], guard := none }) (v := .pointer (some ⟨b0, n * 2, none⟩)) rfl (by kernel_rfl) (by kernel_rfl) (by kernel_rfl) (fun _ _ _ h => h) (Or.inl ⟨by rfl, fun W hW => ?_⟩) hHeld ?_
  · obtain ⟨q1, q2, q3, q4, q5⟩ := hW
    go_simp
  simp only [Act.put, List.setIfInBounds_toArray, List.set_cons_zero, List.set_cons_succ]
  refine wpAnyH_take (i := 3) (oi := { dst := some 32, op := Op.load 23 (Operand.tmp 31), type := 23, pos := "agree.go:28", after := #[{ on := 2, ground := Ground.data }], guard := none }) (v := cv (X n)) rfl (by kernel_rfl) (by kernel_rfl) (by kernel_rfl) (fun _ _ _ h => h) (Or.inl ⟨by rfl, fun W hW => ?_⟩) hHeld ?_
  · obtain ⟨q1, q2, q3, q4, q5⟩ := hW
    go_simp
  simp only [Act.put, List.setIfInBounds_toArray, List.set_cons_zero, List.set_cons_succ]
  refine wpAnyH_take (i := 5) (oi := { dst := some 34, op := Op.fieldAddr 27 (Operand.tmp 3) 1, type := 0, pos := "agree.go:28", after := #[], guard := none }) (v := .pointer (some ⟨b1, 1, none⟩)) rfl (by kernel_rfl) (by kernel_rfl) (by kernel_rfl) (fun _ _ _ h => h) (Or.inl ⟨by rfl, fun W hW => ?_⟩) hHeld ?_
  · obtain ⟨q1, q2, q3, q4, q5⟩ := hW
    go_simp
  simp only [Act.put, List.setIfInBounds_toArray, List.set_cons_zero, List.set_cons_succ]
  refine wpAnyH_take (i := 6) (oi := { dst := some 35, op := Op.load 3 (Operand.tmp 34), type := 3, pos := "agree.go:28", after := #[{ on := 5, ground := Ground.data }], guard := none }) (v := .int .i64 x.lv) rfl (by kernel_rfl) (by kernel_rfl) (by kernel_rfl) (fun _ _ _ h => h) (Or.inl ⟨by rfl, fun W hW => ?_⟩) hHeld ?_
  · obtain ⟨q1, q2, q3, q4, q5⟩ := hW
    go_simp
  simp only [Act.put, List.setIfInBounds_toArray, List.set_cons_zero, List.set_cons_succ]
  refine wpAnyH_take (i := 7) (oi := { dst := some 36, op := Op.fieldAddr 27 (Operand.tmp 3) 5, type := 0, pos := "agree.go:28", after := #[], guard := none }) (v := .pointer (some ⟨b1, 5, none⟩)) rfl (by kernel_rfl) (by kernel_rfl) (by kernel_rfl) (fun _ _ _ h => h) (Or.inl ⟨by rfl, fun W hW => ?_⟩) hHeld ?_
  · obtain ⟨q1, q2, q3, q4, q5⟩ := hW
    go_simp
  simp only [Act.put, List.setIfInBounds_toArray, List.set_cons_zero, List.set_cons_succ]
  refine wpAnyH_take (i := 8) (oi := { dst := some 37, op := Op.load 5 (Operand.tmp 36), type := 5, pos := "agree.go:28", after := #[{ on := 7, ground := Ground.data }], guard := none }) (v := .int .u8 x.v) rfl (by kernel_rfl) (by kernel_rfl) (by kernel_rfl) (fun _ _ _ h => h) (Or.inl ⟨by rfl, fun W hW => ?_⟩) hHeld ?_
  · obtain ⟨q1, q2, q3, q4, q5⟩ := hW
    go_simp
  simp only [Act.put, List.setIfInBounds_toArray, List.set_cons_zero, List.set_cons_succ]
  refine wpAnyH_take (i := 9) (oi := { dst := some 38, op := Op.build 29 #[(0, Operand.tmp 35), (1, Operand.tmp 37)], type := 29, pos := "agree.go:28", after := #[{ on := 6, ground := Ground.data }, { on := 8, ground := Ground.data }], guard := none }) (v := .agg #[.int .i64 x.lv, .int .u8 x.v]) rfl (by kernel_rfl) (by kernel_rfl) (by kernel_rfl) (fun _ _ _ h => h) (Or.inl ⟨by rfl, fun W hW => ?_⟩) hHeld ?_
  · obtain ⟨q1, q2, q3, q4, q5⟩ := hW
    go_simp
  simp only [Act.put, List.setIfInBounds_toArray, List.set_cons_zero, List.set_cons_succ]
  refine wpAnyH_ready (rs := [4]) (by kernel_rfl) (by simp) ?_
  refine AllReadyH.cons (o := { dst := some 33, op := Op.call { callee := Callee.value (Operand.func 27), args := #[Operand.tmp 32], argTypes := #[23] }, type := 29, pos := "agree.go:28", after := #[{ on := 3, ground := Ground.data }], guard := none }) rfl (fun K hK => ?_) AllReadyH.nil
  go_simp
  with_reducible refine (HC1.out _).mono ?_
  rintro e w4 ⟨rfl, hb4⟩
  have hb4 : Below w3.heap.size w3 w4 := noDrew hb4
  have h1 := SR.call H13.out hb4 (SR.lt H13.out)
  have h2 := SR.call H23.out hb4 (SR.lt H23.out)
  have h3 := SR.call H33.out hb4 (SR.lt H33.out)
  have HB4 := keepd (bCall HB3.out hb4)
  clear hb4
  go_wp2_with fail
  refine hK.out _ _ (S9.of h1 h2 hn31 HN.out) (fun hHeld2 => ?_)
  clear hK K hHeld
  have hHeld := hHeld2
  clear hHeld2
  try simp only [Act.put, List.setIfInBounds_toArray, List.set_cons_zero, List.set_cons_succ]
  refine wpAnyH_ready (rs := [10]) (by kernel_rfl) (by simp) ?_
  refine AllReadyH.cons (o := { dst := some 39, op := Op.call { callee := Callee.value (Operand.func 26), args := #[Operand.tmp 33, Operand.tmp 38], argTypes := #[29, 29] }, type := 29, pos := "agree.go:28", after := #[{ on := 4, ground := Ground.data }, { on := 9, ground := Ground.data }, { on := 4, ground := Ground.chain }], guard := none }) rfl (fun K hK => ?_) AllReadyH.nil
  go_simp
  with_reducible refine (HC2.out _).mono ?_
  rintro e w5 ⟨rfl, hb5⟩
  have g1 := keepd (SR.call h1 hb5 (SR.lt h1))
  have g2 := keepd (SR.call h2 hb5 (SR.lt h2))
  have g3 := keepd (SR.call h3 hb5 (SR.lt h3))
  have HB5 := keepd (bCall HB4.out hb5)
  clear hb5 h1 h2 h3
  obtain ⟨z0, z1, y0, y1⟩ := SR.clF g3.out
  go_wp2_with fail
  refine hK.out _ _ (S9.of g1.out g2.out hn31 HN.out) (fun hHeld2 => ?_)
  clear hK K hHeld
  have hHeld := hHeld2
  clear hHeld2
  try simp only [Act.put, List.setIfInBounds_toArray, List.set_cons_zero, List.set_cons_succ]
  refine wpAnyH_ready (rs := [11]) (by kernel_rfl) (by simp) ?_
  refine AllReadyH.cons (o := { dst := none, op := Op.store 29 (Operand.tmp 4) (Operand.tmp 39), type := 0, pos := "agree.go:28", after := #[{ on := 10, ground := Ground.data }, { on := 10, ground := Ground.chain }, { on := 0, ground := Ground.phase }, { on := 1, ground := Ground.phase }, { on := 2, ground := Ground.phase }, { on := 3, ground := Ground.phase }, { on := 4, ground := Ground.phase }, { on := 5, ground := Ground.phase }, { on := 6, ground := Ground.phase }, { on := 7, ground := Ground.phase }, { on := 8, ground := Ground.phase }, { on := 9, ground := Ground.phase }, { on := 10, ground := Ground.phase }], guard := none }) rfl (fun K hK => ?_) AllReadyH.nil
  go_simp
  have hl := HL.out
  have k1 : b0 ≠ b2 := by omega
  have k2 : b1 ≠ b2 := by omega
  refine hK.out _ _ (S9.of (SR.far (SR.far g1.out k1 _) k1 _) (SR.far (SR.far g2.out k2 _) k2 _) hn31 HN.out) (fun hHeld2 => ?_)
  clear hK K hHeld
  have hHeld := hHeld2
  clear hHeld2
  try simp only [Act.put, List.setIfInBounds_toArray, List.set_cons_zero, List.set_cons_succ]
  refine wpAnyH_take (i := 12) (oi := { dst := some 5, op := Op.assign (Operand.const (Value.int IntKind.i64 0)), type := 32, pos := "agree.go:28", after := #[{ on := 11, ground := Ground.chain }, { on := 0, ground := Ground.phase }, { on := 1, ground := Ground.phase }, { on := 2, ground := Ground.phase }, { on := 3, ground := Ground.phase }, { on := 4, ground := Ground.phase }, { on := 5, ground := Ground.phase }, { on := 6, ground := Ground.phase }, { on := 7, ground := Ground.phase }, { on := 8, ground := Ground.phase }, { on := 9, ground := Ground.phase }, { on := 10, ground := Ground.phase }, { on := 11, ground := Ground.phase }], guard := none }) (v := .int .i64 0) rfl (by kernel_rfl) (by kernel_rfl) (by kernel_rfl) (fun _ _ _ h => h) (Or.inl ⟨by rfl, fun W hW => ?_⟩) hHeld ?_
  · obtain ⟨q1, q2, q3, q4, q5⟩ := hW
    go_simp
  simp only [Act.put, List.setIfInBounds_toArray, List.set_cons_zero, List.set_cons_succ]
  refine wpAnyH_done (by kernel_rfl) ?_ _
  go_wp2_with fail
  exact bodyPost_ret (results_cl Try.results9 _ _ b2 c rfl (SR.clPut g3.out c)) rfl ⟨rfl, b2set HB5.out HL.out.2.2 _ _⟩

theorem ptt_new2 (w : World) (X : Tb) (x : Tr) (W : World) (h : ((w.alloc (.cells (cs X).toArray 25)).alloc (.cells #[.int .i64 x.f, .int .i64 x.lv, .bool x.a, .bool x.i, .bool x.o, .int .u8 x.v] 27)).alloc (.cells #[.int .i64 0, .int .i64 0, .bool false, .bool false, .bool false, .int .u8 0] 27) = W) :
    PB W w.heap.size X ∧ SR 27 W (w.heap.size + 1) x.cells ∧ SR 27 W (w.heap.size + 1 + 1) zTr.cells ∧ Below w.heap.size w W := by
  subst h
  exact ⟨((SR.new 25 w (cs X)).alloc _).alloc _, SR.alloc (t := 27) (cs := x.cells) (heap_alloc2_new w _ _) _, n4 w _ _ _, bAlloc (bAlloc (bAlloc (Below.refl _ _) _) _) _⟩
set_option maxHeartbeats 1000000 in
theorem answer_any (X : Tb) (x y : Tr) (er : Int) (h : answerF X x = (y, er)) (w : World) : Calls Try.prog 10 #[tv X, vt x] w fun e w' => e = .returned (.tuple #[vt y, .int .i64 er]) ∧ Below w.heap.size w w' := by
  have HS := keepd h
  clear h
  go_enter Try.func10, Try.ntmps10
  go_upto_region 1 with fail
  generalize hW : ((w.alloc (.cells (cs X).toArray 25)).alloc (.cells #[.int .i64 x.f, .int .i64 x.lv, .bool x.a, .bool x.i, .bool x.o, .int .u8 x.v] 27)).alloc (.cells #[.int .i64 0, .int .i64 0, .bool false, .bool false, .bool false, .int .u8 0] 27) = W
  obtain ⟨h1, h2, h3, h4⟩ := ptt_new2 _ _ _ _ hW
  clear hW
  obtain ⟨r1, k1⟩ := PB.facts h1
  obtain ⟨p0, p1⟩ := SR.trF h2
  have H2 := keepd h2
  have H3 := keepd h3
  have HB := keepd h4
  clear h1 h2 h3 h4
  obtain ⟨b0, hb0⟩ : ∃ b, w.heap.size = b := ⟨_, rfl⟩
  obtain ⟨b1, hb1⟩ : ∃ b, w.heap.size + 1 = b := ⟨_, rfl⟩
  obtain ⟨b2, hb2⟩ : ∃ b, w.heap.size + 1 + 1 = b := ⟨_, rfl⟩
  have HL : Hid (w.heap.size ≤ b2) := by show _ ≤ _; omega
  rw [hb2] at H3 ⊢
  rw [hb1] at p0 p1 H2 ⊢
  rw [hb0] at r1 k1 ⊢
  clear hb0 hb1 hb2
  obtain ⟨c, e0, hce⟩ : ∃ c e, settleF X x = (c, e) := ⟨_, _, rfl⟩
  have HC := keepd (settle_any X x c e0 hce)
  have HE := settle_err X x
  have HA := HS.out
  unfold answerF at HA
  rw [hce] at HE HA
  simp only [] at HE HA
  clear HS hce
  go_wp2_with fail
  with_reducible refine (HC.out _).mono ?_
  rintro e v2 ⟨rfl, hb⟩
  have H22 := keepd (SR.alloc (SR.call H2.out hb (SR.lt H2.out)) (.cells (cl c).toArray 29))
  have H32 := keepd (SR.alloc (SR.call H3.out hb (SR.lt H3.out)) (.cells (cl c).toArray 29))
  have HB2 := keepd (bAlloc (bCall HB.out hb) (.cells (cl c).toArray 29))
  have HV2 := keepd (SR.new 29 v2 (cl c))
  clear hb r1 k1 p0 p1 H2 H3 HB HC
  go_upto_region 2 with fail
  generalize v2.alloc (.cells (cl c).toArray 29) = w2 at *
  obtain ⟨b3, hp⟩ : ∃ p, v2.heap.size = p := ⟨_, rfl⟩
  rw [hp] at HV2 ⊢
  clear hp
  obtain ⟨p0, p1, p2, p3, p4, p5⟩ := SR.tr H22.out
  obtain ⟨_, z1⟩ := SR.trF H32.out
  obtain ⟨c0, c1, _, _⟩ := SR.clF HV2.out
  rcases HE with rfl | ⟨rfl, hc0⟩
  · rw [if_pos rfl] at HA
    obtain ⟨hy, rfl⟩ : (⟨x.f, c.lv, true, x.i, x.o, c.v⟩ : Tr) = y ∧ er = 0 := by
      simp only [Prod.mk.injEq] at HA
      exact ⟨HA.1, HA.2.symm⟩
    subst hy
    clear HA
    go_wp2_with fail
    exact bodyPost_ret (results_tr Try.results10 _ _ b2 ⟨x.f, c.lv, true, x.i, x.o, c.v⟩ rfl (SR.row H32.out _)) rfl ⟨rfl, bRow HB2.out HL.out _⟩
  · rw [if_neg (by omega)] at HA
    obtain ⟨rfl, rfl⟩ : zTr = y ∧ er = 1 := by
      simp only [Prod.mk.injEq] at HA
      exact ⟨HA.1, HA.2.symm⟩
    clear HA hc0
    go_wp2_with fail
    exact bodyPost_ret (results_tr Try.results10 _ _ b2 zTr rfl (SR.row H32.out _)) rfl ⟨rfl, bRow HB2.out HL.out _⟩

/-- The table that prefs say, and the error. -/
def firstF (X : Tb) : Tb × Int := if mayT X = true then (X, 0) else (zT, 1)
theorem pt_new (w : World) (X : Tb) (W : World) (h : (w.alloc (.cells (cs X).toArray 25)).alloc (.cells (cs zT).toArray 31) = W) :
    PB W w.heap.size X ∧ TB W (w.heap.size + 1) zT ∧ Below w.heap.size w W := by
  subst h
  exact ⟨heap_alloc2_old w _ _, heap_alloc2_new w _ _, bAlloc (bAlloc (Below.refl _ _) _) _⟩
set_option maxHeartbeats 1000000 in
theorem first_any (X Y : Tb) (er : Int) (h : firstF X = (Y, er)) (w : World) : Calls Try.prog 11 #[tv X] w fun e w' => e = .returned (.tuple #[tv Y, .int .i64 er]) ∧ Below w.heap.size w w' := by
  go_enter Try.func11, Try.ntmps11
  go_upto_region 1 with fail
  generalize hW : (w.alloc (.cells (cs X).toArray 25)).alloc (.cells (cs zT).toArray 31) = W
  obtain ⟨h1, h2, h4⟩ := pt_new _ _ _ hW
  clear hW
  obtain ⟨r1, k1⟩ := PB.facts h1
  have H1 := keepd h1
  have H2 := keepd h2
  have HB := keepd h4
  clear h1 h2 h4
  obtain ⟨b0, hb0⟩ : ∃ b, w.heap.size = b := ⟨_, rfl⟩
  obtain ⟨b1, hb1⟩ : ∃ b, w.heap.size + 1 = b := ⟨_, rfl⟩
  have HL : Hid (w.heap.size ≤ b1) := by show _ ≤ _; omega
  rw [hb1] at H2 ⊢
  rw [hb0] at r1 k1 H1 ⊢
  clear hb0 hb1
  unfold firstF at h
  rcases errT_cases X with ⟨hm, he⟩ | ⟨hm, he⟩
  · have HC := keepd (check_any X 0 he)
    have HD := keepd (cells_any X)
    rw [hm] at h
    simp only [if_true, Prod.mk.injEq] at h
    obtain ⟨rfl, rfl⟩ := h
    clear hm he
    go_wp2_with fail
    with_reducible refine (HC.out _).mono ?_
    rintro e w2 ⟨rfl, hb⟩
    have H12 := keepd (SR.call H1.out hb (SR.lt H1.out))
    have H22 := keepd (SR.call H2.out hb (SR.lt H2.out))
    have HB2 := keepd (bCall HB.out hb)
    clear hb r1 k1 H1 H2 HB HC
    obtain ⟨r1, k1⟩ := PB.facts H12.out
    go_wp2_with fail
    with_reducible refine (HD.out _).mono ?_
    rintro e w3 ⟨rfl, hb⟩
    have H23 := keepd (SR.call H22.out hb (SR.lt H22.out))
    have HB3 := keepd (bCall HB2.out hb)
    clear hb r1 k1 H12 H22 HB2 HD
    obtain ⟨r2, k2⟩ := TB.facts H23.out
    go_wp2_with fail
    exact bodyPost_ret (results_c2 Try.results11 _ _ b1 X rfl (SR.row H23.out _)) rfl ⟨rfl, bRow HB3.out HL.out _⟩
  · have HC := keepd (check_any X 1 he)
    rw [hm] at h
    simp only [Bool.false_eq_true, if_false, Prod.mk.injEq] at h
    obtain ⟨rfl, rfl⟩ := h
    clear hm he
    go_wp2_with fail
    with_reducible refine (HC.out _).mono ?_
    rintro e w2 ⟨rfl, hb⟩
    have H22 := keepd (SR.call H2.out hb (SR.lt H2.out))
    have HB2 := keepd (bCall HB.out hb)
    clear hb r1 k1 H1 H2 HB HC
    obtain ⟨r2, k2⟩ := TB.facts H22.out
    go_wp2_with fail
    exact bodyPost_ret (results_c2 Try.results11 _ _ b1 zT rfl (SR.row H22.out _)) rfl ⟨rfl, bRow HB2.out HL.out _⟩

end Go.Proofs.Ytjchkpnfdamgnaa
