/-
  The law AgreeLowers. No conditions beyond those each theorem states.
-/
import Derived.Test.YtjchkpnfdamgnaaL2
import Derived.Test.YtjchkpnfdamgnaaT7
namespace Go.Proofs.Ytjchkpnfdamgnaa
open Go.RowKit
set_option maxRecDepth 100000

attribute [local go_sem ↓] ex_ld31 ex_st31 ex_al31 ex_bu31 ex_ix31 ex_eq31 ex_ne31 ex_eq29 ex_ne29 ex_ld25 ex_st25 ex_al25 ex_bu25 ex_ix25 ex_ld27 ex_st27 ex_eq27 ex_ne27
attribute [local go_sem] ptrB_at okPtr_at aggC_at agg62 isC_at isT_at eqV_t eqV_c isRow_new isRow_newp World.setRow_alloc_new agg6 isRow_new6 isV_at eqV_v


theorem mayT_set {X : Tb} {n : Nat} (h : mayT X = true) (hn : 0 < n) {c : Cl} (hc : mayC c = true) : mayT (tset X n c) = true := by
  obtain ⟨h1, h2⟩ := mayT_iff.1 h
  refine mayT_iff.2 ⟨by rw [tset_ne X c (by omega)]; exact h1, fun i hi => ?_⟩
  by_cases e : i = n
  · subst e; rw [tset_at]; exact hc
  · rw [tset_ne X c e]; exact h2 i hi
theorem with_in {U : Tb} {n : Nat} {c : Cl} (h : mayT U = true) (hn : 0 < n) (hn' : n < 31) (hc : mayC c = true) : withF U (n : Int) c = (tset U n c, 0) := by
  unfold withF
  rw [Int.toNat_natCast, if_pos ⟨by omega, by omega, mayT_set h hn hc⟩]

/-- What is read in the last test: a table, a triple's function, a changed table's cell, a cell. -/
def SL (bU bX bY bC n : Nat) (U : Tb) (c : Cl) (V : World) : Prop :=
  rowOf V bU = (cs U).toArray ∧ isRow V 31 bU 62 = true ∧ V.cell? ⟨bX, 0, none⟩ = some (.int .i64 (n : Int)) ∧ V.cell? ⟨bY, n * 2, none⟩ = some (.int .i64 c.lv) ∧ V.cell? ⟨bY, n * 2 + 1, none⟩ = some (.int .u8 c.v) ∧ V.cell? ⟨bC, 0, none⟩ = some (.int .i64 c.lv) ∧ V.cell? ⟨bC, 1, none⟩ = some (.int .u8 c.v)
theorem SL.of {bU bX bY bC n : Nat} {U Y : Tb} {x : Tr} {c : Cl} {V : World} (hU : TB V bU U) (hX : SR 27 V bX x.cells) (hY : TB V bY Y) (hC : SR 29 V bC (cl c)) (hn : n < 31) (hf : x.f = n) (hc : Y n = c) : SL bU bX bY bC n U c V := by
  obtain ⟨r, k⟩ := TB.facts hU
  obtain ⟨p0, _⟩ := SR.tr hX
  obtain ⟨c0, c1⟩ := TB.at hY n hn
  obtain ⟨d0, d1, _⟩ := SR.clF hC
  rw [hf] at p0
  rw [hc] at c0 c1
  exact ⟨r, k, p0, c0, c1, d0, d1⟩
/-- What is read, where the table may not be. -/
def SM (bU : Nat) (U : Tb) (V : World) : Prop := rowOf V bU = (cs U).toArray ∧ isRow V 31 bU 62 = true
theorem SM.of {bU : Nat} {U : Tb} {V : World} (hU : TB V bU U) : SM bU U V := TB.facts hU

set_option maxHeartbeats 4000000 in
theorem lowers_law (X : Tb) (x : Tr) (U : Tb) (w : World) : Calls Try.prog 4 #[tv X, vt x, tv U] w fun e w' => e = .returned (.bool true) ∧ Below w.heap.size w w' := by
  have HA := keepd awake_any
  obtain ⟨c, e0, hce⟩ : ∃ c e, settleF X x = (c, e) := ⟨_, _, rfl⟩
  have HC := keepd (settle_any X x c e0 hce)
  have HE := settle_err X x
  rw [hce] at HE
  simp only [] at HE
  have HS := keepd hce
  clear hce
  go_enter Try.func4, Try.ntmps4
  go_upto_region 1 with fail
  obtain ⟨W, hW⟩ : ∃ W, (((w.alloc (.cells (cs X).toArray 25)).alloc (.cells #[.int .i64 x.f, .int .i64 x.lv, .bool x.a, .bool x.i, .bool x.o, .int .u8 x.v] 27)).alloc (.cells (cs U).toArray 31)) = W := ⟨_, rfl⟩
  obtain ⟨gP, gX, gU, gB⟩ : SR 25 W (w.heap.size) (cs X) ∧ SR 27 W (w.heap.size + 1) (Tr.cells x) ∧ SR 31 W (w.heap.size + 1 + 1) (cs U) ∧ Below w.heap.size w W := by
    subst hW
    exact ⟨(SR.alloc (SR.alloc (SR.new 25 w (cs X)) _) _), (SR.alloc (show SR 27 _ _ (Tr.cells x) from heap_alloc2_new w _ _) _), (show SR 31 _ _ (cs U) from n4 w _ _ _), (bAlloc (bAlloc (bAlloc (Below.refl _ _) _) _) _)⟩
  rw [hW]
  clear hW
  obtain ⟨bU, hp⟩ : ∃ b, w.heap.size + 1 + 1 = b := ⟨_, rfl⟩
  rw [hp] at gU ⊢
  clear hp
  obtain ⟨bX, hp⟩ : ∃ b, w.heap.size + 1 = b := ⟨_, rfl⟩
  rw [hp] at gX ⊢
  clear hp
  obtain ⟨bP, hp⟩ : ∃ b, w.heap.size = b := ⟨_, rfl⟩
  rw [hp] at gP ⊢
  clear hp
  have HP0 := keepd gP
  have HX0 := keepd gX
  have HU0 := keepd gU
  have HB0 := keepd gB
  clear gP gX gU gB
  obtain ⟨rP, kP⟩ := PB.facts HP0.out
  obtain ⟨rX, kX⟩ := SR.trF HX0.out
  go_wp2_with fail
  with_reducible refine (HC.out _).mono ?_
  rintro e v1 ⟨rfl, hb⟩
  have HP1 := keepd (SR.alloc (SR.call HP0.out hb (SR.lt HP0.out)) (.cells #[.int .i64 c.lv, .int .u8 c.v] 29))
  have HX1 := keepd (SR.alloc (SR.call HX0.out hb (SR.lt HX0.out)) (.cells #[.int .i64 c.lv, .int .u8 c.v] 29))
  have HU1 := keepd (SR.alloc (SR.call HU0.out hb (SR.lt HU0.out)) (.cells #[.int .i64 c.lv, .int .u8 c.v] 29))
  have HB1 := keepd (bAlloc (bCall HB0.out hb) (.cells #[.int .i64 c.lv, .int .u8 c.v] 29))
  have HC1 : Hid (SR 29 (v1.alloc (.cells #[.int .i64 c.lv, .int .u8 c.v] 29)) v1.heap.size (cl c)) := SR.new 29 v1 (cl c)
  clear hb rP kP rX kX HP0 HX0 HU0 HB0 HC
  go_upto_region 2 with fail
  obtain ⟨w1, hw⟩ : ∃ W, v1.alloc (.cells #[.int .i64 c.lv, .int .u8 c.v] 29) = W := ⟨_, rfl⟩
  rw [hw] at HP1 HX1 HU1 HC1 HB1 ⊢
  clear hw
  obtain ⟨bC, hp⟩ : ∃ p, v1.heap.size = p := ⟨_, rfl⟩
  rw [hp] at HC1 ⊢
  clear hp
  obtain ⟨rC, kC, _, _⟩ := SR.clF HC1.out
  obtain ⟨cX0, cX1, cX2, cX3, cX4, cX5⟩ := SR.tr HX1.out
  rcases HE with rfl | ⟨rfl, hc0⟩
  case inr =>
    clear hc0 HS
    go_wp2_with fail
    with_reducible refine (HA.out _).mono ?_
    rintro e w9 ⟨rfl, hb9⟩
    have HB9 := keepd (bCall HB1.out hb9)
    clear hb9
    go_wp2
    go_returns
    exact ⟨rfl, HB9.out⟩
  obtain ⟨l0, l1, l2, l3⟩ := settle_lv HS.out
  obtain ⟨hm, ht, hcase⟩ := settle_ok HS.out
  have hx3 := lv3 ht
  clear HS
  have t1 : decide (c.lv < 0) = false := decide_eq_false (by omega)
  have t2 : decide (c.lv > x.lv) = false := decide_eq_false (by omega)
  have t2' : decide (x.lv < c.lv) = false := decide_eq_false (by omega)
  have t3 : decide (c.lv > 2) = false := decide_eq_false (by omega)
  have t3' : decide (2 < c.lv) = false := decide_eq_false (by omega)
  rcases hcase with ⟨f0, f1, hc⟩ | ⟨hf, hc⟩
  case inr =>
    have z0 : c.lv = 0 := by rw [hc]
    have z1 : c.v = 0 := by rw [hc]
    have t4 : decide (0 > x.lv) = false := decide_eq_false (by omega)
    have t4' : decide (x.lv < 0) = false := decide_eq_false (by omega)
    clear hm ht hc l0 l1 l2 l3 hx3 t1 t2 t2' t3 t3'
    by_cases f0 : x.f < 1
    · have g1 : decide (x.f < 1) = true := decide_eq_true f0
      have g2 : decide (x.f ≥ 1) = false := decide_eq_false (by omega)
      have g3 : decide (1 ≤ x.f) = false := decide_eq_false (by omega)
      clear hf f0
      go_upto_region 4 with fail
      go_quiet (fail)
      have HBq : Hid (Below w.heap.size w (w1.drewN nq)) := bDrewN HB1.out nq
      go_wp2_with fail
      with_reducible refine (HA.out _).mono ?_
      rintro e w9 ⟨rfl, hb9⟩
      have HB9 := keepd (bCall HBq.out hb9)
      clear hb9
      go_wp2
      go_returns
      exact ⟨rfl, HB9.out⟩
    · have g1 : decide (x.f < 1) = false := decide_eq_false f0
      have g2 : decide (x.f ≥ 1) = true := decide_eq_true (by omega)
      have g3 : decide (1 ≤ x.f) = true := decide_eq_true (by omega)
      have g4 : decide (x.f < 31) = false := decide_eq_false (by omega)
      have g5 : decide (x.f ≥ 31) = true := decide_eq_true (by omega)
      have g6 : decide (31 ≤ x.f) = true := decide_eq_true (by omega)
      clear hf f0
      go_upto_region 4 with fail
      go_quiet (fail)
      have HBq : Hid (Below w.heap.size w (w1.drewN nq)) := bDrewN HB1.out nq
      go_wp2_with fail
      with_reducible refine (HA.out _).mono ?_
      rintro e w9 ⟨rfl, hb9⟩
      have HB9 := keepd (bCall HBq.out hb9)
      clear hb9
      go_wp2
      go_returns
      exact ⟨rfl, HB9.out⟩
  obtain ⟨n, hn⟩ : ∃ n : Nat, x.f = n := ⟨x.f.toNat, by omega⟩
  have hn31 : n < 31 := by omega
  have hn0 : 0 < n := by omega
  have i0 : (0 : Int) ≤ (n : Int) := by omega
  have i1 : (n : Int) < 31 := by omega
  have hq := in31 hm ⟨f0, f1⟩
  rw [hn, Int.toNat_natCast] at hq hc
  have hfa := set_facts (p := ⟨x.lv, x.v⟩) hq (lv3 ht)
  rw [← hc] at hfa
  obtain ⟨m0, _, m2, _⟩ := hfa
  have g1 : decide ((n : Int) < 1) = false := decide_eq_false (by omega)
  have g2 : decide ((n : Int) ≥ 1) = true := decide_eq_true (by omega)
  have g3 : decide (1 ≤ (n : Int)) = true := decide_eq_true (by omega)
  have g4 : decide ((n : Int) < 31) = true := decide_eq_true (by omega)
  have g5 : decide ((n : Int) ≥ 31) = false := decide_eq_false (by omega)
  have g6 : decide (31 ≤ (n : Int)) = false := decide_eq_false (by omega)
  have t4 : decide (c.lv > (X n).lv) = false := decide_eq_false (by omega)
  have t4' : decide ((X n).lv < c.lv) = false := decide_eq_false (by omega)
  obtain ⟨d0, d1⟩ := PB.at HP1.out n hn31
  have HM0 := keepd m0
  have HN := keepd hn
  have HN0 := keepd hn0
  clear hm ht f0 f1 hq hc l0 l1 l2 hx3 m0 m2 hn0
  go_upto_region 4 with fail
  go_cut [64] (fun s64 wx => s64 = .bool false ∧ ∃ nq, wx = w1.drewN nq)
  case first =>
    by_cases hz : c.lv = 0
    · have z0 : (c.lv == 0) = true := by simpa using hz
      have z1 : (c.v != 0) = false := by simpa using l3 hz
      have z2 : (c.v == 0) = true := by simpa using l3 hz
      clear hz l3
      go_quiet (fail)
      go_wp2_with fail
      go_meet
      exact ⟨rfl, nq, rfl⟩
    · have z0 : (c.lv == 0) = false := by simpa using hz
      clear hz l3
      go_quiet (fail)
      go_wp2_with fail
      go_meet
      exact ⟨rfl, nq, rfl⟩
  case rest =>
  obtain ⟨rfl, nq, rfl⟩ := hcut
  have HPq : Hid (PB (w1.drewN nq) bP X) := HP1.out
  have HXq : Hid (SR 27 (w1.drewN nq) bX (Tr.cells x)) := HX1.out
  have HUq : Hid (TB (w1.drewN nq) bU U) := HU1.out
  have HCq : Hid (SR 29 (w1.drewN nq) bC (cl c)) := HC1.out
  have HBq : Hid (Below w.heap.size w (w1.drewN nq)) := bDrewN HB1.out nq
  clear HP1 HX1 HU1 HC1 HB1 rC kC cX0 cX1 cX2 cX3 cX4 cX5 d0 d1 t1 t2 t2' t3 t3' t4 t4' l3
  obtain ⟨w2, hw⟩ : ∃ V, w1.drewN nq = V := ⟨_, rfl⟩
  rw [hw] at HPq HXq HUq HCq HBq ⊢
  clear hw
  have HP2 := HPq
  have HX2 := HXq
  have HU2 := HUq
  have HC2 := HCq
  have HB2 := HBq
  clear HPq HXq HUq HCq HBq
  obtain ⟨Y, er, hY⟩ : ∃ Y er, withF U (n : Int) c = (Y, er) := ⟨_, _, rfl⟩
  have HW := keepd (with_any U n c Y er hY)
  have HY := keepd hY
  clear hY
  obtain ⟨rU, kU⟩ := TB.facts HU2.out
  obtain ⟨rC, kC, _, _⟩ := SR.clF HC2.out
  obtain ⟨cX0, cX1, cX2, cX3, cX4, cX5⟩ := SR.tr HX2.out
  go_wp2_with fail
  with_reducible refine (HW.out _).mono ?_
  rintro e v3 ⟨rfl, hb⟩
  have HP3 := keepd (SR.alloc (SR.call HP2.out hb (SR.lt HP2.out)) (.cells (cs Y).toArray 31))
  have HX3 := keepd (SR.alloc (SR.call HX2.out hb (SR.lt HX2.out)) (.cells (cs Y).toArray 31))
  have HU3 := keepd (SR.alloc (SR.call HU2.out hb (SR.lt HU2.out)) (.cells (cs Y).toArray 31))
  have HC3 := keepd (SR.alloc (SR.call HC2.out hb (SR.lt HC2.out)) (.cells (cs Y).toArray 31))
  have HB3 := keepd (bAlloc (bCall HB2.out hb) (.cells (cs Y).toArray 31))
  have HY3 : Hid (SR 31 (v3.alloc (.cells (cs Y).toArray 31)) v3.heap.size (cs Y)) := SR.new 31 v3 (cs Y)
  clear hb rU kU rC kC cX0 cX1 cX2 cX3 cX4 cX5 HP2 HX2 HU2 HC2 HB2 HW g1 g2 g3 g4 g5 g6
  go_upto_region 9 with fail
  obtain ⟨w3, hw⟩ : ∃ W, v3.alloc (.cells (cs Y).toArray 31) = W := ⟨_, rfl⟩
  rw [hw] at HP3 HX3 HU3 HC3 HY3 HB3 ⊢
  clear hw
  obtain ⟨bY, hp⟩ : ∃ p, v3.heap.size = p := ⟨_, rfl⟩
  rw [hp] at HY3 ⊢
  clear hp
  have hn := HN.out
  cases hmU : mayT U
  case false =>
    have he : errT U = 1 := by unfold errT; rw [hmU]; rfl
    have HT := keepd (tcheckE_any U 1 he)
    clear he hmU
    refine wp_region_held_drew (S := SM bU U) (by kernel_rfl) (SM.of HU3.out) (fun hHeld => ?_)
    refine wpAnyH_take (i := 0) (oi := { dst := some 87, op := Op.load 31 (Operand.tmp 5), type := 31, pos := "law.go:60", after := #[], guard := none }) (v := tv U) rfl (by kernel_rfl) (by kernel_rfl) (by kernel_rfl) (fun _ _ _ h => h) (Or.inl ⟨by rfl, fun W hW => ?_⟩) hHeld ?_
    · obtain ⟨q1, q2⟩ := hW
      go_simp
    simp only [Act.put, List.setIfInBounds_toArray, List.set_cons_zero, List.set_cons_succ]
    refine wpAnyH_ready (rs := [1]) (by kernel_rfl) (by simp) ?_
    refine AllReadyH.cons (o := { dst := some 88, op := Op.call { callee := Callee.value (Operand.func 24), args := #[Operand.tmp 87], argTypes := #[31] }, type := 32, pos := "law.go:60", after := #[{ on := 0, ground := Ground.data }], guard := none }) rfl (fun K hK => ?_) AllReadyH.nil
    go_simp
    with_reducible refine (HT.out _).mono ?_
    rintro e w4 ⟨rfl, hb4⟩
    have hb4 : Below w3.heap.size w3 w4 := noDrew hb4
    have HU4 := keepd (SR.call HU3.out hb4 (SR.lt HU3.out))
    have HB4 := keepd (bCall HB3.out hb4)
    clear hb4
    go_wp2_with fail
    refine hK.out _ _ (SM.of HU4.out) (fun hHeld2 => ?_)
    clear hK K hHeld
    have hHeld := hHeld2
    clear hHeld2
    try simp only [Act.put, List.setIfInBounds_toArray, List.set_cons_zero, List.set_cons_succ]
    refine wpAnyH_take (i := 2) (oi := { dst := some 89, op := Op.binOp BinOp.neq 32 (Operand.tmp 88) (Operand.const (Value.int IntKind.i64 0)) 32, type := 4, pos := "law.go:60", after := #[{ on := 1, ground := Ground.data }], guard := none }) (v := .bool true) rfl (by kernel_rfl) (by kernel_rfl) (by kernel_rfl) (fun _ _ _ h => h) (Or.inl ⟨by rfl, fun W hW => ?_⟩) hHeld ?_
    · obtain ⟨q1, q2⟩ := hW
      go_simp
    simp only [Act.put, List.setIfInBounds_toArray, List.set_cons_zero, List.set_cons_succ]
    refine wpAnyH_take (i := 3) (oi := { dst := some 90, op := Op.move (Operand.tmp 89), type := 4, pos := "law.go:60", after := #[{ on := 2, ground := Ground.data }, { on := 1, ground := Ground.chain }], guard := none }) (v := .bool true) rfl (by kernel_rfl) (by kernel_rfl) (by kernel_rfl) (fun _ _ _ h => h) (Or.inl ⟨by rfl, fun W hW => ?_⟩) hHeld ?_
    · obtain ⟨q1, q2⟩ := hW
      go_simp
    simp only [Act.put, List.setIfInBounds_toArray, List.set_cons_zero, List.set_cons_succ]
    refine wpAnyH_take (i := 4) (oi := { dst := some 91, op := Op.move (Operand.tmp 10), type := 32, pos := "law.go:60", after := #[{ on := 3, ground := Ground.guard }], guard := some (3, false) }) (v := undef) rfl (by kernel_rfl) (by kernel_rfl) (by kernel_rfl) (fun _ _ _ h => h) (Or.inr ⟨by rfl, rfl⟩) hHeld ?_
    simp only [Act.put, List.setIfInBounds_toArray, List.set_cons_zero, List.set_cons_succ]
    refine wpAnyH_take (i := 5) (oi := { dst := some 92, op := Op.binOp BinOp.eql 32 (Operand.tmp 91) (Operand.const (Value.int IntKind.i64 0)) 32, type := 4, pos := "law.go:60", after := #[{ on := 4, ground := Ground.data }, { on := 3, ground := Ground.guard }], guard := some (3, false) }) (v := undef) rfl (by kernel_rfl) (by kernel_rfl) (by kernel_rfl) (fun _ _ _ h => h) (Or.inr ⟨by rfl, rfl⟩) hHeld ?_
    simp only [Act.put, List.setIfInBounds_toArray, List.set_cons_zero, List.set_cons_succ]
    refine wpAnyH_take (i := 6) (oi := { dst := some 93, op := Op.move (Operand.tmp 92), type := 4, pos := "law.go:60", after := #[{ on := 5, ground := Ground.data }, { on := 3, ground := Ground.chain }, { on := 3, ground := Ground.guard }], guard := some (3, false) }) (v := undef) rfl (by kernel_rfl) (by kernel_rfl) (by kernel_rfl) (fun _ _ _ h => h) (Or.inr ⟨by rfl, rfl⟩) hHeld ?_
    simp only [Act.put, List.setIfInBounds_toArray, List.set_cons_zero, List.set_cons_succ]
    refine wpAnyH_take (i := 7) (oi := { dst := some 94, op := Op.fieldAddr 27 (Operand.tmp 4) 0, type := 0, pos := "law.go:60", after := #[{ on := 6, ground := Ground.guard }], guard := some (6, true) }) (v := undef) rfl (by kernel_rfl) (by kernel_rfl) (by kernel_rfl) (fun _ _ _ h => h) (Or.inr ⟨by rfl, rfl⟩) hHeld ?_
    simp only [Act.put, List.setIfInBounds_toArray, List.set_cons_zero, List.set_cons_succ]
    refine wpAnyH_take (i := 8) (oi := { dst := some 95, op := Op.load 3 (Operand.tmp 94), type := 3, pos := "law.go:60", after := #[{ on := 7, ground := Ground.data }, { on := 6, ground := Ground.guard }], guard := some (6, true) }) (v := undef) rfl (by kernel_rfl) (by kernel_rfl) (by kernel_rfl) (fun _ _ _ h => h) (Or.inr ⟨by rfl, rfl⟩) hHeld ?_
    simp only [Act.put, List.setIfInBounds_toArray, List.set_cons_zero, List.set_cons_succ]
    refine wpAnyH_take (i := 9) (oi := { dst := some 96, op := Op.indexAddr 31 (Operand.tmp 9) (Operand.tmp 95), type := 0, pos := "law.go:60", after := #[{ on := 8, ground := Ground.data }, { on := 6, ground := Ground.guard }], guard := some (6, true) }) (v := undef) rfl (by kernel_rfl) (by kernel_rfl) (by kernel_rfl) (fun _ _ _ h => h) (Or.inr ⟨by rfl, rfl⟩) hHeld ?_
    simp only [Act.put, List.setIfInBounds_toArray, List.set_cons_zero, List.set_cons_succ]
    refine wpAnyH_take (i := 10) (oi := { dst := some 97, op := Op.load 29 (Operand.tmp 96), type := 29, pos := "law.go:60", after := #[{ on := 9, ground := Ground.data }, { on := 6, ground := Ground.guard }], guard := some (6, true) }) (v := undef) rfl (by kernel_rfl) (by kernel_rfl) (by kernel_rfl) (fun _ _ _ h => h) (Or.inr ⟨by rfl, rfl⟩) hHeld ?_
    simp only [Act.put, List.setIfInBounds_toArray, List.set_cons_zero, List.set_cons_succ]
    refine wpAnyH_take (i := 11) (oi := { dst := some 98, op := Op.load 29 (Operand.tmp 7), type := 29, pos := "law.go:60", after := #[{ on := 6, ground := Ground.guard }], guard := some (6, true) }) (v := undef) rfl (by kernel_rfl) (by kernel_rfl) (by kernel_rfl) (fun _ _ _ h => h) (Or.inr ⟨by rfl, rfl⟩) hHeld ?_
    simp only [Act.put, List.setIfInBounds_toArray, List.set_cons_zero, List.set_cons_succ]
    refine wpAnyH_take (i := 12) (oi := { dst := some 99, op := Op.binOp BinOp.eql 29 (Operand.tmp 97) (Operand.tmp 98) 29, type := 4, pos := "law.go:60", after := #[{ on := 10, ground := Ground.data }, { on := 11, ground := Ground.data }, { on := 6, ground := Ground.guard }], guard := some (6, true) }) (v := undef) rfl (by kernel_rfl) (by kernel_rfl) (by kernel_rfl) (fun _ _ _ h => h) (Or.inr ⟨by rfl, rfl⟩) hHeld ?_
    simp only [Act.put, List.setIfInBounds_toArray, List.set_cons_zero, List.set_cons_succ]
    refine wpAnyH_take (i := 13) (oi := { dst := some 100, op := Op.pick (Operand.tmp 93) (Operand.tmp 99) (Operand.const (Value.bool false)), type := 4, pos := "law.go:60", after := #[{ on := 6, ground := Ground.data }, { on := 12, ground := Ground.data }, { on := 3, ground := Ground.guard }], guard := some (3, false) }) (v := undef) rfl (by kernel_rfl) (by kernel_rfl) (by kernel_rfl) (fun _ _ _ h => h) (Or.inr ⟨by rfl, rfl⟩) hHeld ?_
    simp only [Act.put, List.setIfInBounds_toArray, List.set_cons_zero, List.set_cons_succ]
    refine wpAnyH_take (i := 14) (oi := { dst := some 101, op := Op.pick (Operand.tmp 90) (Operand.const (Value.bool true)) (Operand.tmp 100), type := 4, pos := "law.go:60", after := #[{ on := 3, ground := Ground.data }, { on := 13, ground := Ground.data }], guard := none }) (v := .bool true) rfl (by kernel_rfl) (by kernel_rfl) (by kernel_rfl) (fun _ _ _ h => h) (Or.inl ⟨by rfl, fun W hW => ?_⟩) hHeld ?_
    · obtain ⟨q1, q2⟩ := hW
      go_simp
    simp only [Act.put, List.setIfInBounds_toArray, List.set_cons_zero, List.set_cons_succ]
    refine wpAnyH_take (i := 15) (oi := { dst := some 102, op := Op.move (Operand.tmp 101), type := 4, pos := "law.go:60", after := #[{ on := 14, ground := Ground.data }, { on := 6, ground := Ground.chain }], guard := none }) (v := .bool true) rfl (by kernel_rfl) (by kernel_rfl) (by kernel_rfl) (fun _ _ _ h => h) (Or.inl ⟨by rfl, fun W hW => ?_⟩) hHeld ?_
    · obtain ⟨q1, q2⟩ := hW
      go_simp
    simp only [Act.put, List.setIfInBounds_toArray, List.set_cons_zero, List.set_cons_succ]
    refine wpAnyH_ready (rs := [16]) (by kernel_rfl) (by simp) ?_
    refine AllReadyH.cons (o := { dst := some 103, op := Op.call { callee := Callee.value (Operand.func 20), args := #[], argTypes := #[] }, type := 4, pos := "law.go:60", after := #[{ on := 15, ground := Ground.chain }, { on := 15, ground := Ground.guard }], guard := some (15, true) }) rfl (fun K hK => ?_) AllReadyH.nil
    go_simp
    with_reducible refine (HA.out _).mono ?_
    rintro e w5 ⟨rfl, hb5⟩
    have HU5 := keepd (SR.call HU4.out hb5 (SR.lt HU4.out))
    have HB5 := keepd (bCall HB4.out hb5)
    clear hb5
    go_wp2_with fail
    refine hK.out _ _ (SM.of HU5.out) (fun hHeld2 => ?_)
    clear hK K hHeld
    have hHeld := hHeld2
    clear hHeld2
    try simp only [Act.put, List.setIfInBounds_toArray, List.set_cons_zero, List.set_cons_succ]
    refine wpAnyH_take (i := 17) (oi := { dst := some 104, op := Op.pick (Operand.tmp 102) (Operand.tmp 103) (Operand.const (Value.bool false)), type := 4, pos := "law.go:60", after := #[{ on := 15, ground := Ground.data }, { on := 16, ground := Ground.data }], guard := none }) (v := .bool true) rfl (by kernel_rfl) (by kernel_rfl) (by kernel_rfl) (fun _ _ _ h => h) (Or.inl ⟨by rfl, fun W hW => ?_⟩) hHeld ?_
    · obtain ⟨q1, q2⟩ := hW
      go_simp
    simp only [Act.put, List.setIfInBounds_toArray, List.set_cons_zero, List.set_cons_succ]
    refine wpAnyH_take (i := 18) (oi := { dst := some 6, op := Op.assign (Operand.tmp 104), type := 4, pos := "law.go:60", after := #[{ on := 17, ground := Ground.data }, { on := 16, ground := Ground.chain }, { on := 0, ground := Ground.phase }, { on := 1, ground := Ground.phase }, { on := 2, ground := Ground.phase }, { on := 3, ground := Ground.phase }, { on := 4, ground := Ground.phase }, { on := 5, ground := Ground.phase }, { on := 6, ground := Ground.phase }, { on := 7, ground := Ground.phase }, { on := 8, ground := Ground.phase }, { on := 9, ground := Ground.phase }, { on := 10, ground := Ground.phase }, { on := 11, ground := Ground.phase }, { on := 12, ground := Ground.phase }, { on := 13, ground := Ground.phase }, { on := 14, ground := Ground.phase }, { on := 15, ground := Ground.phase }, { on := 16, ground := Ground.phase }, { on := 17, ground := Ground.phase }], guard := none }) (v := .bool true) rfl (by kernel_rfl) (by kernel_rfl) (by kernel_rfl) (fun _ _ _ h => h) (Or.inl ⟨by rfl, fun W hW => ?_⟩) hHeld ?_
    · obtain ⟨q1, q2⟩ := hW
      go_simp
    simp only [Act.put, List.setIfInBounds_toArray, List.set_cons_zero, List.set_cons_succ]
    refine wpAnyH_done (by kernel_rfl) ?_ _
    go_wp2_with fail
    go_returns
    exact ⟨rfl, HB5.out⟩
  have he : errT U = 0 := by unfold errT; rw [hmU]; rfl
  have HT := keepd (tcheckE_any U 0 he)
  have hYe := HY.out
  rw [with_in hmU HN0.out hn31 HM0.out] at hYe
  obtain ⟨hYt, rfl⟩ : tset U n c = Y ∧ er = 0 := by
    simp only [Prod.mk.injEq] at hYe
    exact ⟨hYe.1, hYe.2.symm⟩
  have HYn : Hid (Y n = c) := by show _ = _; rw [← hYt, tset_at]
  clear he hmU hYe hYt HY
  refine wp_region_held_drew (S := SL bU bX bY bC n U c) (by kernel_rfl) (SL.of HU3.out HX3.out HY3.out HC3.out hn31 HN.out HYn.out) (fun hHeld => ?_)
  refine wpAnyH_take (i := 0) (oi := { dst := some 87, op := Op.load 31 (Operand.tmp 5), type := 31, pos := "law.go:60", after := #[], guard := none }) (v := tv U) rfl (by kernel_rfl) (by kernel_rfl) (by kernel_rfl) (fun _ _ _ h => h) (Or.inl ⟨by rfl, fun W hW => ?_⟩) hHeld ?_
  · obtain ⟨q1, q2, q3, q4, q5, q6, q7⟩ := hW
    go_simp
  simp only [Act.put, List.setIfInBounds_toArray, List.set_cons_zero, List.set_cons_succ]
  refine wpAnyH_ready (rs := [1]) (by kernel_rfl) (by simp) ?_
  refine AllReadyH.cons (o := { dst := some 88, op := Op.call { callee := Callee.value (Operand.func 24), args := #[Operand.tmp 87], argTypes := #[31] }, type := 32, pos := "law.go:60", after := #[{ on := 0, ground := Ground.data }], guard := none }) rfl (fun K hK => ?_) AllReadyH.nil
  go_simp
  with_reducible refine (HT.out _).mono ?_
  rintro e w4 ⟨rfl, hb4⟩
  have hb4 : Below w3.heap.size w3 w4 := noDrew hb4
  have HU4 := keepd (SR.call HU3.out hb4 (SR.lt HU3.out))
  have HX4 := keepd (SR.call HX3.out hb4 (SR.lt HX3.out))
  have HY4 := keepd (SR.call HY3.out hb4 (SR.lt HY3.out))
  have HC4 := keepd (SR.call HC3.out hb4 (SR.lt HC3.out))
  have HB4 := keepd (bCall HB3.out hb4)
  clear hb4
  go_wp2_with fail
  refine hK.out _ _ (SL.of HU4.out HX4.out HY4.out HC4.out hn31 HN.out HYn.out) (fun hHeld2 => ?_)
  clear hK K hHeld
  have hHeld := hHeld2
  clear hHeld2
  try simp only [Act.put, List.setIfInBounds_toArray, List.set_cons_zero, List.set_cons_succ]
  refine wpAnyH_take (i := 2) (oi := { dst := some 89, op := Op.binOp BinOp.neq 32 (Operand.tmp 88) (Operand.const (Value.int IntKind.i64 0)) 32, type := 4, pos := "law.go:60", after := #[{ on := 1, ground := Ground.data }], guard := none }) (v := .bool false) rfl (by kernel_rfl) (by kernel_rfl) (by kernel_rfl) (fun _ _ _ h => h) (Or.inl ⟨by rfl, fun W hW => ?_⟩) hHeld ?_
  · obtain ⟨q1, q2, q3, q4, q5, q6, q7⟩ := hW
    go_simp
  simp only [Act.put, List.setIfInBounds_toArray, List.set_cons_zero, List.set_cons_succ]
  refine wpAnyH_take (i := 3) (oi := { dst := some 90, op := Op.move (Operand.tmp 89), type := 4, pos := "law.go:60", after := #[{ on := 2, ground := Ground.data }, { on := 1, ground := Ground.chain }], guard := none }) (v := .bool false) rfl (by kernel_rfl) (by kernel_rfl) (by kernel_rfl) (fun _ _ _ h => h) (Or.inl ⟨by rfl, fun W hW => ?_⟩) hHeld ?_
  · obtain ⟨q1, q2, q3, q4, q5, q6, q7⟩ := hW
    go_simp
  simp only [Act.put, List.setIfInBounds_toArray, List.set_cons_zero, List.set_cons_succ]
  refine wpAnyH_take (i := 4) (oi := { dst := some 91, op := Op.move (Operand.tmp 10), type := 32, pos := "law.go:60", after := #[{ on := 3, ground := Ground.guard }], guard := some (3, false) }) (v := .int .i64 0) rfl (by kernel_rfl) (by kernel_rfl) (by kernel_rfl) (fun _ _ _ h => h) (Or.inl ⟨by rfl, fun W hW => ?_⟩) hHeld ?_
  · obtain ⟨q1, q2, q3, q4, q5, q6, q7⟩ := hW
    go_simp
  simp only [Act.put, List.setIfInBounds_toArray, List.set_cons_zero, List.set_cons_succ]
  refine wpAnyH_take (i := 5) (oi := { dst := some 92, op := Op.binOp BinOp.eql 32 (Operand.tmp 91) (Operand.const (Value.int IntKind.i64 0)) 32, type := 4, pos := "law.go:60", after := #[{ on := 4, ground := Ground.data }, { on := 3, ground := Ground.guard }], guard := some (3, false) }) (v := .bool true) rfl (by kernel_rfl) (by kernel_rfl) (by kernel_rfl) (fun _ _ _ h => h) (Or.inl ⟨by rfl, fun W hW => ?_⟩) hHeld ?_
  · obtain ⟨q1, q2, q3, q4, q5, q6, q7⟩ := hW
    go_simp
  simp only [Act.put, List.setIfInBounds_toArray, List.set_cons_zero, List.set_cons_succ]
  refine wpAnyH_take (i := 6) (oi := { dst := some 93, op := Op.move (Operand.tmp 92), type := 4, pos := "law.go:60", after := #[{ on := 5, ground := Ground.data }, { on := 3, ground := Ground.chain }, { on := 3, ground := Ground.guard }], guard := some (3, false) }) (v := .bool true) rfl (by kernel_rfl) (by kernel_rfl) (by kernel_rfl) (fun _ _ _ h => h) (Or.inl ⟨by rfl, fun W hW => ?_⟩) hHeld ?_
  · obtain ⟨q1, q2, q3, q4, q5, q6, q7⟩ := hW
    go_simp
  simp only [Act.put, List.setIfInBounds_toArray, List.set_cons_zero, List.set_cons_succ]
  refine wpAnyH_take (i := 7) (oi := { dst := some 94, op := Op.fieldAddr 27 (Operand.tmp 4) 0, type := 0, pos := "law.go:60", after := #[{ on := 6, ground := Ground.guard }], guard := some (6, true) }) (v := .pointer (some ⟨bX, 0, none⟩)) rfl (by kernel_rfl) (by kernel_rfl) (by kernel_rfl) (fun _ _ _ h => h) (Or.inl ⟨by rfl, fun W hW => ?_⟩) hHeld ?_
  · obtain ⟨q1, q2, q3, q4, q5, q6, q7⟩ := hW
    go_simp
  simp only [Act.put, List.setIfInBounds_toArray, List.set_cons_zero, List.set_cons_succ]
  refine wpAnyH_take (i := 8) (oi := { dst := some 95, op := Op.load 3 (Operand.tmp 94), type := 3, pos := "law.go:60", after := #[{ on := 7, ground := Ground.data }, { on := 6, ground := Ground.guard }], guard := some (6, true) }) (v := .int .i64 (n : Int)) rfl (by kernel_rfl) (by kernel_rfl) (by kernel_rfl) (fun _ _ _ h => h) (Or.inl ⟨by rfl, fun W hW => ?_⟩) hHeld ?_
  · obtain ⟨q1, q2, q3, q4, q5, q6, q7⟩ := hW
    go_simp
  simp only [Act.put, List.setIfInBounds_toArray, List.set_cons_zero, List.set_cons_succ]
  refine wpAnyH_take (i := 9) (oi := { dst := some 96, op := Op.indexAddr 31 (Operand.tmp 9) (Operand.tmp 95), type := 0, pos := "law.go:60", after := #[{ on := 8, ground := Ground.data }, { on := 6, ground := Ground.guard }], guard := some (6, true) }) (v := .pointer (some ⟨bY, n * 2, none⟩)) rfl (by kernel_rfl) (by kernel_rfl) (by kernel_rfl) (fun _ _ _ h => h) (Or.inl ⟨by rfl, fun W hW => ?_⟩) hHeld ?_
  · obtain ⟨q1, q2, q3, q4, q5, q6, q7⟩ := hW
    go_simp
  simp only [Act.put, List.setIfInBounds_toArray, List.set_cons_zero, List.set_cons_succ]
  refine wpAnyH_take (i := 10) (oi := { dst := some 97, op := Op.load 29 (Operand.tmp 96), type := 29, pos := "law.go:60", after := #[{ on := 9, ground := Ground.data }, { on := 6, ground := Ground.guard }], guard := some (6, true) }) (v := cv c) rfl (by kernel_rfl) (by kernel_rfl) (by kernel_rfl) (fun _ _ _ h => h) (Or.inl ⟨by rfl, fun W hW => ?_⟩) hHeld ?_
  · obtain ⟨q1, q2, q3, q4, q5, q6, q7⟩ := hW
    go_simp
  simp only [Act.put, List.setIfInBounds_toArray, List.set_cons_zero, List.set_cons_succ]
  refine wpAnyH_take (i := 11) (oi := { dst := some 98, op := Op.load 29 (Operand.tmp 7), type := 29, pos := "law.go:60", after := #[{ on := 6, ground := Ground.guard }], guard := some (6, true) }) (v := cv c) rfl (by kernel_rfl) (by kernel_rfl) (by kernel_rfl) (fun _ _ _ h => h) (Or.inl ⟨by rfl, fun W hW => ?_⟩) hHeld ?_
  · obtain ⟨q1, q2, q3, q4, q5, q6, q7⟩ := hW
    go_simp
  simp only [Act.put, List.setIfInBounds_toArray, List.set_cons_zero, List.set_cons_succ]
  refine wpAnyH_take (i := 12) (oi := { dst := some 99, op := Op.binOp BinOp.eql 29 (Operand.tmp 97) (Operand.tmp 98) 29, type := 4, pos := "law.go:60", after := #[{ on := 10, ground := Ground.data }, { on := 11, ground := Ground.data }, { on := 6, ground := Ground.guard }], guard := some (6, true) }) (v := .bool true) rfl (by kernel_rfl) (by kernel_rfl) (by kernel_rfl) (fun _ _ _ h => h) (Or.inl ⟨by rfl, fun W hW => ?_⟩) hHeld ?_
  · obtain ⟨q1, q2, q3, q4, q5, q6, q7⟩ := hW
    go_simp
  simp only [Act.put, List.setIfInBounds_toArray, List.set_cons_zero, List.set_cons_succ]
  refine wpAnyH_take (i := 13) (oi := { dst := some 100, op := Op.pick (Operand.tmp 93) (Operand.tmp 99) (Operand.const (Value.bool false)), type := 4, pos := "law.go:60", after := #[{ on := 6, ground := Ground.data }, { on := 12, ground := Ground.data }, { on := 3, ground := Ground.guard }], guard := some (3, false) }) (v := .bool true) rfl (by kernel_rfl) (by kernel_rfl) (by kernel_rfl) (fun _ _ _ h => h) (Or.inl ⟨by rfl, fun W hW => ?_⟩) hHeld ?_
  · obtain ⟨q1, q2, q3, q4, q5, q6, q7⟩ := hW
    go_simp
  simp only [Act.put, List.setIfInBounds_toArray, List.set_cons_zero, List.set_cons_succ]
  refine wpAnyH_take (i := 14) (oi := { dst := some 101, op := Op.pick (Operand.tmp 90) (Operand.const (Value.bool true)) (Operand.tmp 100), type := 4, pos := "law.go:60", after := #[{ on := 3, ground := Ground.data }, { on := 13, ground := Ground.data }], guard := none }) (v := .bool true) rfl (by kernel_rfl) (by kernel_rfl) (by kernel_rfl) (fun _ _ _ h => h) (Or.inl ⟨by rfl, fun W hW => ?_⟩) hHeld ?_
  · obtain ⟨q1, q2, q3, q4, q5, q6, q7⟩ := hW
    go_simp
  simp only [Act.put, List.setIfInBounds_toArray, List.set_cons_zero, List.set_cons_succ]
  refine wpAnyH_take (i := 15) (oi := { dst := some 102, op := Op.move (Operand.tmp 101), type := 4, pos := "law.go:60", after := #[{ on := 14, ground := Ground.data }, { on := 6, ground := Ground.chain }], guard := none }) (v := .bool true) rfl (by kernel_rfl) (by kernel_rfl) (by kernel_rfl) (fun _ _ _ h => h) (Or.inl ⟨by rfl, fun W hW => ?_⟩) hHeld ?_
  · obtain ⟨q1, q2, q3, q4, q5, q6, q7⟩ := hW
    go_simp
  simp only [Act.put, List.setIfInBounds_toArray, List.set_cons_zero, List.set_cons_succ]
  refine wpAnyH_ready (rs := [16]) (by kernel_rfl) (by simp) ?_
  refine AllReadyH.cons (o := { dst := some 103, op := Op.call { callee := Callee.value (Operand.func 20), args := #[], argTypes := #[] }, type := 4, pos := "law.go:60", after := #[{ on := 15, ground := Ground.chain }, { on := 15, ground := Ground.guard }], guard := some (15, true) }) rfl (fun K hK => ?_) AllReadyH.nil
  go_simp
  with_reducible refine (HA.out _).mono ?_
  rintro e w5 ⟨rfl, hb5⟩
  have HU5 := keepd (SR.call HU4.out hb5 (SR.lt HU4.out))
  have HX5 := keepd (SR.call HX4.out hb5 (SR.lt HX4.out))
  have HY5 := keepd (SR.call HY4.out hb5 (SR.lt HY4.out))
  have HC5 := keepd (SR.call HC4.out hb5 (SR.lt HC4.out))
  have HB5 := keepd (bCall HB4.out hb5)
  clear hb5
  go_wp2_with fail
  refine hK.out _ _ (SL.of HU5.out HX5.out HY5.out HC5.out hn31 HN.out HYn.out) (fun hHeld2 => ?_)
  clear hK K hHeld
  have hHeld := hHeld2
  clear hHeld2
  try simp only [Act.put, List.setIfInBounds_toArray, List.set_cons_zero, List.set_cons_succ]
  refine wpAnyH_take (i := 17) (oi := { dst := some 104, op := Op.pick (Operand.tmp 102) (Operand.tmp 103) (Operand.const (Value.bool false)), type := 4, pos := "law.go:60", after := #[{ on := 15, ground := Ground.data }, { on := 16, ground := Ground.data }], guard := none }) (v := .bool true) rfl (by kernel_rfl) (by kernel_rfl) (by kernel_rfl) (fun _ _ _ h => h) (Or.inl ⟨by rfl, fun W hW => ?_⟩) hHeld ?_
  · obtain ⟨q1, q2, q3, q4, q5, q6, q7⟩ := hW
    go_simp
  simp only [Act.put, List.setIfInBounds_toArray, List.set_cons_zero, List.set_cons_succ]
  refine wpAnyH_take (i := 18) (oi := { dst := some 6, op := Op.assign (Operand.tmp 104), type := 4, pos := "law.go:60", after := #[{ on := 17, ground := Ground.data }, { on := 16, ground := Ground.chain }, { on := 0, ground := Ground.phase }, { on := 1, ground := Ground.phase }, { on := 2, ground := Ground.phase }, { on := 3, ground := Ground.phase }, { on := 4, ground := Ground.phase }, { on := 5, ground := Ground.phase }, { on := 6, ground := Ground.phase }, { on := 7, ground := Ground.phase }, { on := 8, ground := Ground.phase }, { on := 9, ground := Ground.phase }, { on := 10, ground := Ground.phase }, { on := 11, ground := Ground.phase }, { on := 12, ground := Ground.phase }, { on := 13, ground := Ground.phase }, { on := 14, ground := Ground.phase }, { on := 15, ground := Ground.phase }, { on := 16, ground := Ground.phase }, { on := 17, ground := Ground.phase }], guard := none }) (v := .bool true) rfl (by kernel_rfl) (by kernel_rfl) (by kernel_rfl) (fun _ _ _ h => h) (Or.inl ⟨by rfl, fun W hW => ?_⟩) hHeld ?_
  · obtain ⟨q1, q2, q3, q4, q5, q6, q7⟩ := hW
    go_simp
  simp only [Act.put, List.setIfInBounds_toArray, List.set_cons_zero, List.set_cons_succ]
  refine wpAnyH_done (by kernel_rfl) ?_ _
  go_wp2_with fail
  go_returns
  exact ⟨rfl, HB5.out⟩

end Go.Proofs.Ytjchkpnfdamgnaa
