/-
  The law AgreeTells, where prefs may be, and the triple may be. No conditions beyond those each theorem states.
-/
import Derived.Test.YtjchkpnfdamgnaaL5
namespace Go.Proofs.Ytjchkpnfdamgnaa
open Go.RowKit
set_option maxRecDepth 100000

attribute [local go_sem ↓] ex_ld31 ex_st31 ex_al31 ex_bu31 ex_ix31 ex_eq31 ex_ne31 ex_eq29 ex_ne29 ex_ld25 ex_st25 ex_al25 ex_bu25 ex_ix25 ex_ld27 ex_st27 ex_eq27 ex_ne27
attribute [local go_sem] ptrB_at okPtr_at aggC_at agg62 isC_at isT_at eqV_t eqV_c isRow_new isRow_newp World.setRow_alloc_new agg6 isRow_new6 isV_at eqV_v


set_option maxHeartbeats 8000000 in
theorem tells_c (X : Tb) (x : Tr) (U : Tb) (hm : mayT X = true) (ht : mayTr x.f x.lv = true) (w : World) : Calls Try.prog 3 #[tv X, vt x, tv U] w fun e w' => e = .returned (.bool true) ∧ Below w.heap.size w w' := by
  have HA := keepd awake_any
  obtain ⟨c, hs⟩ : ∃ c : Cl, settleF X x = (c, 0) := by
    unfold settleF
    rw [if_pos hm, if_pos ht]
    by_cases h : 0 < x.f ∧ x.f < 31
    · exact ⟨_, by rw [if_pos h]⟩
    · exact ⟨_, by rw [if_neg h]⟩
  obtain ⟨y, hy⟩ : ∃ y : Tr, y = ⟨x.f, c.lv, true, x.i, x.o, c.v⟩ := ⟨_, rfl⟩
  obtain ⟨F, hF⟩ : ∃ F : Tb, F = X := ⟨_, rfl⟩
  have ha : answerF X x = (y, 0) := by rw [hy]; exact answer_of hs
  have hf : firstF X = (F, 0) := by unfold firstF; rw [hm, hF]; rfl
  have he : errT X = 0 := by unfold errT; rw [hm]; rfl
  have HMt := keepd (refMayTr_any x.f x.lv x.a x.i x.o x.v true ht)
  have HRF := keepd (refFirst_any X hm)
  have HRS := keepd (refSettle_any X x c hs)
  have hra := refAnswer_any X x c hs
  rw [← hy] at hra
  have HRA := keepd hra
  clear hra
  have HCs := keepd (settle_any X x c 0 hs)
  have HAn := keepd (answer_any X x y 0 ha)
  have HFi := keepd (first_any X F 0 hf)
  have HCk := keepd (check_any X 0 he)
  have HMp := keepd (refMayP_any X true hm)
  have HFe := keepd hF
  obtain ⟨L, eh, hw⟩ : ∃ L e, wholeF U = (L, e) := ⟨_, _, rfl⟩
  obtain ⟨n, hn⟩ : ∃ n, L.length = n := ⟨_, rfl⟩
  have HWh := keepd (whole_any U L n eh hw hn)
  have HWe := keepd hw
  have HLn := keepd hn
  clear hm hs ha hf he hF hw hn hy ht
  go_enter Try.func3, Try.ntmps3
  go_upto_region 1 with fail
  obtain ⟨W, hW⟩ : ∃ W, (((w.alloc (.cells (cs X).toArray 25)).alloc (.cells #[.int .i64 x.f, .int .i64 x.lv, .bool x.a, .bool x.i, .bool x.o, .int .u8 x.v] 27)).alloc (.cells (cs U).toArray 31)) = W := ⟨_, rfl⟩
  obtain ⟨gP, gX, gU, gB⟩ : SR 25 W (w.heap.size) (cs X) ∧ SR 27 W (w.heap.size + 1) (Tr.cells x) ∧ SR 31 W (w.heap.size + 1 + 1) (cs U) ∧ Below w.heap.size w W := by
    subst hW
    exact ⟨(SR.alloc (SR.alloc (SR.new 25 w (cs X)) _) _), (SR.alloc (show SR 27 _ _ (Tr.cells x) from heap_alloc2_new w _ _) _), (show SR 31 _ _ (cs U) from n4 w _ _ _), (bAlloc (bAlloc (bAlloc (Below.refl _ _) _) _) _)⟩
  rw [hW]
  clear hW
  obtain ⟨bU, hp⟩ : ∃ b, w.heap.size + 1 + 1 = b := ⟨_, rfl⟩
  rw [hp] at gU ⊢
  clear hp
  obtain ⟨bX, hp⟩ : ∃ b, w.heap.size + 1 = b := ⟨_, rfl⟩
  rw [hp] at gX ⊢
  clear hp
  obtain ⟨bP, hp⟩ : ∃ b, w.heap.size = b := ⟨_, rfl⟩
  rw [hp] at gP ⊢
  clear hp
  have HP0 := keepd gP
  have HX0 := keepd gX
  have HU0 := keepd gU
  have HB0 := keepd gB
  clear gP gX gU gB
  obtain ⟨rP, kP⟩ := PB.facts HP0.out
  obtain ⟨rX, kX⟩ := SR.trF HX0.out
  go_wp2_with fail
  with_reducible refine (HCs.out _).mono ?_
  rintro e v1 ⟨rfl, hb⟩
  have HP1 := keepd (SR.alloc (SR.call HP0.out hb (SR.lt HP0.out)) (.cells #[.int .i64 c.lv, .int .u8 c.v] 29))
  have HX1 := keepd (SR.alloc (SR.call HX0.out hb (SR.lt HX0.out)) (.cells #[.int .i64 c.lv, .int .u8 c.v] 29))
  have HU1 := keepd (SR.alloc (SR.call HU0.out hb (SR.lt HU0.out)) (.cells #[.int .i64 c.lv, .int .u8 c.v] 29))
  have HB1 := keepd (bAlloc (bCall HB0.out hb) (.cells #[.int .i64 c.lv, .int .u8 c.v] 29))
  have HC1 : Hid (SR 29 (v1.alloc (.cells #[.int .i64 c.lv, .int .u8 c.v] 29)) v1.heap.size (cl c)) := SR.new 29 v1 (cl c)
  clear hb rP kP rX kX HP0 HX0 HU0 HB0 HCs
  go_upto_region 2 with fail
  obtain ⟨w1, hw⟩ : ∃ W, v1.alloc (.cells #[.int .i64 c.lv, .int .u8 c.v] 29) = W := ⟨_, rfl⟩
  rw [hw] at HP1 HX1 HU1 HC1 HB1 ⊢
  clear hw
  obtain ⟨bC, hp⟩ : ∃ p, v1.heap.size = p := ⟨_, rfl⟩
  rw [hp] at HC1 ⊢
  clear hp
  obtain ⟨rP, kP⟩ := PB.facts HP1.out
  obtain ⟨rX, kX⟩ := SR.trF HX1.out
  go_wp2_with fail
  with_reducible refine (HAn.out _).mono ?_
  rintro e v2 ⟨rfl, hb⟩
  have HP2 := keepd (SR.alloc (SR.call HP1.out hb (SR.lt HP1.out)) (.cells #[.int .i64 y.f, .int .i64 y.lv, .bool y.a, .bool y.i, .bool y.o, .int .u8 y.v] 27))
  have HX2 := keepd (SR.alloc (SR.call HX1.out hb (SR.lt HX1.out)) (.cells #[.int .i64 y.f, .int .i64 y.lv, .bool y.a, .bool y.i, .bool y.o, .int .u8 y.v] 27))
  have HU2 := keepd (SR.alloc (SR.call HU1.out hb (SR.lt HU1.out)) (.cells #[.int .i64 y.f, .int .i64 y.lv, .bool y.a, .bool y.i, .bool y.o, .int .u8 y.v] 27))
  have HC2 := keepd (SR.alloc (SR.call HC1.out hb (SR.lt HC1.out)) (.cells #[.int .i64 y.f, .int .i64 y.lv, .bool y.a, .bool y.i, .bool y.o, .int .u8 y.v] 27))
  have HB2 := keepd (bAlloc (bCall HB1.out hb) (.cells #[.int .i64 y.f, .int .i64 y.lv, .bool y.a, .bool y.i, .bool y.o, .int .u8 y.v] 27))
  have HY2 : Hid (SR 27 (v2.alloc (.cells #[.int .i64 y.f, .int .i64 y.lv, .bool y.a, .bool y.i, .bool y.o, .int .u8 y.v] 27)) v2.heap.size (Tr.cells y)) := SR.new 27 v2 (Tr.cells y)
  clear hb rP kP rX kX HP1 HX1 HU1 HC1 HB1 HAn
  go_upto_region 3 with fail
  obtain ⟨w2, hw⟩ : ∃ W, v2.alloc (.cells #[.int .i64 y.f, .int .i64 y.lv, .bool y.a, .bool y.i, .bool y.o, .int .u8 y.v] 27) = W := ⟨_, rfl⟩
  rw [hw] at HP2 HX2 HU2 HC2 HY2 HB2 ⊢
  clear hw
  obtain ⟨bY, hp⟩ : ∃ p, v2.heap.size = p := ⟨_, rfl⟩
  rw [hp] at HY2 ⊢
  clear hp
  obtain ⟨rP, kP⟩ := PB.facts HP2.out
  go_wp2_with fail
  with_reducible refine (HFi.out _).mono ?_
  rintro e v3 ⟨rfl, hb⟩
  have HP3 := keepd (SR.alloc (SR.call HP2.out hb (SR.lt HP2.out)) (.cells (cs F).toArray 31))
  have HX3 := keepd (SR.alloc (SR.call HX2.out hb (SR.lt HX2.out)) (.cells (cs F).toArray 31))
  have HU3 := keepd (SR.alloc (SR.call HU2.out hb (SR.lt HU2.out)) (.cells (cs F).toArray 31))
  have HC3 := keepd (SR.alloc (SR.call HC2.out hb (SR.lt HC2.out)) (.cells (cs F).toArray 31))
  have HY3 := keepd (SR.alloc (SR.call HY2.out hb (SR.lt HY2.out)) (.cells (cs F).toArray 31))
  have HB3 := keepd (bAlloc (bCall HB2.out hb) (.cells (cs F).toArray 31))
  have HF3 : Hid (SR 31 (v3.alloc (.cells (cs F).toArray 31)) v3.heap.size (cs F)) := SR.new 31 v3 (cs F)
  clear hb rP kP HP2 HX2 HU2 HC2 HY2 HB2 HFi
  go_upto_region 4 with fail
  obtain ⟨w3, hw⟩ : ∃ W, v3.alloc (.cells (cs F).toArray 31) = W := ⟨_, rfl⟩
  rw [hw] at HP3 HX3 HU3 HC3 HY3 HF3 HB3 ⊢
  clear hw
  obtain ⟨bF, hp⟩ : ∃ p, v3.heap.size = p := ⟨_, rfl⟩
  rw [hp] at HF3 ⊢
  clear hp
  obtain ⟨rU, kU⟩ := TB.facts HU3.out
  go_wp2_with fail
  with_reducible refine (HWh.out _).mono ?_
  rintro e w4 ⟨A, cc, rfl, hr, hb⟩
  have HR4 := keepd hr
  have HP4 := keepd (SR.call HP3.out hb (SR.lt HP3.out))
  have HX4 := keepd (SR.call HX3.out hb (SR.lt HX3.out))
  have HU4 := keepd (SR.call HU3.out hb (SR.lt HU3.out))
  have HC4 := keepd (SR.call HC3.out hb (SR.lt HC3.out))
  have HY4 := keepd (SR.call HY3.out hb (SR.lt HY3.out))
  have HF4 := keepd (SR.call HF3.out hb (SR.lt HF3.out))
  have HB4 := keepd (bCall HB3.out hb)
  clear hb hr rU kU HWh HP3 HX3 HU3 HC3 HY3 HF3 HB3
  go_upto_region 5 with fail
  refine wp_region_held_drew (S := ST bP bX bC bY bF X x c y F) (by kernel_rfl) (ST.of HP4.out HX4.out HC4.out HY4.out HF4.out) (fun hHeld => ?_)
  refine wpAnyH_take (i := 0) (oi := { dst := some 37, op := Op.load 25 (Operand.tmp 3), type := 25, pos := "law.go:28", after := #[], guard := none }) (v := tv X) rfl (by kernel_rfl) (by kernel_rfl) (by kernel_rfl) (fun _ _ _ h => h) (Or.inl ⟨by rfl, fun W hW => ?_⟩) hHeld ?_
  · obtain ⟨q1, q2, q3, q4, q5, q6, q7, q8, q9, q10⟩ := hW
    go_simp
  simp only [Act.put, List.setIfInBounds_toArray, List.set_cons_zero, List.set_cons_succ]
  refine wpAnyH_take (i := 3) (oi := { dst := some 40, op := Op.load 25 (Operand.tmp 3), type := 25, pos := "law.go:28", after := #[], guard := none }) (v := tv X) rfl (by kernel_rfl) (by kernel_rfl) (by kernel_rfl) (fun _ _ _ h => h) (Or.inl ⟨by rfl, fun W hW => ?_⟩) hHeld ?_
  · obtain ⟨q1, q2, q3, q4, q5, q6, q7, q8, q9, q10⟩ := hW
    go_simp
  simp only [Act.put, List.setIfInBounds_toArray, List.set_cons_zero, List.set_cons_succ]
  refine wpAnyH_ready (rs := [1]) (by kernel_rfl) (by simp) ?_
  refine AllReadyH.cons (o := { dst := some 38, op := Op.call { callee := Callee.value (Operand.func 13), args := #[Operand.tmp 37], argTypes := #[25] }, type := 32, pos := "law.go:28", after := #[{ on := 0, ground := Ground.data }], guard := none }) rfl (fun K hK => ?_) AllReadyH.nil
  go_simp
  with_reducible refine (HCk.out _).mono ?_
  rintro e w5 ⟨rfl, hb5⟩
  have hb5 : Below w4.heap.size w4 w5 := noDrew hb5
  have HP5 := keepd (SR.call HP4.out hb5 (SR.lt HP4.out))
  have HX5 := keepd (SR.call HX4.out hb5 (SR.lt HX4.out))
  have HU5 := keepd (SR.call HU4.out hb5 (SR.lt HU4.out))
  have HC5 := keepd (SR.call HC4.out hb5 (SR.lt HC4.out))
  have HY5 := keepd (SR.call HY4.out hb5 (SR.lt HY4.out))
  have HF5 := keepd (SR.call HF4.out hb5 (SR.lt HF4.out))
  have HR5 := keepd (HR4.out.at_ hb5)
  have HB5 := keepd (bCall HB4.out hb5)
  clear hb5 HP4 HX4 HU4 HC4 HY4 HF4 HR4 HB4
  go_wp2_with fail
  refine hK.out _ _ (ST.of HP5.out HX5.out HC5.out HY5.out HF5.out) (fun hHeld2 => ?_)
  clear hK K hHeld
  have hHeld := hHeld2
  clear hHeld2
  try simp only [Act.put, List.setIfInBounds_toArray, List.set_cons_zero, List.set_cons_succ]
  refine wpAnyH_take (i := 2) (oi := { dst := some 39, op := Op.binOp BinOp.eql 32 (Operand.tmp 38) (Operand.const (Value.int IntKind.i64 0)) 32, type := 4, pos := "law.go:28", after := #[{ on := 1, ground := Ground.data }], guard := none }) (v := .bool true) rfl (by kernel_rfl) (by kernel_rfl) (by kernel_rfl) (fun _ _ _ h => h) (Or.inl ⟨by rfl, fun W hW => ?_⟩) hHeld ?_
  · obtain ⟨q1, q2, q3, q4, q5, q6, q7, q8, q9, q10⟩ := hW
    go_simp
  simp only [Act.put, List.setIfInBounds_toArray, List.set_cons_zero, List.set_cons_succ]
  refine wpAnyH_ready (rs := [4]) (by kernel_rfl) (by simp) ?_
  refine AllReadyH.cons (o := { dst := some 41, op := Op.call { callee := Callee.value (Operand.func 14), args := #[Operand.tmp 40], argTypes := #[25] }, type := 4, pos := "law.go:28", after := #[{ on := 3, ground := Ground.data }, { on := 1, ground := Ground.chain }], guard := none }) rfl (fun K hK => ?_) AllReadyH.nil
  go_simp
  with_reducible refine (HMp.out _).mono ?_
  rintro e w6 ⟨rfl, hb6⟩
  have HP6 := keepd (SR.call HP5.out hb6 (SR.lt HP5.out))
  have HX6 := keepd (SR.call HX5.out hb6 (SR.lt HX5.out))
  have HU6 := keepd (SR.call HU5.out hb6 (SR.lt HU5.out))
  have HC6 := keepd (SR.call HC5.out hb6 (SR.lt HC5.out))
  have HY6 := keepd (SR.call HY5.out hb6 (SR.lt HY5.out))
  have HF6 := keepd (SR.call HF5.out hb6 (SR.lt HF5.out))
  have HR6 := keepd (HR5.out.at_ hb6)
  have HB6 := keepd (bCall HB5.out hb6)
  clear hb6 HP5 HX5 HU5 HC5 HY5 HF5 HR5 HB5
  go_wp2_with fail
  refine hK.out _ _ (ST.of HP6.out HX6.out HC6.out HY6.out HF6.out) (fun hHeld2 => ?_)
  clear hK K hHeld
  have hHeld := hHeld2
  clear hHeld2
  try simp only [Act.put, List.setIfInBounds_toArray, List.set_cons_zero, List.set_cons_succ]
  refine wpAnyH_take (i := 5) (oi := { dst := some 42, op := Op.binOp BinOp.neq 4 (Operand.tmp 39) (Operand.tmp 41) 4, type := 4, pos := "law.go:28", after := #[{ on := 2, ground := Ground.data }, { on := 4, ground := Ground.data }], guard := none }) (v := .bool false) rfl (by kernel_rfl) (by kernel_rfl) (by kernel_rfl) (fun _ _ _ h => h) (Or.inl ⟨by rfl, fun W hW => ?_⟩) hHeld ?_
  · obtain ⟨q1, q2, q3, q4, q5, q6, q7, q8, q9, q10⟩ := hW
    go_simp
  simp only [Act.put, List.setIfInBounds_toArray, List.set_cons_zero, List.set_cons_succ]
  refine wpAnyH_done (by kernel_rfl) ?_ _
  clear hHeld
  obtain ⟨rP, kP⟩ := PB.facts HP6.out
  obtain ⟨rX, kX⟩ := SR.trF HX6.out
  go_wp2_with fail
  with_reducible refine (HMp.out _).mono ?_
  rintro e w7 ⟨rfl, hb⟩
  have HP7 := keepd (SR.call HP6.out hb (SR.lt HP6.out))
  have HX7 := keepd (SR.call HX6.out hb (SR.lt HX6.out))
  have HU7 := keepd (SR.call HU6.out hb (SR.lt HU6.out))
  have HC7 := keepd (SR.call HC6.out hb (SR.lt HC6.out))
  have HY7 := keepd (SR.call HY6.out hb (SR.lt HY6.out))
  have HF7 := keepd (SR.call HF6.out hb (SR.lt HF6.out))
  have HR7 := keepd (HR6.out.at_ hb)
  have HB7 := keepd (bCall HB6.out hb)
  clear hb HP6 HX6 HU6 HC6 HY6 HF6 HR6 HB6
  clear rP kP rX kX
  obtain ⟨rX, kX⟩ := SR.trF HX7.out
  go_wp2_with fail
  with_reducible refine (HMt.out _).mono ?_
  rintro e w8 ⟨rfl, hb⟩
  have HP8 := keepd (SR.call HP7.out hb (SR.lt HP7.out))
  have HX8 := keepd (SR.call HX7.out hb (SR.lt HX7.out))
  have HU8 := keepd (SR.call HU7.out hb (SR.lt HU7.out))
  have HC8 := keepd (SR.call HC7.out hb (SR.lt HC7.out))
  have HY8 := keepd (SR.call HY7.out hb (SR.lt HY7.out))
  have HF8 := keepd (SR.call HF7.out hb (SR.lt HF7.out))
  have HR8 := keepd (HR7.out.at_ hb)
  have HB8 := keepd (bCall HB7.out hb)
  clear hb HP7 HX7 HU7 HC7 HY7 HF7 HR7 HB7
  clear rX kX
  have hs := sameTr_self ⟨y.f, y.lv, y.a, y.i, y.o, y.v⟩
  go_upto_region 10 with fail
  refine wp_region_held_drew (S := ST bP bX bC bY bF X x c y F) (by kernel_rfl) (ST.of HP8.out HX8.out HC8.out HY8.out HF8.out) (fun hHeld => ?_)
  refine wpAnyH_take (i := 0) (oi := { dst := some 67, op := Op.load 29 (Operand.tmp 7), type := 29, pos := "law.go:35", after := #[], guard := none }) (v := cv c) rfl (by kernel_rfl) (by kernel_rfl) (by kernel_rfl) (fun _ _ _ h => h) (Or.inl ⟨by rfl, fun W hW => ?_⟩) hHeld ?_
  · obtain ⟨q1, q2, q3, q4, q5, q6, q7, q8, q9, q10⟩ := hW
    go_simp
  simp only [Act.put, List.setIfInBounds_toArray, List.set_cons_zero, List.set_cons_succ]
  refine wpAnyH_take (i := 1) (oi := { dst := some 68, op := Op.load 25 (Operand.tmp 3), type := 25, pos := "law.go:35", after := #[], guard := none }) (v := tv X) rfl (by kernel_rfl) (by kernel_rfl) (by kernel_rfl) (fun _ _ _ h => h) (Or.inl ⟨by rfl, fun W hW => ?_⟩) hHeld ?_
  · obtain ⟨q1, q2, q3, q4, q5, q6, q7, q8, q9, q10⟩ := hW
    go_simp
  simp only [Act.put, List.setIfInBounds_toArray, List.set_cons_zero, List.set_cons_succ]
  refine wpAnyH_take (i := 2) (oi := { dst := some 69, op := Op.load 27 (Operand.tmp 4), type := 27, pos := "law.go:35", after := #[], guard := none }) (v := vt x) rfl (by kernel_rfl) (by kernel_rfl) (by kernel_rfl) (fun _ _ _ h => h) (Or.inl ⟨by rfl, fun W hW => ?_⟩) hHeld ?_
  · obtain ⟨q1, q2, q3, q4, q5, q6, q7, q8, q9, q10⟩ := hW
    go_simp
  simp only [Act.put, List.setIfInBounds_toArray, List.set_cons_zero, List.set_cons_succ]
  refine wpAnyH_ready (rs := [3]) (by kernel_rfl) (by simp) ?_
  refine AllReadyH.cons (o := { dst := some 70, op := Op.call { callee := Callee.value (Operand.func 16), args := #[Operand.tmp 68, Operand.tmp 69], argTypes := #[25, 27] }, type := 29, pos := "law.go:35", after := #[{ on := 1, ground := Ground.data }, { on := 2, ground := Ground.data }], guard := none }) rfl (fun K hK => ?_) AllReadyH.nil
  go_simp
  with_reducible refine (HRS.out _).mono ?_
  rintro e w9 ⟨rfl, hb9⟩
  have hb9 : Below w8.heap.size w8 w9 := noDrew hb9
  have HP9 := keepd (SR.call HP8.out hb9 (SR.lt HP8.out))
  have HX9 := keepd (SR.call HX8.out hb9 (SR.lt HX8.out))
  have HU9 := keepd (SR.call HU8.out hb9 (SR.lt HU8.out))
  have HC9 := keepd (SR.call HC8.out hb9 (SR.lt HC8.out))
  have HY9 := keepd (SR.call HY8.out hb9 (SR.lt HY8.out))
  have HF9 := keepd (SR.call HF8.out hb9 (SR.lt HF8.out))
  have HR9 := keepd (HR8.out.at_ hb9)
  have HB9 := keepd (bCall HB8.out hb9)
  clear hb9 HP8 HX8 HU8 HC8 HY8 HF8 HR8 HB8
  go_wp2_with fail
  refine hK.out _ _ (ST.of HP9.out HX9.out HC9.out HY9.out HF9.out) (fun hHeld2 => ?_)
  clear hK K hHeld
  have hHeld := hHeld2
  clear hHeld2
  try simp only [Act.put, List.setIfInBounds_toArray, List.set_cons_zero, List.set_cons_succ]
  refine wpAnyH_take (i := 4) (oi := { dst := some 71, op := Op.binOp BinOp.neq 29 (Operand.tmp 67) (Operand.tmp 70) 29, type := 4, pos := "law.go:35", after := #[{ on := 0, ground := Ground.data }, { on := 3, ground := Ground.data }], guard := none }) (v := .bool false) rfl (by kernel_rfl) (by kernel_rfl) (by kernel_rfl) (fun _ _ _ h => h) (Or.inl ⟨by rfl, fun W hW => ?_⟩) hHeld ?_
  · obtain ⟨q1, q2, q3, q4, q5, q6, q7, q8, q9, q10⟩ := hW
    go_simp
  simp only [Act.put, List.setIfInBounds_toArray, List.set_cons_zero, List.set_cons_succ]
  refine wpAnyH_take (i := 5) (oi := { dst := some 72, op := Op.move (Operand.tmp 71), type := 4, pos := "law.go:35", after := #[{ on := 4, ground := Ground.data }, { on := 3, ground := Ground.chain }], guard := none }) (v := .bool false) rfl (by kernel_rfl) (by kernel_rfl) (by kernel_rfl) (fun _ _ _ h => h) (Or.inl ⟨by rfl, fun W hW => ?_⟩) hHeld ?_
  · obtain ⟨q1, q2, q3, q4, q5, q6, q7, q8, q9, q10⟩ := hW
    go_simp
  simp only [Act.put, List.setIfInBounds_toArray, List.set_cons_zero, List.set_cons_succ]
  refine wpAnyH_take (i := 6) (oi := { dst := some 73, op := Op.load 27 (Operand.tmp 9), type := 27, pos := "law.go:35", after := #[{ on := 5, ground := Ground.guard }], guard := some (5, false) }) (v := vt y) rfl (by kernel_rfl) (by kernel_rfl) (by kernel_rfl) (fun _ _ _ h => h) (Or.inl ⟨by rfl, fun W hW => ?_⟩) hHeld ?_
  · obtain ⟨q1, q2, q3, q4, q5, q6, q7, q8, q9, q10⟩ := hW
    go_simp
  simp only [Act.put, List.setIfInBounds_toArray, List.set_cons_zero, List.set_cons_succ]
  refine wpAnyH_take (i := 7) (oi := { dst := some 74, op := Op.load 25 (Operand.tmp 3), type := 25, pos := "law.go:35", after := #[{ on := 5, ground := Ground.guard }], guard := some (5, false) }) (v := tv X) rfl (by kernel_rfl) (by kernel_rfl) (by kernel_rfl) (fun _ _ _ h => h) (Or.inl ⟨by rfl, fun W hW => ?_⟩) hHeld ?_
  · obtain ⟨q1, q2, q3, q4, q5, q6, q7, q8, q9, q10⟩ := hW
    go_simp
  simp only [Act.put, List.setIfInBounds_toArray, List.set_cons_zero, List.set_cons_succ]
  refine wpAnyH_take (i := 8) (oi := { dst := some 75, op := Op.load 27 (Operand.tmp 4), type := 27, pos := "law.go:35", after := #[{ on := 5, ground := Ground.guard }], guard := some (5, false) }) (v := vt x) rfl (by kernel_rfl) (by kernel_rfl) (by kernel_rfl) (fun _ _ _ h => h) (Or.inl ⟨by rfl, fun W hW => ?_⟩) hHeld ?_
  · obtain ⟨q1, q2, q3, q4, q5, q6, q7, q8, q9, q10⟩ := hW
    go_simp
  simp only [Act.put, List.setIfInBounds_toArray, List.set_cons_zero, List.set_cons_succ]
  refine wpAnyH_ready (rs := [9]) (by kernel_rfl) (by simp) ?_
  refine AllReadyH.cons (o := { dst := some 76, op := Op.call { callee := Callee.value (Operand.func 17), args := #[Operand.tmp 74, Operand.tmp 75], argTypes := #[25, 27] }, type := 27, pos := "law.go:35", after := #[{ on := 7, ground := Ground.data }, { on := 8, ground := Ground.data }, { on := 5, ground := Ground.chain }, { on := 5, ground := Ground.guard }], guard := some (5, false) }) rfl (fun K hK => ?_) AllReadyH.nil
  go_simp
  with_reducible refine (HRA.out _).mono ?_
  rintro e w10 ⟨rfl, hb10⟩
  have HP10 := keepd (SR.call HP9.out hb10 (SR.lt HP9.out))
  have HX10 := keepd (SR.call HX9.out hb10 (SR.lt HX9.out))
  have HU10 := keepd (SR.call HU9.out hb10 (SR.lt HU9.out))
  have HC10 := keepd (SR.call HC9.out hb10 (SR.lt HC9.out))
  have HY10 := keepd (SR.call HY9.out hb10 (SR.lt HY9.out))
  have HF10 := keepd (SR.call HF9.out hb10 (SR.lt HF9.out))
  have HR10 := keepd (HR9.out.at_ hb10)
  have HB10 := keepd (bCall HB9.out hb10)
  clear hb10 HP9 HX9 HU9 HC9 HY9 HF9 HR9 HB9
  go_wp2_with fail
  refine hK.out _ _ (ST.of HP10.out HX10.out HC10.out HY10.out HF10.out) (fun hHeld2 => ?_)
  clear hK K hHeld
  have hHeld := hHeld2
  clear hHeld2
  try simp only [Act.put, List.setIfInBounds_toArray, List.set_cons_zero, List.set_cons_succ]
  refine wpAnyH_take (i := 10) (oi := { dst := some 77, op := Op.binOp BinOp.neq 27 (Operand.tmp 73) (Operand.tmp 76) 27, type := 4, pos := "law.go:35", after := #[{ on := 6, ground := Ground.data }, { on := 9, ground := Ground.data }, { on := 5, ground := Ground.guard }], guard := some (5, false) }) (v := .bool false) rfl (by kernel_rfl) (by kernel_rfl) (by kernel_rfl) (fun _ _ _ h => h) (Or.inl ⟨by rfl, fun W hW => ?_⟩) hHeld ?_
  · obtain ⟨q1, q2, q3, q4, q5, q6, q7, q8, q9, q10⟩ := hW
    go_simp
  simp only [Act.put, List.setIfInBounds_toArray, List.set_cons_zero, List.set_cons_succ]
  refine wpAnyH_take (i := 11) (oi := { dst := some 78, op := Op.pick (Operand.tmp 72) (Operand.const (Value.bool true)) (Operand.tmp 77), type := 4, pos := "law.go:35", after := #[{ on := 5, ground := Ground.data }, { on := 10, ground := Ground.data }], guard := none }) (v := .bool false) rfl (by kernel_rfl) (by kernel_rfl) (by kernel_rfl) (fun _ _ _ h => h) (Or.inl ⟨by rfl, fun W hW => ?_⟩) hHeld ?_
  · obtain ⟨q1, q2, q3, q4, q5, q6, q7, q8, q9, q10⟩ := hW
    go_simp
  simp only [Act.put, List.setIfInBounds_toArray, List.set_cons_zero, List.set_cons_succ]
  refine wpAnyH_take (i := 12) (oi := { dst := some 79, op := Op.move (Operand.tmp 78), type := 4, pos := "law.go:35", after := #[{ on := 11, ground := Ground.data }, { on := 9, ground := Ground.chain }], guard := none }) (v := .bool false) rfl (by kernel_rfl) (by kernel_rfl) (by kernel_rfl) (fun _ _ _ h => h) (Or.inl ⟨by rfl, fun W hW => ?_⟩) hHeld ?_
  · obtain ⟨q1, q2, q3, q4, q5, q6, q7, q8, q9, q10⟩ := hW
    go_simp
  simp only [Act.put, List.setIfInBounds_toArray, List.set_cons_zero, List.set_cons_succ]
  refine wpAnyH_take (i := 13) (oi := { dst := some 80, op := Op.move (Operand.tmp 8), type := 32, pos := "law.go:35", after := #[{ on := 12, ground := Ground.guard }], guard := some (12, false) }) (v := .int .i64 0) rfl (by kernel_rfl) (by kernel_rfl) (by kernel_rfl) (fun _ _ _ h => h) (Or.inl ⟨by rfl, fun W hW => ?_⟩) hHeld ?_
  · obtain ⟨q1, q2, q3, q4, q5, q6, q7, q8, q9, q10⟩ := hW
    go_simp
  simp only [Act.put, List.setIfInBounds_toArray, List.set_cons_zero, List.set_cons_succ]
  refine wpAnyH_take (i := 14) (oi := { dst := some 81, op := Op.binOp BinOp.neq 32 (Operand.tmp 80) (Operand.const (Value.int IntKind.i64 0)) 32, type := 4, pos := "law.go:35", after := #[{ on := 13, ground := Ground.data }, { on := 12, ground := Ground.guard }], guard := some (12, false) }) (v := .bool false) rfl (by kernel_rfl) (by kernel_rfl) (by kernel_rfl) (fun _ _ _ h => h) (Or.inl ⟨by rfl, fun W hW => ?_⟩) hHeld ?_
  · obtain ⟨q1, q2, q3, q4, q5, q6, q7, q8, q9, q10⟩ := hW
    go_simp
  simp only [Act.put, List.setIfInBounds_toArray, List.set_cons_zero, List.set_cons_succ]
  refine wpAnyH_take (i := 15) (oi := { dst := some 82, op := Op.pick (Operand.tmp 79) (Operand.const (Value.bool true)) (Operand.tmp 81), type := 4, pos := "law.go:35", after := #[{ on := 12, ground := Ground.data }, { on := 14, ground := Ground.data }], guard := none }) (v := .bool false) rfl (by kernel_rfl) (by kernel_rfl) (by kernel_rfl) (fun _ _ _ h => h) (Or.inl ⟨by rfl, fun W hW => ?_⟩) hHeld ?_
  · obtain ⟨q1, q2, q3, q4, q5, q6, q7, q8, q9, q10⟩ := hW
    go_simp
  simp only [Act.put, List.setIfInBounds_toArray, List.set_cons_zero, List.set_cons_succ]
  refine wpAnyH_take (i := 16) (oi := { dst := some 83, op := Op.move (Operand.tmp 82), type := 4, pos := "law.go:35", after := #[{ on := 15, ground := Ground.data }, { on := 12, ground := Ground.chain }], guard := none }) (v := .bool false) rfl (by kernel_rfl) (by kernel_rfl) (by kernel_rfl) (fun _ _ _ h => h) (Or.inl ⟨by rfl, fun W hW => ?_⟩) hHeld ?_
  · obtain ⟨q1, q2, q3, q4, q5, q6, q7, q8, q9, q10⟩ := hW
    go_simp
  simp only [Act.put, List.setIfInBounds_toArray, List.set_cons_zero, List.set_cons_succ]
  refine wpAnyH_take (i := 17) (oi := { dst := some 84, op := Op.move (Operand.tmp 10), type := 32, pos := "law.go:35", after := #[{ on := 16, ground := Ground.guard }], guard := some (16, false) }) (v := .int .i64 0) rfl (by kernel_rfl) (by kernel_rfl) (by kernel_rfl) (fun _ _ _ h => h) (Or.inl ⟨by rfl, fun W hW => ?_⟩) hHeld ?_
  · obtain ⟨q1, q2, q3, q4, q5, q6, q7, q8, q9, q10⟩ := hW
    go_simp
  simp only [Act.put, List.setIfInBounds_toArray, List.set_cons_zero, List.set_cons_succ]
  refine wpAnyH_take (i := 18) (oi := { dst := some 85, op := Op.binOp BinOp.neq 32 (Operand.tmp 84) (Operand.const (Value.int IntKind.i64 0)) 32, type := 4, pos := "law.go:35", after := #[{ on := 17, ground := Ground.data }, { on := 16, ground := Ground.guard }], guard := some (16, false) }) (v := .bool false) rfl (by kernel_rfl) (by kernel_rfl) (by kernel_rfl) (fun _ _ _ h => h) (Or.inl ⟨by rfl, fun W hW => ?_⟩) hHeld ?_
  · obtain ⟨q1, q2, q3, q4, q5, q6, q7, q8, q9, q10⟩ := hW
    go_simp
  simp only [Act.put, List.setIfInBounds_toArray, List.set_cons_zero, List.set_cons_succ]
  refine wpAnyH_take (i := 19) (oi := { dst := some 86, op := Op.pick (Operand.tmp 83) (Operand.const (Value.bool true)) (Operand.tmp 85), type := 4, pos := "law.go:35", after := #[{ on := 16, ground := Ground.data }, { on := 18, ground := Ground.data }], guard := none }) (v := .bool false) rfl (by kernel_rfl) (by kernel_rfl) (by kernel_rfl) (fun _ _ _ h => h) (Or.inl ⟨by rfl, fun W hW => ?_⟩) hHeld ?_
  · obtain ⟨q1, q2, q3, q4, q5, q6, q7, q8, q9, q10⟩ := hW
    go_simp
  simp only [Act.put, List.setIfInBounds_toArray, List.set_cons_zero, List.set_cons_succ]
  refine wpAnyH_done (by kernel_rfl) ?_ _
  clear hHeld
  clear hs HRS HRA
  go_upto_region 12 with fail
  have hF : sameT F X = true := by rw [HFe.out]; exact sameT_self X
  refine wp_region_held_drew (S := ST bP bX bC bY bF X x c y F) (by kernel_rfl) (ST.of HP10.out HX10.out HC10.out HY10.out HF10.out) (fun hHeld => ?_)
  refine wpAnyH_take (i := 0) (oi := { dst := some 87, op := Op.load 25 (Operand.tmp 3), type := 25, pos := "law.go:38", after := #[], guard := none }) (v := tv X) rfl (by kernel_rfl) (by kernel_rfl) (by kernel_rfl) (fun _ _ _ h => h) (Or.inl ⟨by rfl, fun W hW => ?_⟩) hHeld ?_
  · obtain ⟨q1, q2, q3, q4, q5, q6, q7, q8, q9, q10⟩ := hW
    go_simp
  simp only [Act.put, List.setIfInBounds_toArray, List.set_cons_zero, List.set_cons_succ]
  refine wpAnyH_ready (rs := [1]) (by kernel_rfl) (by simp) ?_
  refine AllReadyH.cons (o := { dst := some 88, op := Op.call { callee := Callee.value (Operand.func 14), args := #[Operand.tmp 87], argTypes := #[25] }, type := 4, pos := "law.go:38", after := #[{ on := 0, ground := Ground.data }], guard := none }) rfl (fun K hK => ?_) AllReadyH.nil
  go_simp
  with_reducible refine (HMp.out _).mono ?_
  rintro e w11 ⟨rfl, hb11⟩
  have hb11 : Below w10.heap.size w10 w11 := noDrew hb11
  have HP11 := keepd (SR.call HP10.out hb11 (SR.lt HP10.out))
  have HX11 := keepd (SR.call HX10.out hb11 (SR.lt HX10.out))
  have HU11 := keepd (SR.call HU10.out hb11 (SR.lt HU10.out))
  have HC11 := keepd (SR.call HC10.out hb11 (SR.lt HC10.out))
  have HY11 := keepd (SR.call HY10.out hb11 (SR.lt HY10.out))
  have HF11 := keepd (SR.call HF10.out hb11 (SR.lt HF10.out))
  have HR11 := keepd (HR10.out.at_ hb11)
  have HB11 := keepd (bCall HB10.out hb11)
  clear hb11 HP10 HX10 HU10 HC10 HY10 HF10 HR10 HB10
  go_wp2_with fail
  refine hK.out _ _ (ST.of HP11.out HX11.out HC11.out HY11.out HF11.out) (fun hHeld2 => ?_)
  clear hK K hHeld
  have hHeld := hHeld2
  clear hHeld2
  try simp only [Act.put, List.setIfInBounds_toArray, List.set_cons_zero, List.set_cons_succ]
  refine wpAnyH_take (i := 2) (oi := { dst := some 89, op := Op.unOp UnOp.not 4 (Operand.tmp 88), type := 4, pos := "law.go:38", after := #[{ on := 1, ground := Ground.data }], guard := none }) (v := .bool false) rfl (by kernel_rfl) (by kernel_rfl) (by kernel_rfl) (fun _ _ _ h => h) (Or.inl ⟨by rfl, fun W hW => ?_⟩) hHeld ?_
  · obtain ⟨q1, q2, q3, q4, q5, q6, q7, q8, q9, q10⟩ := hW
    go_simp
  simp only [Act.put, List.setIfInBounds_toArray, List.set_cons_zero, List.set_cons_succ]
  refine wpAnyH_take (i := 3) (oi := { dst := some 90, op := Op.move (Operand.tmp 89), type := 4, pos := "law.go:38", after := #[{ on := 2, ground := Ground.data }, { on := 1, ground := Ground.chain }], guard := none }) (v := .bool false) rfl (by kernel_rfl) (by kernel_rfl) (by kernel_rfl) (fun _ _ _ h => h) (Or.inl ⟨by rfl, fun W hW => ?_⟩) hHeld ?_
  · obtain ⟨q1, q2, q3, q4, q5, q6, q7, q8, q9, q10⟩ := hW
    go_simp
  simp only [Act.put, List.setIfInBounds_toArray, List.set_cons_zero, List.set_cons_succ]
  refine wpAnyH_take (i := 4) (oi := { dst := some 91, op := Op.load 31 (Operand.tmp 11), type := 31, pos := "law.go:38", after := #[{ on := 3, ground := Ground.guard }], guard := some (3, true) }) (v := undef) rfl (by kernel_rfl) (by kernel_rfl) (by kernel_rfl) (fun _ _ _ h => h) (Or.inr ⟨by rfl, rfl⟩) hHeld ?_
  simp only [Act.put, List.setIfInBounds_toArray, List.set_cons_zero, List.set_cons_succ]
  refine wpAnyH_take (i := 5) (oi := { dst := some 92, op := Op.build 31 #[], type := 31, pos := "law.go:38", after := #[{ on := 3, ground := Ground.guard }], guard := some (3, true) }) (v := undef) rfl (by kernel_rfl) (by kernel_rfl) (by kernel_rfl) (fun _ _ _ h => h) (Or.inr ⟨by rfl, rfl⟩) hHeld ?_
  simp only [Act.put, List.setIfInBounds_toArray, List.set_cons_zero, List.set_cons_succ]
  refine wpAnyH_take (i := 6) (oi := { dst := some 93, op := Op.binOp BinOp.neq 31 (Operand.tmp 91) (Operand.tmp 92) 31, type := 4, pos := "law.go:38", after := #[{ on := 4, ground := Ground.data }, { on := 5, ground := Ground.data }, { on := 3, ground := Ground.guard }], guard := some (3, true) }) (v := undef) rfl (by kernel_rfl) (by kernel_rfl) (by kernel_rfl) (fun _ _ _ h => h) (Or.inr ⟨by rfl, rfl⟩) hHeld ?_
  simp only [Act.put, List.setIfInBounds_toArray, List.set_cons_zero, List.set_cons_succ]
  refine wpAnyH_take (i := 7) (oi := { dst := some 94, op := Op.move (Operand.tmp 93), type := 4, pos := "law.go:38", after := #[{ on := 6, ground := Ground.data }, { on := 3, ground := Ground.chain }, { on := 3, ground := Ground.guard }], guard := some (3, true) }) (v := undef) rfl (by kernel_rfl) (by kernel_rfl) (by kernel_rfl) (fun _ _ _ h => h) (Or.inr ⟨by rfl, rfl⟩) hHeld ?_
  simp only [Act.put, List.setIfInBounds_toArray, List.set_cons_zero, List.set_cons_succ]
  refine wpAnyH_take (i := 8) (oi := { dst := some 95, op := Op.move (Operand.tmp 12), type := 32, pos := "law.go:38", after := #[{ on := 7, ground := Ground.guard }], guard := some (7, false) }) (v := undef) rfl (by kernel_rfl) (by kernel_rfl) (by kernel_rfl) (fun _ _ _ h => h) (Or.inr ⟨by rfl, rfl⟩) hHeld ?_
  simp only [Act.put, List.setIfInBounds_toArray, List.set_cons_zero, List.set_cons_succ]
  refine wpAnyH_take (i := 9) (oi := { dst := some 96, op := Op.binOp BinOp.neq 32 (Operand.tmp 95) (Operand.const (Value.int IntKind.i64 1)) 32, type := 4, pos := "law.go:38", after := #[{ on := 8, ground := Ground.data }, { on := 7, ground := Ground.guard }], guard := some (7, false) }) (v := undef) rfl (by kernel_rfl) (by kernel_rfl) (by kernel_rfl) (fun _ _ _ h => h) (Or.inr ⟨by rfl, rfl⟩) hHeld ?_
  simp only [Act.put, List.setIfInBounds_toArray, List.set_cons_zero, List.set_cons_succ]
  refine wpAnyH_take (i := 10) (oi := { dst := some 97, op := Op.pick (Operand.tmp 94) (Operand.const (Value.bool true)) (Operand.tmp 96), type := 4, pos := "law.go:38", after := #[{ on := 7, ground := Ground.data }, { on := 9, ground := Ground.data }, { on := 3, ground := Ground.guard }], guard := some (3, true) }) (v := undef) rfl (by kernel_rfl) (by kernel_rfl) (by kernel_rfl) (fun _ _ _ h => h) (Or.inr ⟨by rfl, rfl⟩) hHeld ?_
  simp only [Act.put, List.setIfInBounds_toArray, List.set_cons_zero, List.set_cons_succ]
  refine wpAnyH_take (i := 11) (oi := { dst := some 98, op := Op.pick (Operand.tmp 90) (Operand.tmp 97) (Operand.const (Value.bool false)), type := 4, pos := "law.go:38", after := #[{ on := 3, ground := Ground.data }, { on := 10, ground := Ground.data }], guard := none }) (v := .bool false) rfl (by kernel_rfl) (by kernel_rfl) (by kernel_rfl) (fun _ _ _ h => h) (Or.inl ⟨by rfl, fun W hW => ?_⟩) hHeld ?_
  · obtain ⟨q1, q2, q3, q4, q5, q6, q7, q8, q9, q10⟩ := hW
    go_simp
  simp only [Act.put, List.setIfInBounds_toArray, List.set_cons_zero, List.set_cons_succ]
  refine wpAnyH_take (i := 12) (oi := { dst := some 99, op := Op.move (Operand.tmp 98), type := 4, pos := "law.go:38", after := #[{ on := 11, ground := Ground.data }, { on := 7, ground := Ground.chain }], guard := none }) (v := .bool false) rfl (by kernel_rfl) (by kernel_rfl) (by kernel_rfl) (fun _ _ _ h => h) (Or.inl ⟨by rfl, fun W hW => ?_⟩) hHeld ?_
  · obtain ⟨q1, q2, q3, q4, q5, q6, q7, q8, q9, q10⟩ := hW
    go_simp
  simp only [Act.put, List.setIfInBounds_toArray, List.set_cons_zero, List.set_cons_succ]
  refine wpAnyH_take (i := 13) (oi := { dst := some 100, op := Op.load 25 (Operand.tmp 3), type := 25, pos := "law.go:38", after := #[{ on := 12, ground := Ground.guard }], guard := some (12, false) }) (v := tv X) rfl (by kernel_rfl) (by kernel_rfl) (by kernel_rfl) (fun _ _ _ h => h) (Or.inl ⟨by rfl, fun W hW => ?_⟩) hHeld ?_
  · obtain ⟨q1, q2, q3, q4, q5, q6, q7, q8, q9, q10⟩ := hW
    go_simp
  simp only [Act.put, List.setIfInBounds_toArray, List.set_cons_zero, List.set_cons_succ]
  refine wpAnyH_ready (rs := [14]) (by kernel_rfl) (by simp) ?_
  refine AllReadyH.cons (o := { dst := some 101, op := Op.call { callee := Callee.value (Operand.func 14), args := #[Operand.tmp 100], argTypes := #[25] }, type := 4, pos := "law.go:38", after := #[{ on := 13, ground := Ground.data }, { on := 12, ground := Ground.chain }, { on := 12, ground := Ground.guard }], guard := some (12, false) }) rfl (fun K hK => ?_) AllReadyH.nil
  go_simp
  with_reducible refine (HMp.out _).mono ?_
  rintro e w12 ⟨rfl, hb12⟩
  have HP12 := keepd (SR.call HP11.out hb12 (SR.lt HP11.out))
  have HX12 := keepd (SR.call HX11.out hb12 (SR.lt HX11.out))
  have HU12 := keepd (SR.call HU11.out hb12 (SR.lt HU11.out))
  have HC12 := keepd (SR.call HC11.out hb12 (SR.lt HC11.out))
  have HY12 := keepd (SR.call HY11.out hb12 (SR.lt HY11.out))
  have HF12 := keepd (SR.call HF11.out hb12 (SR.lt HF11.out))
  have HR12 := keepd (HR11.out.at_ hb12)
  have HB12 := keepd (bCall HB11.out hb12)
  clear hb12 HP11 HX11 HU11 HC11 HY11 HF11 HR11 HB11
  go_wp2_with fail
  refine hK.out _ _ (ST.of HP12.out HX12.out HC12.out HY12.out HF12.out) (fun hHeld2 => ?_)
  clear hK K hHeld
  have hHeld := hHeld2
  clear hHeld2
  try simp only [Act.put, List.setIfInBounds_toArray, List.set_cons_zero, List.set_cons_succ]
  refine wpAnyH_take (i := 15) (oi := { dst := some 102, op := Op.move (Operand.tmp 101), type := 4, pos := "law.go:38", after := #[{ on := 14, ground := Ground.data }, { on := 14, ground := Ground.chain }, { on := 12, ground := Ground.guard }], guard := some (12, false) }) (v := .bool true) rfl (by kernel_rfl) (by kernel_rfl) (by kernel_rfl) (fun _ _ _ h => h) (Or.inl ⟨by rfl, fun W hW => ?_⟩) hHeld ?_
  · obtain ⟨q1, q2, q3, q4, q5, q6, q7, q8, q9, q10⟩ := hW
    go_simp
  simp only [Act.put, List.setIfInBounds_toArray, List.set_cons_zero, List.set_cons_succ]
  refine wpAnyH_take (i := 16) (oi := { dst := some 103, op := Op.load 31 (Operand.tmp 11), type := 31, pos := "law.go:38", after := #[{ on := 15, ground := Ground.guard }], guard := some (15, true) }) (v := tv F) rfl (by kernel_rfl) (by kernel_rfl) (by kernel_rfl) (fun _ _ _ h => h) (Or.inl ⟨by rfl, fun W hW => ?_⟩) hHeld ?_
  · obtain ⟨q1, q2, q3, q4, q5, q6, q7, q8, q9, q10⟩ := hW
    go_simp
  simp only [Act.put, List.setIfInBounds_toArray, List.set_cons_zero, List.set_cons_succ]
  refine wpAnyH_take (i := 17) (oi := { dst := some 104, op := Op.load 25 (Operand.tmp 3), type := 25, pos := "law.go:38", after := #[{ on := 15, ground := Ground.guard }], guard := some (15, true) }) (v := tv X) rfl (by kernel_rfl) (by kernel_rfl) (by kernel_rfl) (fun _ _ _ h => h) (Or.inl ⟨by rfl, fun W hW => ?_⟩) hHeld ?_
  · obtain ⟨q1, q2, q3, q4, q5, q6, q7, q8, q9, q10⟩ := hW
    go_simp
  simp only [Act.put, List.setIfInBounds_toArray, List.set_cons_zero, List.set_cons_succ]
  refine wpAnyH_ready (rs := [18]) (by kernel_rfl) (by simp) ?_
  refine AllReadyH.cons (o := { dst := some 105, op := Op.call { callee := Callee.value (Operand.func 18), args := #[Operand.tmp 104], argTypes := #[25] }, type := 31, pos := "law.go:38", after := #[{ on := 17, ground := Ground.data }, { on := 15, ground := Ground.chain }, { on := 15, ground := Ground.guard }], guard := some (15, true) }) rfl (fun K hK => ?_) AllReadyH.nil
  go_simp
  with_reducible refine (HRF.out _).mono ?_
  rintro e w13 ⟨rfl, hb13⟩
  have HP13 := keepd (SR.call HP12.out hb13 (SR.lt HP12.out))
  have HX13 := keepd (SR.call HX12.out hb13 (SR.lt HX12.out))
  have HU13 := keepd (SR.call HU12.out hb13 (SR.lt HU12.out))
  have HC13 := keepd (SR.call HC12.out hb13 (SR.lt HC12.out))
  have HY13 := keepd (SR.call HY12.out hb13 (SR.lt HY12.out))
  have HF13 := keepd (SR.call HF12.out hb13 (SR.lt HF12.out))
  have HR13 := keepd (HR12.out.at_ hb13)
  have HB13 := keepd (bCall HB12.out hb13)
  clear hb13 HP12 HX12 HU12 HC12 HY12 HF12 HR12 HB12
  go_wp2_with fail
  refine hK.out _ _ (ST.of HP13.out HX13.out HC13.out HY13.out HF13.out) (fun hHeld2 => ?_)
  clear hK K hHeld
  have hHeld := hHeld2
  clear hHeld2
  try simp only [Act.put, List.setIfInBounds_toArray, List.set_cons_zero, List.set_cons_succ]
  refine wpAnyH_take (i := 19) (oi := { dst := some 106, op := Op.binOp BinOp.neq 31 (Operand.tmp 103) (Operand.tmp 105) 31, type := 4, pos := "law.go:38", after := #[{ on := 16, ground := Ground.data }, { on := 18, ground := Ground.data }, { on := 15, ground := Ground.guard }], guard := some (15, true) }) (v := .bool false) rfl (by kernel_rfl) (by kernel_rfl) (by kernel_rfl) (fun _ _ _ h => h) (Or.inl ⟨by rfl, fun W hW => ?_⟩) hHeld ?_
  · obtain ⟨q1, q2, q3, q4, q5, q6, q7, q8, q9, q10⟩ := hW
    go_simp
  simp only [Act.put, List.setIfInBounds_toArray, List.set_cons_zero, List.set_cons_succ]
  refine wpAnyH_take (i := 20) (oi := { dst := some 107, op := Op.move (Operand.tmp 106), type := 4, pos := "law.go:38", after := #[{ on := 19, ground := Ground.data }, { on := 18, ground := Ground.chain }, { on := 15, ground := Ground.guard }], guard := some (15, true) }) (v := .bool false) rfl (by kernel_rfl) (by kernel_rfl) (by kernel_rfl) (fun _ _ _ h => h) (Or.inl ⟨by rfl, fun W hW => ?_⟩) hHeld ?_
  · obtain ⟨q1, q2, q3, q4, q5, q6, q7, q8, q9, q10⟩ := hW
    go_simp
  simp only [Act.put, List.setIfInBounds_toArray, List.set_cons_zero, List.set_cons_succ]
  refine wpAnyH_take (i := 21) (oi := { dst := some 108, op := Op.move (Operand.tmp 12), type := 32, pos := "law.go:38", after := #[{ on := 20, ground := Ground.guard }], guard := some (20, false) }) (v := .int .i64 0) rfl (by kernel_rfl) (by kernel_rfl) (by kernel_rfl) (fun _ _ _ h => h) (Or.inl ⟨by rfl, fun W hW => ?_⟩) hHeld ?_
  · obtain ⟨q1, q2, q3, q4, q5, q6, q7, q8, q9, q10⟩ := hW
    go_simp
  simp only [Act.put, List.setIfInBounds_toArray, List.set_cons_zero, List.set_cons_succ]
  refine wpAnyH_take (i := 22) (oi := { dst := some 109, op := Op.binOp BinOp.neq 32 (Operand.tmp 108) (Operand.const (Value.int IntKind.i64 0)) 32, type := 4, pos := "law.go:38", after := #[{ on := 21, ground := Ground.data }, { on := 20, ground := Ground.guard }], guard := some (20, false) }) (v := .bool false) rfl (by kernel_rfl) (by kernel_rfl) (by kernel_rfl) (fun _ _ _ h => h) (Or.inl ⟨by rfl, fun W hW => ?_⟩) hHeld ?_
  · obtain ⟨q1, q2, q3, q4, q5, q6, q7, q8, q9, q10⟩ := hW
    go_simp
  simp only [Act.put, List.setIfInBounds_toArray, List.set_cons_zero, List.set_cons_succ]
  refine wpAnyH_take (i := 23) (oi := { dst := some 110, op := Op.pick (Operand.tmp 107) (Operand.const (Value.bool true)) (Operand.tmp 109), type := 4, pos := "law.go:38", after := #[{ on := 20, ground := Ground.data }, { on := 22, ground := Ground.data }, { on := 15, ground := Ground.guard }], guard := some (15, true) }) (v := .bool false) rfl (by kernel_rfl) (by kernel_rfl) (by kernel_rfl) (fun _ _ _ h => h) (Or.inl ⟨by rfl, fun W hW => ?_⟩) hHeld ?_
  · obtain ⟨q1, q2, q3, q4, q5, q6, q7, q8, q9, q10⟩ := hW
    go_simp
  simp only [Act.put, List.setIfInBounds_toArray, List.set_cons_zero, List.set_cons_succ]
  refine wpAnyH_take (i := 24) (oi := { dst := some 111, op := Op.pick (Operand.tmp 102) (Operand.tmp 110) (Operand.const (Value.bool false)), type := 4, pos := "law.go:38", after := #[{ on := 15, ground := Ground.data }, { on := 23, ground := Ground.data }, { on := 12, ground := Ground.guard }], guard := some (12, false) }) (v := .bool false) rfl (by kernel_rfl) (by kernel_rfl) (by kernel_rfl) (fun _ _ _ h => h) (Or.inl ⟨by rfl, fun W hW => ?_⟩) hHeld ?_
  · obtain ⟨q1, q2, q3, q4, q5, q6, q7, q8, q9, q10⟩ := hW
    go_simp
  simp only [Act.put, List.setIfInBounds_toArray, List.set_cons_zero, List.set_cons_succ]
  refine wpAnyH_take (i := 25) (oi := { dst := some 112, op := Op.pick (Operand.tmp 99) (Operand.const (Value.bool true)) (Operand.tmp 111), type := 4, pos := "law.go:38", after := #[{ on := 12, ground := Ground.data }, { on := 24, ground := Ground.data }], guard := none }) (v := .bool false) rfl (by kernel_rfl) (by kernel_rfl) (by kernel_rfl) (fun _ _ _ h => h) (Or.inl ⟨by rfl, fun W hW => ?_⟩) hHeld ?_
  · obtain ⟨q1, q2, q3, q4, q5, q6, q7, q8, q9, q10⟩ := hW
    go_simp
  simp only [Act.put, List.setIfInBounds_toArray, List.set_cons_zero, List.set_cons_succ]
  refine wpAnyH_done (by kernel_rfl) ?_ _
  clear hHeld
  clear hF HFe
  cases hmU : mayT U
  case false =>
    have HMu := keepd (refMayT_any U false hmU)
    have hw := HWe.out
    unfold wholeF at hw
    rw [hmU] at hw
    simp only [Bool.false_eq_true, if_false, Prod.mk.injEq] at hw
    obtain ⟨rfl, rfl⟩ := hw
    have hn := HLn.out
    obtain rfl : n = 0 := by rw [← hn]; rfl
    clear hmU hn HWe HLn
    obtain ⟨rU, kU⟩ := TB.facts HU13.out
    go_wp2_with fail
    with_reducible refine (HMu.out _).mono ?_
    rintro e w14 ⟨rfl, hb⟩
    have HP14 := keepd (SR.call HP13.out hb (SR.lt HP13.out))
    have HX14 := keepd (SR.call HX13.out hb (SR.lt HX13.out))
    have HU14 := keepd (SR.call HU13.out hb (SR.lt HU13.out))
    have HC14 := keepd (SR.call HC13.out hb (SR.lt HC13.out))
    have HY14 := keepd (SR.call HY13.out hb (SR.lt HY13.out))
    have HF14 := keepd (SR.call HF13.out hb (SR.lt HF13.out))
    have HR14 := keepd (HR13.out.at_ hb)
    have HB14 := keepd (bCall HB13.out hb)
    clear hb HP13 HX13 HU13 HC13 HY13 HF13 HR13 HB13
    clear rU kU
    go_wp2_with fail
    with_reducible refine (HA.out _).mono ?_
    rintro e w9 ⟨rfl, hb9⟩
    have HB9 := keepd (bCall HB14.out hb9)
    clear hb9
    go_wp2
    go_returns
    exact ⟨rfl, HB9.out⟩
  have HMu := keepd (refMayT_any U true hmU)
  have hw := HWe.out
  unfold wholeF at hw
  rw [hmU] at hw
  simp only [if_true, Prod.mk.injEq] at hw
  obtain ⟨rfl, rfl⟩ := hw
  have hn := HLn.out
  obtain rfl : n = 30 := by rw [← hn, wholeL_len]
  clear hmU hn HWe HLn
  obtain ⟨rU, kU⟩ := TB.facts HU13.out
  go_wp2_with fail
  with_reducible refine (HMu.out _).mono ?_
  rintro e w14 ⟨rfl, hb⟩
  have HP14 := keepd (SR.call HP13.out hb (SR.lt HP13.out))
  have HX14 := keepd (SR.call HX13.out hb (SR.lt HX13.out))
  have HU14 := keepd (SR.call HU13.out hb (SR.lt HU13.out))
  have HC14 := keepd (SR.call HC13.out hb (SR.lt HC13.out))
  have HY14 := keepd (SR.call HY13.out hb (SR.lt HY13.out))
  have HF14 := keepd (SR.call HF13.out hb (SR.lt HF13.out))
  have HR14 := keepd (HR13.out.at_ hb)
  have HB14 := keepd (bCall HB13.out hb)
  clear hb HP13 HX13 HU13 HC13 HY13 HF13 HR13 HB13
  clear rU kU
  obtain ⟨rU, kU⟩ := TB.facts HU14.out
  have hcc := HR14.out.1
  have hcm := HR14.out.2.1
  rw [wholeL_len] at hcc
  unfold maxLen at hcm
  go_wp2_with fail
  with_reducible refine (refWhole_any U _).mono ?_
  rintro e w15 ⟨A2, c2, rfl, hr2, hb⟩
  have HR15 := keepd (HR14.out.at_ hb)
  have HQ15 := keepd hr2
  have HB15 := keepd (bCall HB14.out hb)
  have hcc2 := hr2.1
  have hcm2 := hr2.2.1
  rw [wholeL_len] at hcc2
  unfold maxLen at hcm2
  clear hb hr2 rU kU HR14 HB14 HP14 HX14 HU14 HC14 HY14 HF14
  have HSm := keepd (same_any A A2 (wholeL U 30) (wholeL U 30) 30 30 cc c2 true w15 (wholeL_len U 30).symm (wholeL_len U 30).symm HR15.out HQ15.out (decide_eq_true rfl))
  go_wp2_with fail
  with_reducible refine HSm.out.mono ?_
  rintro e w16 ⟨rfl, hb⟩
  have HB16 := keepd (bCall HB15.out hb)
  clear hb HSm HR15 HQ15 HB15
  go_wp2_with fail
  with_reducible refine (HA.out _).mono ?_
  rintro e w9 ⟨rfl, hb9⟩
  have HB9 := keepd (bCall HB16.out hb9)
  clear hb9
  go_wp2
  go_returns
  exact ⟨rfl, HB9.out⟩

end Go.Proofs.Ytjchkpnfdamgnaa
