/-
  The law AgreeTells, where prefs may not be. No conditions beyond those each theorem states.
-/
import Derived.Test.YtjchkpnfdamgnaaL5
namespace Go.Proofs.Ytjchkpnfdamgnaa
open Go.RowKit
set_option maxRecDepth 100000

attribute [local go_sem ↓] ex_ld31 ex_st31 ex_al31 ex_bu31 ex_ix31 ex_eq31 ex_ne31 ex_eq29 ex_ne29 ex_ld25 ex_st25 ex_al25 ex_bu25 ex_ix25 ex_ld27 ex_st27 ex_eq27 ex_ne27
attribute [local go_sem] ptrB_at okPtr_at aggC_at agg62 isC_at isT_at eqV_t eqV_c isRow_new isRow_newp World.setRow_alloc_new agg6 isRow_new6 isV_at eqV_v


set_option maxHeartbeats 8000000 in
theorem tells_a (X : Tb) (x : Tr) (U : Tb) (hm : mayT X = false) (w : World) : Calls Try.prog 3 #[tv X, vt x, tv U] w fun e w' => e = .returned (.bool true) ∧ Below w.heap.size w w' := by
  have HA := keepd awake_any
  obtain ⟨c, hc⟩ : ∃ c : Cl, c = ⟨0, 0⟩ := ⟨_, rfl⟩
  obtain ⟨y, hy⟩ : ∃ y : Tr, y = zTr := ⟨_, rfl⟩
  obtain ⟨F, hF⟩ : ∃ F : Tb, F = zT := ⟨_, rfl⟩
  have hs : settleF X x = (c, 1) := by unfold settleF; rw [hm, hc]; rfl
  have ha : answerF X x = (y, 1) := by unfold answerF; rw [hs, hy]; rfl
  have hf : firstF X = (F, 1) := by unfold firstF; rw [hm, hF]; rfl
  have he : errT X = 1 := by unfold errT; rw [hm]; rfl
  have HCs := keepd (settle_any X x c 1 hs)
  have HAn := keepd (answer_any X x y 1 ha)
  have HFi := keepd (first_any X F 1 hf)
  have HCk := keepd (check_any X 1 he)
  have HMp := keepd (refMayP_any X false hm)
  have HCe := keepd hc
  have HYe := keepd hy
  have HFe := keepd hF
  obtain ⟨L, eh, hw⟩ : ∃ L e, wholeF U = (L, e) := ⟨_, _, rfl⟩
  obtain ⟨n, hn⟩ : ∃ n, L.length = n := ⟨_, rfl⟩
  have HWh := keepd (whole_any U L n eh hw hn)
  have HWe := keepd hw
  have HLn := keepd hn
  clear hm hs ha hf he hF hw hn hy hc
  go_enter Try.func3, Try.ntmps3
  go_upto_region 1 with fail
  obtain ⟨W, hW⟩ : ∃ W, (((w.alloc (.cells (cs X).toArray 25)).alloc (.cells #[.int .i64 x.f, .int .i64 x.lv, .bool x.a, .bool x.i, .bool x.o, .int .u8 x.v] 27)).alloc (.cells (cs U).toArray 31)) = W := ⟨_, rfl⟩
  obtain ⟨gP, gX, gU, gB⟩ : SR 25 W (w.heap.size) (cs X) ∧ SR 27 W (w.heap.size + 1) (Tr.cells x) ∧ SR 31 W (w.heap.size + 1 + 1) (cs U) ∧ Below w.heap.size w W := by
    subst hW
    exact ⟨(SR.alloc (SR.alloc (SR.new 25 w (cs X)) _) _), (SR.alloc (show SR 27 _ _ (Tr.cells x) from heap_alloc2_new w _ _) _), (show SR 31 _ _ (cs U) from n4 w _ _ _), (bAlloc (bAlloc (bAlloc (Below.refl _ _) _) _) _)⟩
  rw [hW]
  clear hW
  obtain ⟨bU, hp⟩ : ∃ b, w.heap.size + 1 + 1 = b := ⟨_, rfl⟩
  rw [hp] at gU ⊢
  clear hp
  obtain ⟨bX, hp⟩ : ∃ b, w.heap.size + 1 = b := ⟨_, rfl⟩
  rw [hp] at gX ⊢
  clear hp
  obtain ⟨bP, hp⟩ : ∃ b, w.heap.size = b := ⟨_, rfl⟩
  rw [hp] at gP ⊢
  clear hp
  have HP0 := keepd gP
  have HX0 := keepd gX
  have HU0 := keepd gU
  have HB0 := keepd gB
  clear gP gX gU gB
  obtain ⟨rP, kP⟩ := PB.facts HP0.out
  obtain ⟨rX, kX⟩ := SR.trF HX0.out
  go_wp2_with fail
  with_reducible refine (HCs.out _).mono ?_
  rintro e v1 ⟨rfl, hb⟩
  have HP1 := keepd (SR.alloc (SR.call HP0.out hb (SR.lt HP0.out)) (.cells #[.int .i64 c.lv, .int .u8 c.v] 29))
  have HX1 := keepd (SR.alloc (SR.call HX0.out hb (SR.lt HX0.out)) (.cells #[.int .i64 c.lv, .int .u8 c.v] 29))
  have HU1 := keepd (SR.alloc (SR.call HU0.out hb (SR.lt HU0.out)) (.cells #[.int .i64 c.lv, .int .u8 c.v] 29))
  have HB1 := keepd (bAlloc (bCall HB0.out hb) (.cells #[.int .i64 c.lv, .int .u8 c.v] 29))
  have HC1 : Hid (SR 29 (v1.alloc (.cells #[.int .i64 c.lv, .int .u8 c.v] 29)) v1.heap.size (cl c)) := SR.new 29 v1 (cl c)
  clear hb rP kP rX kX HP0 HX0 HU0 HB0 HCs
  go_upto_region 2 with fail
  obtain ⟨w1, hw⟩ : ∃ W, v1.alloc (.cells #[.int .i64 c.lv, .int .u8 c.v] 29) = W := ⟨_, rfl⟩
  rw [hw] at HP1 HX1 HU1 HC1 HB1 ⊢
  clear hw
  obtain ⟨bC, hp⟩ : ∃ p, v1.heap.size = p := ⟨_, rfl⟩
  rw [hp] at HC1 ⊢
  clear hp
  obtain ⟨rP, kP⟩ := PB.facts HP1.out
  obtain ⟨rX, kX⟩ := SR.trF HX1.out
  go_wp2_with fail
  with_reducible refine (HAn.out _).mono ?_
  rintro e v2 ⟨rfl, hb⟩
  have HP2 := keepd (SR.alloc (SR.call HP1.out hb (SR.lt HP1.out)) (.cells #[.int .i64 y.f, .int .i64 y.lv, .bool y.a, .bool y.i, .bool y.o, .int .u8 y.v] 27))
  have HX2 := keepd (SR.alloc (SR.call HX1.out hb (SR.lt HX1.out)) (.cells #[.int .i64 y.f, .int .i64 y.lv, .bool y.a, .bool y.i, .bool y.o, .int .u8 y.v] 27))
  have HU2 := keepd (SR.alloc (SR.call HU1.out hb (SR.lt HU1.out)) (.cells #[.int .i64 y.f, .int .i64 y.lv, .bool y.a, .bool y.i, .bool y.o, .int .u8 y.v] 27))
  have HC2 := keepd (SR.alloc (SR.call HC1.out hb (SR.lt HC1.out)) (.cells #[.int .i64 y.f, .int .i64 y.lv, .bool y.a, .bool y.i, .bool y.o, .int .u8 y.v] 27))
  have HB2 := keepd (bAlloc (bCall HB1.out hb) (.cells #[.int .i64 y.f, .int .i64 y.lv, .bool y.a, .bool y.i, .bool y.o, .int .u8 y.v] 27))
  have HY2 : Hid (SR 27 (v2.alloc (.cells #[.int .i64 y.f, .int .i64 y.lv, .bool y.a, .bool y.i, .bool y.o, .int .u8 y.v] 27)) v2.heap.size (Tr.cells y)) := SR.new 27 v2 (Tr.cells y)
  clear hb rP kP rX kX HP1 HX1 HU1 HC1 HB1 HAn
  go_upto_region 3 with fail
  obtain ⟨w2, hw⟩ : ∃ W, v2.alloc (.cells #[.int .i64 y.f, .int .i64 y.lv, .bool y.a, .bool y.i, .bool y.o, .int .u8 y.v] 27) = W := ⟨_, rfl⟩
  rw [hw] at HP2 HX2 HU2 HC2 HY2 HB2 ⊢
  clear hw
  obtain ⟨bY, hp⟩ : ∃ p, v2.heap.size = p := ⟨_, rfl⟩
  rw [hp] at HY2 ⊢
  clear hp
  obtain ⟨rP, kP⟩ := PB.facts HP2.out
  go_wp2_with fail
  with_reducible refine (HFi.out _).mono ?_
  rintro e v3 ⟨rfl, hb⟩
  have HP3 := keepd (SR.alloc (SR.call HP2.out hb (SR.lt HP2.out)) (.cells (cs F).toArray 31))
  have HX3 := keepd (SR.alloc (SR.call HX2.out hb (SR.lt HX2.out)) (.cells (cs F).toArray 31))
  have HU3 := keepd (SR.alloc (SR.call HU2.out hb (SR.lt HU2.out)) (.cells (cs F).toArray 31))
  have HC3 := keepd (SR.alloc (SR.call HC2.out hb (SR.lt HC2.out)) (.cells (cs F).toArray 31))
  have HY3 := keepd (SR.alloc (SR.call HY2.out hb (SR.lt HY2.out)) (.cells (cs F).toArray 31))
  have HB3 := keepd (bAlloc (bCall HB2.out hb) (.cells (cs F).toArray 31))
  have HF3 : Hid (SR 31 (v3.alloc (.cells (cs F).toArray 31)) v3.heap.size (cs F)) := SR.new 31 v3 (cs F)
  clear hb rP kP HP2 HX2 HU2 HC2 HY2 HB2 HFi
  go_upto_region 4 with fail
  obtain ⟨w3, hw⟩ : ∃ W, v3.alloc (.cells (cs F).toArray 31) = W := ⟨_, rfl⟩
  rw [hw] at HP3 HX3 HU3 HC3 HY3 HF3 HB3 ⊢
  clear hw
  obtain ⟨bF, hp⟩ : ∃ p, v3.heap.size = p := ⟨_, rfl⟩
  rw [hp] at HF3 ⊢
  clear hp
  obtain ⟨rU, kU⟩ := TB.facts HU3.out
  go_wp2_with fail
  with_reducible refine (HWh.out _).mono ?_
  rintro e w4 ⟨A, cc, rfl, hr, hb⟩
  have HR4 := keepd hr
  have HP4 := keepd (SR.call HP3.out hb (SR.lt HP3.out))
  have HX4 := keepd (SR.call HX3.out hb (SR.lt HX3.out))
  have HU4 := keepd (SR.call HU3.out hb (SR.lt HU3.out))
  have HC4 := keepd (SR.call HC3.out hb (SR.lt HC3.out))
  have HY4 := keepd (SR.call HY3.out hb (SR.lt HY3.out))
  have HF4 := keepd (SR.call HF3.out hb (SR.lt HF3.out))
  have HB4 := keepd (bCall HB3.out hb)
  clear hb hr rU kU HWh HP3 HX3 HU3 HC3 HY3 HF3 HB3
  go_upto_region 5 with fail
  refine wp_region_held_drew (S := ST bP bX bC bY bF X x c y F) (by kernel_rfl) (ST.of HP4.out HX4.out HC4.out HY4.out HF4.out) (fun hHeld => ?_)
  refine wpAnyH_take (i := 0) (oi := { dst := some 37, op := Op.load 25 (Operand.tmp 3), type := 25, pos := "law.go:28", after := #[], guard := none }) (v := tv X) rfl (by kernel_rfl) (by kernel_rfl) (by kernel_rfl) (fun _ _ _ h => h) (Or.inl ⟨by rfl, fun W hW => ?_⟩) hHeld ?_
  · obtain ⟨q1, q2, q3, q4, q5, q6, q7, q8, q9, q10⟩ := hW
    go_simp
  simp only [Act.put, List.setIfInBounds_toArray, List.set_cons_zero, List.set_cons_succ]
  refine wpAnyH_take (i := 3) (oi := { dst := some 40, op := Op.load 25 (Operand.tmp 3), type := 25, pos := "law.go:28", after := #[], guard := none }) (v := tv X) rfl (by kernel_rfl) (by kernel_rfl) (by kernel_rfl) (fun _ _ _ h => h) (Or.inl ⟨by rfl, fun W hW => ?_⟩) hHeld ?_
  · obtain ⟨q1, q2, q3, q4, q5, q6, q7, q8, q9, q10⟩ := hW
    go_simp
  simp only [Act.put, List.setIfInBounds_toArray, List.set_cons_zero, List.set_cons_succ]
  refine wpAnyH_ready (rs := [1]) (by kernel_rfl) (by simp) ?_
  refine AllReadyH.cons (o := { dst := some 38, op := Op.call { callee := Callee.value (Operand.func 13), args := #[Operand.tmp 37], argTypes := #[25] }, type := 32, pos := "law.go:28", after := #[{ on := 0, ground := Ground.data }], guard := none }) rfl (fun K hK => ?_) AllReadyH.nil
  go_simp
  with_reducible refine (HCk.out _).mono ?_
  rintro e w5 ⟨rfl, hb5⟩
  have hb5 : Below w4.heap.size w4 w5 := noDrew hb5
  have HP5 := keepd (SR.call HP4.out hb5 (SR.lt HP4.out))
  have HX5 := keepd (SR.call HX4.out hb5 (SR.lt HX4.out))
  have HU5 := keepd (SR.call HU4.out hb5 (SR.lt HU4.out))
  have HC5 := keepd (SR.call HC4.out hb5 (SR.lt HC4.out))
  have HY5 := keepd (SR.call HY4.out hb5 (SR.lt HY4.out))
  have HF5 := keepd (SR.call HF4.out hb5 (SR.lt HF4.out))
  have HR5 := keepd (HR4.out.at_ hb5)
  have HB5 := keepd (bCall HB4.out hb5)
  clear hb5 HP4 HX4 HU4 HC4 HY4 HF4 HR4 HB4
  go_wp2_with fail
  refine hK.out _ _ (ST.of HP5.out HX5.out HC5.out HY5.out HF5.out) (fun hHeld2 => ?_)
  clear hK K hHeld
  have hHeld := hHeld2
  clear hHeld2
  try simp only [Act.put, List.setIfInBounds_toArray, List.set_cons_zero, List.set_cons_succ]
  refine wpAnyH_take (i := 2) (oi := { dst := some 39, op := Op.binOp BinOp.eql 32 (Operand.tmp 38) (Operand.const (Value.int IntKind.i64 0)) 32, type := 4, pos := "law.go:28", after := #[{ on := 1, ground := Ground.data }], guard := none }) (v := .bool false) rfl (by kernel_rfl) (by kernel_rfl) (by kernel_rfl) (fun _ _ _ h => h) (Or.inl ⟨by rfl, fun W hW => ?_⟩) hHeld ?_
  · obtain ⟨q1, q2, q3, q4, q5, q6, q7, q8, q9, q10⟩ := hW
    go_simp
  simp only [Act.put, List.setIfInBounds_toArray, List.set_cons_zero, List.set_cons_succ]
  refine wpAnyH_ready (rs := [4]) (by kernel_rfl) (by simp) ?_
  refine AllReadyH.cons (o := { dst := some 41, op := Op.call { callee := Callee.value (Operand.func 14), args := #[Operand.tmp 40], argTypes := #[25] }, type := 4, pos := "law.go:28", after := #[{ on := 3, ground := Ground.data }, { on := 1, ground := Ground.chain }], guard := none }) rfl (fun K hK => ?_) AllReadyH.nil
  go_simp
  with_reducible refine (HMp.out _).mono ?_
  rintro e w6 ⟨rfl, hb6⟩
  have HP6 := keepd (SR.call HP5.out hb6 (SR.lt HP5.out))
  have HX6 := keepd (SR.call HX5.out hb6 (SR.lt HX5.out))
  have HU6 := keepd (SR.call HU5.out hb6 (SR.lt HU5.out))
  have HC6 := keepd (SR.call HC5.out hb6 (SR.lt HC5.out))
  have HY6 := keepd (SR.call HY5.out hb6 (SR.lt HY5.out))
  have HF6 := keepd (SR.call HF5.out hb6 (SR.lt HF5.out))
  have HR6 := keepd (HR5.out.at_ hb6)
  have HB6 := keepd (bCall HB5.out hb6)
  clear hb6 HP5 HX5 HU5 HC5 HY5 HF5 HR5 HB5
  go_wp2_with fail
  refine hK.out _ _ (ST.of HP6.out HX6.out HC6.out HY6.out HF6.out) (fun hHeld2 => ?_)
  clear hK K hHeld
  have hHeld := hHeld2
  clear hHeld2
  try simp only [Act.put, List.setIfInBounds_toArray, List.set_cons_zero, List.set_cons_succ]
  refine wpAnyH_take (i := 5) (oi := { dst := some 42, op := Op.binOp BinOp.neq 4 (Operand.tmp 39) (Operand.tmp 41) 4, type := 4, pos := "law.go:28", after := #[{ on := 2, ground := Ground.data }, { on := 4, ground := Ground.data }], guard := none }) (v := .bool false) rfl (by kernel_rfl) (by kernel_rfl) (by kernel_rfl) (fun _ _ _ h => h) (Or.inl ⟨by rfl, fun W hW => ?_⟩) hHeld ?_
  · obtain ⟨q1, q2, q3, q4, q5, q6, q7, q8, q9, q10⟩ := hW
    go_simp
  simp only [Act.put, List.setIfInBounds_toArray, List.set_cons_zero, List.set_cons_succ]
  refine wpAnyH_done (by kernel_rfl) ?_ _
  clear hHeld
  obtain ⟨rP, kP⟩ := PB.facts HP6.out
  go_wp2_with fail
  with_reducible refine (HMp.out _).mono ?_
  rintro e w7 ⟨rfl, hb⟩
  have HP7 := keepd (SR.call HP6.out hb (SR.lt HP6.out))
  have HX7 := keepd (SR.call HX6.out hb (SR.lt HX6.out))
  have HU7 := keepd (SR.call HU6.out hb (SR.lt HU6.out))
  have HC7 := keepd (SR.call HC6.out hb (SR.lt HC6.out))
  have HY7 := keepd (SR.call HY6.out hb (SR.lt HY6.out))
  have HF7 := keepd (SR.call HF6.out hb (SR.lt HF6.out))
  have HR7 := keepd (HR6.out.at_ hb)
  have HB7 := keepd (bCall HB6.out hb)
  clear hb HP6 HX6 HU6 HC6 HY6 HF6 HR6 HB6
  clear rP kP
  obtain ⟨rC, kC, _, _⟩ := SR.clF HC7.out
  obtain ⟨rY, kY⟩ := SR.trF HY7.out
  have hc0 : c.lv = 0 := by rw [HCe.out]
  have hc1 : c.v = 0 := by rw [HCe.out]
  have y0 : y.f = 0 := by rw [HYe.out]; rfl
  have y1 : y.lv = 0 := by rw [HYe.out]; rfl
  have y2 : y.a = false := by rw [HYe.out]; rfl
  have y3 : y.i = false := by rw [HYe.out]; rfl
  have y4 : y.o = false := by rw [HYe.out]; rfl
  have y5 : y.v = 0 := by rw [HYe.out]; rfl
  have hs := sameTr_self ⟨0, 0, false, false, false, 0⟩
  go_upto_region 12 with fail
  clear hc0 hc1 y0 y1 y2 y3 y4 y5 hs rC kC rY kY
  have hF : sameT F zT = true := by rw [HFe.out]; exact sameT_self zT
  refine wp_region_held_drew (S := ST bP bX bC bY bF X x c y F) (by kernel_rfl) (ST.of HP7.out HX7.out HC7.out HY7.out HF7.out) (fun hHeld => ?_)
  refine wpAnyH_take (i := 0) (oi := { dst := some 87, op := Op.load 25 (Operand.tmp 3), type := 25, pos := "law.go:38", after := #[], guard := none }) (v := tv X) rfl (by kernel_rfl) (by kernel_rfl) (by kernel_rfl) (fun _ _ _ h => h) (Or.inl ⟨by rfl, fun W hW => ?_⟩) hHeld ?_
  · obtain ⟨q1, q2, q3, q4, q5, q6, q7, q8, q9, q10⟩ := hW
    go_simp
  simp only [Act.put, List.setIfInBounds_toArray, List.set_cons_zero, List.set_cons_succ]
  refine wpAnyH_ready (rs := [1]) (by kernel_rfl) (by simp) ?_
  refine AllReadyH.cons (o := { dst := some 88, op := Op.call { callee := Callee.value (Operand.func 14), args := #[Operand.tmp 87], argTypes := #[25] }, type := 4, pos := "law.go:38", after := #[{ on := 0, ground := Ground.data }], guard := none }) rfl (fun K hK => ?_) AllReadyH.nil
  go_simp
  with_reducible refine (HMp.out _).mono ?_
  rintro e w8 ⟨rfl, hb8⟩
  have hb8 : Below w7.heap.size w7 w8 := noDrew hb8
  have HP8 := keepd (SR.call HP7.out hb8 (SR.lt HP7.out))
  have HX8 := keepd (SR.call HX7.out hb8 (SR.lt HX7.out))
  have HU8 := keepd (SR.call HU7.out hb8 (SR.lt HU7.out))
  have HC8 := keepd (SR.call HC7.out hb8 (SR.lt HC7.out))
  have HY8 := keepd (SR.call HY7.out hb8 (SR.lt HY7.out))
  have HF8 := keepd (SR.call HF7.out hb8 (SR.lt HF7.out))
  have HR8 := keepd (HR7.out.at_ hb8)
  have HB8 := keepd (bCall HB7.out hb8)
  clear hb8 HP7 HX7 HU7 HC7 HY7 HF7 HR7 HB7
  go_wp2_with fail
  refine hK.out _ _ (ST.of HP8.out HX8.out HC8.out HY8.out HF8.out) (fun hHeld2 => ?_)
  clear hK K hHeld
  have hHeld := hHeld2
  clear hHeld2
  try simp only [Act.put, List.setIfInBounds_toArray, List.set_cons_zero, List.set_cons_succ]
  refine wpAnyH_take (i := 2) (oi := { dst := some 89, op := Op.unOp UnOp.not 4 (Operand.tmp 88), type := 4, pos := "law.go:38", after := #[{ on := 1, ground := Ground.data }], guard := none }) (v := .bool true) rfl (by kernel_rfl) (by kernel_rfl) (by kernel_rfl) (fun _ _ _ h => h) (Or.inl ⟨by rfl, fun W hW => ?_⟩) hHeld ?_
  · obtain ⟨q1, q2, q3, q4, q5, q6, q7, q8, q9, q10⟩ := hW
    go_simp
  simp only [Act.put, List.setIfInBounds_toArray, List.set_cons_zero, List.set_cons_succ]
  refine wpAnyH_take (i := 3) (oi := { dst := some 90, op := Op.move (Operand.tmp 89), type := 4, pos := "law.go:38", after := #[{ on := 2, ground := Ground.data }, { on := 1, ground := Ground.chain }], guard := none }) (v := .bool true) rfl (by kernel_rfl) (by kernel_rfl) (by kernel_rfl) (fun _ _ _ h => h) (Or.inl ⟨by rfl, fun W hW => ?_⟩) hHeld ?_
  · obtain ⟨q1, q2, q3, q4, q5, q6, q7, q8, q9, q10⟩ := hW
    go_simp
  simp only [Act.put, List.setIfInBounds_toArray, List.set_cons_zero, List.set_cons_succ]
  refine wpAnyH_take (i := 4) (oi := { dst := some 91, op := Op.load 31 (Operand.tmp 11), type := 31, pos := "law.go:38", after := #[{ on := 3, ground := Ground.guard }], guard := some (3, true) }) (v := tv F) rfl (by kernel_rfl) (by kernel_rfl) (by kernel_rfl) (fun _ _ _ h => h) (Or.inl ⟨by rfl, fun W hW => ?_⟩) hHeld ?_
  · obtain ⟨q1, q2, q3, q4, q5, q6, q7, q8, q9, q10⟩ := hW
    go_simp
  simp only [Act.put, List.setIfInBounds_toArray, List.set_cons_zero, List.set_cons_succ]
  refine wpAnyH_take (i := 5) (oi := { dst := some 92, op := Op.build 31 #[], type := 31, pos := "law.go:38", after := #[{ on := 3, ground := Ground.guard }], guard := some (3, true) }) (v := tv zT) rfl (by kernel_rfl) (by kernel_rfl) (by kernel_rfl) (fun _ _ _ h => h) (Or.inl ⟨by rfl, fun W hW => ?_⟩) hHeld ?_
  · obtain ⟨q1, q2, q3, q4, q5, q6, q7, q8, q9, q10⟩ := hW
    go_simp
  simp only [Act.put, List.setIfInBounds_toArray, List.set_cons_zero, List.set_cons_succ]
  refine wpAnyH_take (i := 6) (oi := { dst := some 93, op := Op.binOp BinOp.neq 31 (Operand.tmp 91) (Operand.tmp 92) 31, type := 4, pos := "law.go:38", after := #[{ on := 4, ground := Ground.data }, { on := 5, ground := Ground.data }, { on := 3, ground := Ground.guard }], guard := some (3, true) }) (v := .bool false) rfl (by kernel_rfl) (by kernel_rfl) (by kernel_rfl) (fun _ _ _ h => h) (Or.inl ⟨by rfl, fun W hW => ?_⟩) hHeld ?_
  · obtain ⟨q1, q2, q3, q4, q5, q6, q7, q8, q9, q10⟩ := hW
    go_simp
  simp only [Act.put, List.setIfInBounds_toArray, List.set_cons_zero, List.set_cons_succ]
  refine wpAnyH_take (i := 7) (oi := { dst := some 94, op := Op.move (Operand.tmp 93), type := 4, pos := "law.go:38", after := #[{ on := 6, ground := Ground.data }, { on := 3, ground := Ground.chain }, { on := 3, ground := Ground.guard }], guard := some (3, true) }) (v := .bool false) rfl (by kernel_rfl) (by kernel_rfl) (by kernel_rfl) (fun _ _ _ h => h) (Or.inl ⟨by rfl, fun W hW => ?_⟩) hHeld ?_
  · obtain ⟨q1, q2, q3, q4, q5, q6, q7, q8, q9, q10⟩ := hW
    go_simp
  simp only [Act.put, List.setIfInBounds_toArray, List.set_cons_zero, List.set_cons_succ]
  refine wpAnyH_take (i := 8) (oi := { dst := some 95, op := Op.move (Operand.tmp 12), type := 32, pos := "law.go:38", after := #[{ on := 7, ground := Ground.guard }], guard := some (7, false) }) (v := .int .i64 1) rfl (by kernel_rfl) (by kernel_rfl) (by kernel_rfl) (fun _ _ _ h => h) (Or.inl ⟨by rfl, fun W hW => ?_⟩) hHeld ?_
  · obtain ⟨q1, q2, q3, q4, q5, q6, q7, q8, q9, q10⟩ := hW
    go_simp
  simp only [Act.put, List.setIfInBounds_toArray, List.set_cons_zero, List.set_cons_succ]
  refine wpAnyH_take (i := 9) (oi := { dst := some 96, op := Op.binOp BinOp.neq 32 (Operand.tmp 95) (Operand.const (Value.int IntKind.i64 1)) 32, type := 4, pos := "law.go:38", after := #[{ on := 8, ground := Ground.data }, { on := 7, ground := Ground.guard }], guard := some (7, false) }) (v := .bool false) rfl (by kernel_rfl) (by kernel_rfl) (by kernel_rfl) (fun _ _ _ h => h) (Or.inl ⟨by rfl, fun W hW => ?_⟩) hHeld ?_
  · obtain ⟨q1, q2, q3, q4, q5, q6, q7, q8, q9, q10⟩ := hW
    go_simp
  simp only [Act.put, List.setIfInBounds_toArray, List.set_cons_zero, List.set_cons_succ]
  refine wpAnyH_take (i := 10) (oi := { dst := some 97, op := Op.pick (Operand.tmp 94) (Operand.const (Value.bool true)) (Operand.tmp 96), type := 4, pos := "law.go:38", after := #[{ on := 7, ground := Ground.data }, { on := 9, ground := Ground.data }, { on := 3, ground := Ground.guard }], guard := some (3, true) }) (v := .bool false) rfl (by kernel_rfl) (by kernel_rfl) (by kernel_rfl) (fun _ _ _ h => h) (Or.inl ⟨by rfl, fun W hW => ?_⟩) hHeld ?_
  · obtain ⟨q1, q2, q3, q4, q5, q6, q7, q8, q9, q10⟩ := hW
    go_simp
  simp only [Act.put, List.setIfInBounds_toArray, List.set_cons_zero, List.set_cons_succ]
  refine wpAnyH_take (i := 11) (oi := { dst := some 98, op := Op.pick (Operand.tmp 90) (Operand.tmp 97) (Operand.const (Value.bool false)), type := 4, pos := "law.go:38", after := #[{ on := 3, ground := Ground.data }, { on := 10, ground := Ground.data }], guard := none }) (v := .bool false) rfl (by kernel_rfl) (by kernel_rfl) (by kernel_rfl) (fun _ _ _ h => h) (Or.inl ⟨by rfl, fun W hW => ?_⟩) hHeld ?_
  · obtain ⟨q1, q2, q3, q4, q5, q6, q7, q8, q9, q10⟩ := hW
    go_simp
  simp only [Act.put, List.setIfInBounds_toArray, List.set_cons_zero, List.set_cons_succ]
  refine wpAnyH_take (i := 12) (oi := { dst := some 99, op := Op.move (Operand.tmp 98), type := 4, pos := "law.go:38", after := #[{ on := 11, ground := Ground.data }, { on := 7, ground := Ground.chain }], guard := none }) (v := .bool false) rfl (by kernel_rfl) (by kernel_rfl) (by kernel_rfl) (fun _ _ _ h => h) (Or.inl ⟨by rfl, fun W hW => ?_⟩) hHeld ?_
  · obtain ⟨q1, q2, q3, q4, q5, q6, q7, q8, q9, q10⟩ := hW
    go_simp
  simp only [Act.put, List.setIfInBounds_toArray, List.set_cons_zero, List.set_cons_succ]
  refine wpAnyH_take (i := 13) (oi := { dst := some 100, op := Op.load 25 (Operand.tmp 3), type := 25, pos := "law.go:38", after := #[{ on := 12, ground := Ground.guard }], guard := some (12, false) }) (v := tv X) rfl (by kernel_rfl) (by kernel_rfl) (by kernel_rfl) (fun _ _ _ h => h) (Or.inl ⟨by rfl, fun W hW => ?_⟩) hHeld ?_
  · obtain ⟨q1, q2, q3, q4, q5, q6, q7, q8, q9, q10⟩ := hW
    go_simp
  simp only [Act.put, List.setIfInBounds_toArray, List.set_cons_zero, List.set_cons_succ]
  refine wpAnyH_ready (rs := [14]) (by kernel_rfl) (by simp) ?_
  refine AllReadyH.cons (o := { dst := some 101, op := Op.call { callee := Callee.value (Operand.func 14), args := #[Operand.tmp 100], argTypes := #[25] }, type := 4, pos := "law.go:38", after := #[{ on := 13, ground := Ground.data }, { on := 12, ground := Ground.chain }, { on := 12, ground := Ground.guard }], guard := some (12, false) }) rfl (fun K hK => ?_) AllReadyH.nil
  go_simp
  with_reducible refine (HMp.out _).mono ?_
  rintro e w9 ⟨rfl, hb9⟩
  have HP9 := keepd (SR.call HP8.out hb9 (SR.lt HP8.out))
  have HX9 := keepd (SR.call HX8.out hb9 (SR.lt HX8.out))
  have HU9 := keepd (SR.call HU8.out hb9 (SR.lt HU8.out))
  have HC9 := keepd (SR.call HC8.out hb9 (SR.lt HC8.out))
  have HY9 := keepd (SR.call HY8.out hb9 (SR.lt HY8.out))
  have HF9 := keepd (SR.call HF8.out hb9 (SR.lt HF8.out))
  have HR9 := keepd (HR8.out.at_ hb9)
  have HB9 := keepd (bCall HB8.out hb9)
  clear hb9 HP8 HX8 HU8 HC8 HY8 HF8 HR8 HB8
  go_wp2_with fail
  refine hK.out _ _ (ST.of HP9.out HX9.out HC9.out HY9.out HF9.out) (fun hHeld2 => ?_)
  clear hK K hHeld
  have hHeld := hHeld2
  clear hHeld2
  try simp only [Act.put, List.setIfInBounds_toArray, List.set_cons_zero, List.set_cons_succ]
  refine wpAnyH_take (i := 15) (oi := { dst := some 102, op := Op.move (Operand.tmp 101), type := 4, pos := "law.go:38", after := #[{ on := 14, ground := Ground.data }, { on := 14, ground := Ground.chain }, { on := 12, ground := Ground.guard }], guard := some (12, false) }) (v := .bool false) rfl (by kernel_rfl) (by kernel_rfl) (by kernel_rfl) (fun _ _ _ h => h) (Or.inl ⟨by rfl, fun W hW => ?_⟩) hHeld ?_
  · obtain ⟨q1, q2, q3, q4, q5, q6, q7, q8, q9, q10⟩ := hW
    go_simp
  simp only [Act.put, List.setIfInBounds_toArray, List.set_cons_zero, List.set_cons_succ]
  refine wpAnyH_take (i := 16) (oi := { dst := some 103, op := Op.load 31 (Operand.tmp 11), type := 31, pos := "law.go:38", after := #[{ on := 15, ground := Ground.guard }], guard := some (15, true) }) (v := undef) rfl (by kernel_rfl) (by kernel_rfl) (by kernel_rfl) (fun _ _ _ h => h) (Or.inr ⟨by rfl, rfl⟩) hHeld ?_
  simp only [Act.put, List.setIfInBounds_toArray, List.set_cons_zero, List.set_cons_succ]
  refine wpAnyH_take (i := 17) (oi := { dst := some 104, op := Op.load 25 (Operand.tmp 3), type := 25, pos := "law.go:38", after := #[{ on := 15, ground := Ground.guard }], guard := some (15, true) }) (v := undef) rfl (by kernel_rfl) (by kernel_rfl) (by kernel_rfl) (fun _ _ _ h => h) (Or.inr ⟨by rfl, rfl⟩) hHeld ?_
  simp only [Act.put, List.setIfInBounds_toArray, List.set_cons_zero, List.set_cons_succ]
  refine wpAnyH_take (i := 18) (oi := { dst := some 105, op := Op.call { callee := Callee.value (Operand.func 18), args := #[Operand.tmp 104], argTypes := #[25] }, type := 31, pos := "law.go:38", after := #[{ on := 17, ground := Ground.data }, { on := 15, ground := Ground.chain }, { on := 15, ground := Ground.guard }], guard := some (15, true) }) (v := undef) rfl (by kernel_rfl) (by kernel_rfl) (by kernel_rfl) (fun _ _ _ h => h) (Or.inr ⟨by rfl, rfl⟩) hHeld ?_
  simp only [Act.put, List.setIfInBounds_toArray, List.set_cons_zero, List.set_cons_succ]
  refine wpAnyH_take (i := 19) (oi := { dst := some 106, op := Op.binOp BinOp.neq 31 (Operand.tmp 103) (Operand.tmp 105) 31, type := 4, pos := "law.go:38", after := #[{ on := 16, ground := Ground.data }, { on := 18, ground := Ground.data }, { on := 15, ground := Ground.guard }], guard := some (15, true) }) (v := undef) rfl (by kernel_rfl) (by kernel_rfl) (by kernel_rfl) (fun _ _ _ h => h) (Or.inr ⟨by rfl, rfl⟩) hHeld ?_
  simp only [Act.put, List.setIfInBounds_toArray, List.set_cons_zero, List.set_cons_succ]
  refine wpAnyH_take (i := 20) (oi := { dst := some 107, op := Op.move (Operand.tmp 106), type := 4, pos := "law.go:38", after := #[{ on := 19, ground := Ground.data }, { on := 18, ground := Ground.chain }, { on := 15, ground := Ground.guard }], guard := some (15, true) }) (v := undef) rfl (by kernel_rfl) (by kernel_rfl) (by kernel_rfl) (fun _ _ _ h => h) (Or.inr ⟨by rfl, rfl⟩) hHeld ?_
  simp only [Act.put, List.setIfInBounds_toArray, List.set_cons_zero, List.set_cons_succ]
  refine wpAnyH_take (i := 21) (oi := { dst := some 108, op := Op.move (Operand.tmp 12), type := 32, pos := "law.go:38", after := #[{ on := 20, ground := Ground.guard }], guard := some (20, false) }) (v := undef) rfl (by kernel_rfl) (by kernel_rfl) (by kernel_rfl) (fun _ _ _ h => h) (Or.inr ⟨by rfl, rfl⟩) hHeld ?_
  simp only [Act.put, List.setIfInBounds_toArray, List.set_cons_zero, List.set_cons_succ]
  refine wpAnyH_take (i := 22) (oi := { dst := some 109, op := Op.binOp BinOp.neq 32 (Operand.tmp 108) (Operand.const (Value.int IntKind.i64 0)) 32, type := 4, pos := "law.go:38", after := #[{ on := 21, ground := Ground.data }, { on := 20, ground := Ground.guard }], guard := some (20, false) }) (v := undef) rfl (by kernel_rfl) (by kernel_rfl) (by kernel_rfl) (fun _ _ _ h => h) (Or.inr ⟨by rfl, rfl⟩) hHeld ?_
  simp only [Act.put, List.setIfInBounds_toArray, List.set_cons_zero, List.set_cons_succ]
  refine wpAnyH_take (i := 23) (oi := { dst := some 110, op := Op.pick (Operand.tmp 107) (Operand.const (Value.bool true)) (Operand.tmp 109), type := 4, pos := "law.go:38", after := #[{ on := 20, ground := Ground.data }, { on := 22, ground := Ground.data }, { on := 15, ground := Ground.guard }], guard := some (15, true) }) (v := undef) rfl (by kernel_rfl) (by kernel_rfl) (by kernel_rfl) (fun _ _ _ h => h) (Or.inr ⟨by rfl, rfl⟩) hHeld ?_
  simp only [Act.put, List.setIfInBounds_toArray, List.set_cons_zero, List.set_cons_succ]
  refine wpAnyH_take (i := 24) (oi := { dst := some 111, op := Op.pick (Operand.tmp 102) (Operand.tmp 110) (Operand.const (Value.bool false)), type := 4, pos := "law.go:38", after := #[{ on := 15, ground := Ground.data }, { on := 23, ground := Ground.data }, { on := 12, ground := Ground.guard }], guard := some (12, false) }) (v := .bool false) rfl (by kernel_rfl) (by kernel_rfl) (by kernel_rfl) (fun _ _ _ h => h) (Or.inl ⟨by rfl, fun W hW => ?_⟩) hHeld ?_
  · obtain ⟨q1, q2, q3, q4, q5, q6, q7, q8, q9, q10⟩ := hW
    go_simp
  simp only [Act.put, List.setIfInBounds_toArray, List.set_cons_zero, List.set_cons_succ]
  refine wpAnyH_take (i := 25) (oi := { dst := some 112, op := Op.pick (Operand.tmp 99) (Operand.const (Value.bool true)) (Operand.tmp 111), type := 4, pos := "law.go:38", after := #[{ on := 12, ground := Ground.data }, { on := 24, ground := Ground.data }], guard := none }) (v := .bool false) rfl (by kernel_rfl) (by kernel_rfl) (by kernel_rfl) (fun _ _ _ h => h) (Or.inl ⟨by rfl, fun W hW => ?_⟩) hHeld ?_
  · obtain ⟨q1, q2, q3, q4, q5, q6, q7, q8, q9, q10⟩ := hW
    go_simp
  simp only [Act.put, List.setIfInBounds_toArray, List.set_cons_zero, List.set_cons_succ]
  refine wpAnyH_done (by kernel_rfl) ?_ _
  clear hHeld
  clear hF HFe
  cases hmU : mayT U
  case false =>
    have HMu := keepd (refMayT_any U false hmU)
    have hw := HWe.out
    unfold wholeF at hw
    rw [hmU] at hw
    simp only [Bool.false_eq_true, if_false, Prod.mk.injEq] at hw
    obtain ⟨rfl, rfl⟩ := hw
    have hn := HLn.out
    obtain rfl : n = 0 := by rw [← hn]; rfl
    clear hmU hn HWe HLn
    obtain ⟨rU, kU⟩ := TB.facts HU9.out
    go_wp2_with fail
    with_reducible refine (HMu.out _).mono ?_
    rintro e w10 ⟨rfl, hb⟩
    have HP10 := keepd (SR.call HP9.out hb (SR.lt HP9.out))
    have HX10 := keepd (SR.call HX9.out hb (SR.lt HX9.out))
    have HU10 := keepd (SR.call HU9.out hb (SR.lt HU9.out))
    have HC10 := keepd (SR.call HC9.out hb (SR.lt HC9.out))
    have HY10 := keepd (SR.call HY9.out hb (SR.lt HY9.out))
    have HF10 := keepd (SR.call HF9.out hb (SR.lt HF9.out))
    have HR10 := keepd (HR9.out.at_ hb)
    have HB10 := keepd (bCall HB9.out hb)
    clear hb HP9 HX9 HU9 HC9 HY9 HF9 HR9 HB9
    clear rU kU
    go_wp2_with fail
    with_reducible refine (HA.out _).mono ?_
    rintro e w9 ⟨rfl, hb9⟩
    have HB9 := keepd (bCall HB10.out hb9)
    clear hb9
    go_wp2
    go_returns
    exact ⟨rfl, HB9.out⟩
  have HMu := keepd (refMayT_any U true hmU)
  have hw := HWe.out
  unfold wholeF at hw
  rw [hmU] at hw
  simp only [if_true, Prod.mk.injEq] at hw
  obtain ⟨rfl, rfl⟩ := hw
  have hn := HLn.out
  obtain rfl : n = 30 := by rw [← hn, wholeL_len]
  clear hmU hn HWe HLn
  obtain ⟨rU, kU⟩ := TB.facts HU9.out
  go_wp2_with fail
  with_reducible refine (HMu.out _).mono ?_
  rintro e w10 ⟨rfl, hb⟩
  have HP10 := keepd (SR.call HP9.out hb (SR.lt HP9.out))
  have HX10 := keepd (SR.call HX9.out hb (SR.lt HX9.out))
  have HU10 := keepd (SR.call HU9.out hb (SR.lt HU9.out))
  have HC10 := keepd (SR.call HC9.out hb (SR.lt HC9.out))
  have HY10 := keepd (SR.call HY9.out hb (SR.lt HY9.out))
  have HF10 := keepd (SR.call HF9.out hb (SR.lt HF9.out))
  have HR10 := keepd (HR9.out.at_ hb)
  have HB10 := keepd (bCall HB9.out hb)
  clear hb HP9 HX9 HU9 HC9 HY9 HF9 HR9 HB9
  clear rU kU
  obtain ⟨rU, kU⟩ := TB.facts HU10.out
  have hcc := HR10.out.1
  have hcm := HR10.out.2.1
  rw [wholeL_len] at hcc
  unfold maxLen at hcm
  go_wp2_with fail
  with_reducible refine (refWhole_any U _).mono ?_
  rintro e w11 ⟨A2, c2, rfl, hr2, hb⟩
  have HR11 := keepd (HR10.out.at_ hb)
  have HQ11 := keepd hr2
  have HB11 := keepd (bCall HB10.out hb)
  have hcc2 := hr2.1
  have hcm2 := hr2.2.1
  rw [wholeL_len] at hcc2
  unfold maxLen at hcm2
  clear hb hr2 rU kU HR10 HB10 HP10 HX10 HU10 HC10 HY10 HF10
  have HSm := keepd (same_any A A2 (wholeL U 30) (wholeL U 30) 30 30 cc c2 true w11 (wholeL_len U 30).symm (wholeL_len U 30).symm HR11.out HQ11.out (decide_eq_true rfl))
  go_wp2_with fail
  with_reducible refine HSm.out.mono ?_
  rintro e w12 ⟨rfl, hb⟩
  have HB12 := keepd (bCall HB11.out hb)
  clear hb HSm HR11 HQ11 HB11
  go_wp2_with fail
  with_reducible refine (HA.out _).mono ?_
  rintro e w9 ⟨rfl, hb9⟩
  have HB9 := keepd (bCall HB12.out hb9)
  clear hb9
  go_wp2
  go_returns
  exact ⟨rfl, HB9.out⟩

end Go.Proofs.Ytjchkpnfdamgnaa
