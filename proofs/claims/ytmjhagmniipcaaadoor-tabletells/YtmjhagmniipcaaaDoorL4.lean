/-
  The law TableWith. No conditions beyond those each theorem states.
-/
import Derived.Test.YtmjhagmniipcaaaDoorL3
namespace Go.Proofs.YtmjhagmniipcaaaDoor
open Go.RowKit
set_option maxRecDepth 100000

attribute [local go_sem ↓] ex_ld25 ex_st25 ex_al25 ex_bu25 ex_ix25 ex_eq25 ex_ne25 ex_eq23 ex_ne23
attribute [local go_sem] ptrB_at okPtr_at aggC_at agg62 isC_at isT_at eqV_t eqV_c isRow_new World.setRow_alloc_new

theorem mean_congr {X Y : Tb} {q : Int} (h : ∀ i, i < 31 → has X q i = has Y q i) : meanF X q = meanF Y q := by
  have : firstF X q = firstF Y q := by
    rcases mean_cases Y q with ⟨e, _⟩ | ⟨e, _, h2⟩ | ⟨e, h1, h2, h3, h4⟩
    · unfold firstF
      have : ∀ l : List Nat, (∀ i ∈ l, i < 31) → l.find? (has X q) = l.find? (has Y q) := by
        intro l
        induction l with
        | nil => intro _; rfl
        | cons a l ih =>
          intro hl
          rw [List.find?_cons, List.find?_cons, h a (hl a (List.mem_cons_self ..)), ih fun i hi => hl i (List.mem_cons_of_mem _ hi)]
      rw [this _ fun i hi => List.mem_range.1 hi]
    · rw [first_none h2, first_none fun i hi => (h i hi).trans (h2 i hi)]
    · rw [first_some h2 h3 h4, first_some h2 ((h _ h2).trans h3) fun i hi => (h i (by omega)).trans (h4 i hi)]
  unfold meanF
  rw [this]
theorem mayT_congr {X Y : Tb} (h : ∀ i, i < 31 → X i = Y i) : mayT X = mayT Y := by
  rw [Bool.eq_iff_iff, mayT_iff, mayT_iff]
  constructor
  · rintro ⟨a, b⟩
    exact ⟨(h 0 (by omega)).symm.trans a, fun i hi => by rw [← h i hi]; exact b i hi⟩
  · rintro ⟨a, b⟩
    exact ⟨(h 0 (by omega)).trans a, fun i hi => by rw [h i hi]; exact b i hi⟩

theorem with_ways (X : Tb) (f : Int) (c : Cl) : withF X f c = (X, 1) ∨ ∃ n : Nat, f = (n : Int) ∧ 0 < n ∧ n < 31 ∧ mayT (tset X n c) = true ∧ withF X f c = (tset X n c, 0) := by
  unfold withF
  by_cases h : 0 < f ∧ f < 31 ∧ mayT (tset X f.toNat c) = true
  · exact .inr ⟨f.toNat, by omega, by omega, by omega, h.2.2, by rw [if_pos h]⟩
  · exact .inl (by rw [if_neg h])

/-- The key is one that the cell had, or has. -/
def touchB (X : Tb) (n : Nat) (c : Cl) (q : Int) : Bool := (q == c.v && !(c.lv == 0)) || (q == (X n).v && !((X n).lv == 0))
theorem same_touch {X : Tb} {n : Nat} {c : Cl} {q : Int} : ((meanF (tset X n c) q : Int) == (meanF X q : Int) || touchB X n c q) = true := by
  cases ht : touchB X n c q
  · rw [Bool.or_false]
    have : meanF (tset X n c) q = meanF X q := by
      refine mean_congr fun i _ => ?_
      by_cases e : i = n
      · subst e
        unfold touchB at ht
        rw [Bool.or_eq_false_iff] at ht
        have e1 : has (tset X i c) q i = false := by
          rw [has_no, tset_at]
          rintro ⟨_, h2, h3⟩
          have := ht.1
          rw [h3] at this
          simp [h2] at this
        have e2 : has X q i = false := by
          rw [has_no]
          rintro ⟨_, h2, h3⟩
          have := ht.2
          rw [h3] at this
          simp [h2] at this
        rw [e1, e2]
      · unfold has
        rw [tset_ne X c e]
    rw [this]
    simp
  · rw [Bool.or_true]

/-- Changed back. -/
theorem back_facts {X : Tb} {n : Nat} {c : Cl} (h0 : 0 < n) (hn : n < 31) (hm : mayT (tset X n c) = true) :
    ∃ Z e z, withF (tset X n c) (n : Int) (X n) = (Z, e) ∧ mayT Z = true ∧ sameT Z X = z ∧ (e == 0) = z := by
  have hs : ∀ i, i < 31 → tset (tset X n c) n (X n) i = X i := fun i _ => by
    by_cases e : i = n
    · subst e; rw [tset_at]
    · rw [tset_ne _ _ e, tset_ne _ _ e]
  have hmx : mayT (tset (tset X n c) n (X n)) = mayT X := mayT_congr hs
  unfold withF
  rw [Int.toNat_natCast, hmx]
  cases hx : mayT X
  · refine ⟨tset X n c, 1, false, by simp, hm, ?_, rfl⟩
    cases hq : sameT (tset X n c) X
    · rfl
    · rw [mayT_congr (sameT_iff.1 hq), hx] at hm
      cases hm
  · exact ⟨tset (tset X n c) n (X n), 0, true, by simp; omega, hmx.trans hx, sameT_iff.2 hs, rfl⟩

theorem two_ch (w : World) (X : Tb) (a : List Value) (W : World) (h : (w.alloc (.cells (cs X).toArray 25)).alloc (.cells a.toArray 27) = W) :
    TB W w.heap.size X ∧ SR 27 W (w.heap.size + 1) a ∧ Below w.heap.size w W := by
  subst h
  exact ⟨heap_alloc2_old w _ _, heap_alloc2_new w _ _, bAlloc (bAlloc (Below.refl _ _) _) _⟩

/-- What is read: two tables, a change. -/
def S4 (V0 : World) (b0 bY b1 n : Nat) (X Y : Tb) (c : Cl) (V : World) : Prop :=
  rowOf V bY = (cs Y).toArray ∧ isRow V 25 bY 62 = true ∧ rowOf V b0 = (cs X).toArray ∧ isRow V 25 b0 62 = true ∧ V.cell? ⟨b1, 0, none⟩ = some (.int .i64 (n : Int)) ∧ V.cell? ⟨b1, 1, none⟩ = some (.int .i64 c.lv) ∧ V.cell? ⟨b1, 2, none⟩ = some (.int .u8 c.v) ∧
  V.cell? ⟨b0, n * 2, none⟩ = some (.int .i64 (X n).lv) ∧ V.cell? ⟨b0, n * 2 + 1, none⟩ = some (.int .u8 (X n).v) ∧ V.cell? ⟨bY, n * 2, none⟩ = some (.int .i64 (Y n).lv) ∧ V.cell? ⟨bY, n * 2 + 1, none⟩ = some (.int .u8 (Y n).v) ∧ Below V0.heap.size V0 V
theorem S4.of {V0 V : World} {b0 bY b1 n : Nat} {X Y : Tb} {c : Cl} (h0 : TB V0 b0 X) (hY : TB V0 bY Y) (h1 : SR 27 V0 b1 (chs (n : Int) c)) (hn : n < 31) (hb : Below V0.heap.size V0 V) : S4 V0 b0 bY b1 n X Y c V := by
  have a0 := SR.call h0 hb (SR.lt h0)
  have aY := SR.call hY hb (SR.lt hY)
  have a1 := SR.call h1 hb (SR.lt h1)
  obtain ⟨r1, k1⟩ := TB.facts a0
  obtain ⟨r2, k2⟩ := TB.facts aY
  obtain ⟨c0, c1, c2⟩ := SR.ch a1
  obtain ⟨d0, d1⟩ := TB.at a0 n hn
  obtain ⟨e0, e1⟩ := TB.at aY n hn
  exact ⟨r2, k2, r1, k1, c0, c1, c2, d0, d1, e0, e1, hb⟩

set_option maxHeartbeats 4000000 in
theorem with_law (X : Tb) (f : Int) (c : Cl) (q : Int) (w : World) (hL : Laid w) : Calls Tryd.prog 5 #[tv X, chv f c, .int .u8 q] w fun e w' => e = .returned (.bool true) ∧ Below w.heap.size w w' := by
  have HA := keepd (fun w h => awake_any w h)
  have HL := keepd hL
  clear hL
  obtain ⟨Y, er, hY⟩ : ∃ Y er, withF X f c = (Y, er) := ⟨_, _, rfl⟩
  have CY := keepd (with_any X f c Y er hY)
  have HW := keepd (with_ways X f c)
  rw [hY] at HW
  clear hY
  go_enter Tryd.func5, Tryd.ntmps5
  go_upto_region 1 with fail
  generalize hW : (w.alloc (.cells (cs X).toArray 25)).alloc (.cells #[.int .i64 f, .int .i64 c.lv, .int .u8 c.v] 27) = W
  obtain ⟨h1, h2, h4⟩ := two_ch w X (chs f c) W hW
  clear hW
  have HT := keepd h1
  have HU := keepd h2
  have HB := keepd h4
  clear h1 h2 h4
  generalize w.heap.size + 1 = b1 at *
  obtain ⟨b0, hb0⟩ : ∃ b, w.heap.size = b := ⟨_, rfl⟩
  rw [hb0] at HT ⊢
  clear hb0
  obtain ⟨r1, k1⟩ := TB.facts HT.out
  obtain ⟨p0, p1, p2⟩ := SR.ch HU.out
  go_wp2_with fail
  with_reducible refine (CY.out _).mono ?_
  rintro e v1 ⟨rfl, hb⟩
  have HT1 := keepd (SR.alloc (SR.call HT.out hb (SR.lt HT.out)) (.cells (cs Y).toArray 25))
  have HU1 := keepd (SR.alloc (SR.call HU.out hb (SR.lt HU.out)) (.cells (cs Y).toArray 25))
  have HB1 := keepd (bAlloc (bCall HB.out hb) (.cells (cs Y).toArray 25))
  have HY1 := keepd (SR.new 25 v1 (cs Y))
  clear hb r1 k1 p0 p1 p2 HT HU HB CY
  go_upto_region 2 with fail
  generalize v1.alloc (.cells (cs Y).toArray 25) = w1 at *
  obtain ⟨bY, hp⟩ : ∃ p, v1.heap.size = p := ⟨_, rfl⟩
  rw [hp] at HY1 ⊢
  clear hp
  rcases HW.out with he | ⟨n, rfl, n0, hn, hmay, he⟩
  · obtain ⟨rfl, rfl⟩ : Y = X ∧ er = 1 := by simpa using he
    obtain ⟨r1, k1⟩ := TB.facts HT1.out
    obtain ⟨r2, k2⟩ := TB.facts HY1.out
    have hs := sameT_self Y
    clear he HW
    go_wp2_with fail
    with_reducible refine (HA.out _ (HL.out.below HB1.out)).mono ?_
    rintro e w9 ⟨rfl, hb9⟩
    have HB9 := keepd (bCall HB1.out hb9)
    clear hb9
    go_wp2
    go_returns
    exact ⟨rfl, HB9.out⟩
  obtain ⟨hY, rfl⟩ : Y = tset X n c ∧ er = 0 := by simpa using he
  clear he HW
  obtain ⟨Z, e2, z, hZ, hmz, hsz, hez⟩ := back_facts n0 hn hmay
  rw [← hY] at hZ hmay
  have HZ := keepd (with_any Y n (X n) Z e2 hZ)
  have HCZ := keepd (check_any Z true hmz)
  have HCY := keepd (check_any Y true hmay)
  obtain ⟨mY, hmY⟩ : ∃ m, meanF Y q = m := ⟨_, rfl⟩
  obtain ⟨mX, hmX⟩ : ∃ m, meanF X q = m := ⟨_, rfl⟩
  have HMY := keepd (meaning_any Y q mY hmY)
  have HMX := keepd (meaning_any X q mX hmX)
  obtain ⟨tc, htc⟩ : ∃ t, touchB X n c q = t := ⟨_, rfl⟩
  have hst := same_touch (X := X) (n := n) (c := c) (q := q)
  rw [← hY, hmY, hmX, htc] at hst
  have HTc := keepd htc
  obtain ⟨sm, hsm⟩ : ∃ t, ((mY : Int) == (mX : Int)) = t := ⟨_, rfl⟩
  rw [hsm] at hst
  have HYn : Hid (Y n = c) := by show _ = _; rw [hY, tset_at]
  have HYi : Hid (∀ i, i ≠ n → Y i = X i) := fun i hi => by rw [hY, tset_ne X c hi]
  have HST := keepd hst
  have HSZ := keepd hsz
  have HEZ := keepd hez
  clear hZ hmz hmay hmY hmX htc hst hY hsz hez
  have i0 : (0 : Int) ≤ (n : Int) := by omega
  have i1 : (n : Int) < 31 := by omega
  have g1 : decide ((n : Int) < 1) = false := decide_eq_false (by omega)
  have g2 : decide ((n : Int) ≥ 31) = false := decide_eq_false (by omega)
  have g3 : decide (31 ≤ (n : Int)) = false := decide_eq_false (by omega)
  obtain ⟨r1, k1⟩ := TB.facts HY1.out
  obtain ⟨p0, p1, p2⟩ := SR.ch HU1.out
  obtain ⟨d0, d1⟩ := TB.at HY1.out n hn
  rw [HYn.out] at d0 d1
  go_upto_region 4 with fail
  go_quiet (fail)
  have HT2 : Hid (TB (w1.drewN nq) b0 X) := HT1.out
  have HU2 : Hid (SR 27 (w1.drewN nq) b1 (chs n c)) := HU1.out
  have HY2 : Hid (TB (w1.drewN nq) bY Y) := HY1.out
  have HB2 := keepd (bDrewN HB1.out nq)
  clear HT1 HU1 HY1 HB1 r1 k1 p0 p1 p2 d0 d1 g1 g2 g3
  generalize w1.drewN nq = V0 at *
  go_upto_region 6 with fail
  refine wp_region_held_drew (S := (S4 V0 b0 bY b1 n X Y c)) (by kernel_rfl) (S4.of HT2.out HY2.out HU2.out hn (Below.drew (Below.refl _ _))) (fun hHeld => ?_)
  refine wpAnyH_take (i := 0) (oi := { dst := some 48, op := Op.load 25 (Operand.tmp 7), type := 25, pos := "law.go:69", after := #[], guard := none }) (v := tv Y) rfl (by kernel_rfl) (by kernel_rfl) (by kernel_rfl) (fun _ _ _ h => h) (Or.inl ⟨by rfl, fun W hW => ?_⟩) hHeld ?_
  · obtain ⟨q1, q2, q3, q4, q5, q6, q7, q8, q9, q10, q11, q12⟩ := hW
    go_simp
  simp only [Act.put, List.setIfInBounds_toArray, List.set_cons_zero, List.set_cons_succ]
  refine wpAnyH_take (i := 1) (oi := { dst := some 49, op := Op.move (Operand.tmp 2), type := 5, pos := "law.go:69", after := #[], guard := none }) (v := .int .u8 q) rfl (by kernel_rfl) (by kernel_rfl) (by kernel_rfl) (fun _ _ _ h => h) (Or.inl ⟨by rfl, fun W hW => ?_⟩) hHeld ?_
  · obtain ⟨q1, q2, q3, q4, q5, q6, q7, q8, q9, q10, q11, q12⟩ := hW
    go_simp
  simp only [Act.put, List.setIfInBounds_toArray, List.set_cons_zero, List.set_cons_succ]
  refine wpAnyH_take (i := 3) (oi := { dst := some 51, op := Op.load 25 (Operand.tmp 3), type := 25, pos := "law.go:69", after := #[], guard := none }) (v := tv X) rfl (by kernel_rfl) (by kernel_rfl) (by kernel_rfl) (fun _ _ _ h => h) (Or.inl ⟨by rfl, fun W hW => ?_⟩) hHeld ?_
  · obtain ⟨q1, q2, q3, q4, q5, q6, q7, q8, q9, q10, q11, q12⟩ := hW
    go_simp
  simp only [Act.put, List.setIfInBounds_toArray, List.set_cons_zero, List.set_cons_succ]
  refine wpAnyH_take (i := 4) (oi := { dst := some 52, op := Op.move (Operand.tmp 2), type := 5, pos := "law.go:69", after := #[], guard := none }) (v := .int .u8 q) rfl (by kernel_rfl) (by kernel_rfl) (by kernel_rfl) (fun _ _ _ h => h) (Or.inl ⟨by rfl, fun W hW => ?_⟩) hHeld ?_
  · obtain ⟨q1, q2, q3, q4, q5, q6, q7, q8, q9, q10, q11, q12⟩ := hW
    go_simp
  simp only [Act.put, List.setIfInBounds_toArray, List.set_cons_zero, List.set_cons_succ]
  refine wpAnyH_ready (rs := [2]) (by kernel_rfl) (by simp) ?_
  refine AllReadyH.cons (o := { dst := some 50, op := Op.call { callee := Callee.value (Operand.func 13), args := #[Operand.tmp 48, Operand.tmp 49], argTypes := #[25, 5] }, type := 3, pos := "law.go:69", after := #[{ on := 0, ground := Ground.data }, { on := 1, ground := Ground.data }], guard := none }) rfl (fun K hK => ?_) AllReadyH.nil
  go_simp
  with_reducible refine (HMY.out _).mono ?_
  rintro e w5 ⟨rfl, hb5⟩
  have hbb : Below V0.heap.size V0 w5 := bCall hHeld.2.2.2.2.2.2.2.2.2.2.2 hb5
  go_wp2_with fail
  refine hK.out _ _ (S4.of HT2.out HY2.out HU2.out hn hbb) (fun hHeld2 => ?_)
  clear hK K hHeld
  have hHeld := hHeld2
  clear hHeld2
  try simp only [Act.put, List.setIfInBounds_toArray, List.set_cons_zero, List.set_cons_succ]
  refine wpAnyH_ready (rs := [5]) (by kernel_rfl) (by simp) ?_
  refine AllReadyH.cons (o := { dst := some 53, op := Op.call { callee := Callee.value (Operand.func 13), args := #[Operand.tmp 51, Operand.tmp 52], argTypes := #[25, 5] }, type := 3, pos := "law.go:69", after := #[{ on := 3, ground := Ground.data }, { on := 4, ground := Ground.data }, { on := 2, ground := Ground.chain }], guard := none }) rfl (fun K hK => ?_) AllReadyH.nil
  go_simp
  with_reducible refine (HMX.out _).mono ?_
  rintro e w6 ⟨rfl, hb6⟩
  have hbc : Below V0.heap.size V0 w6 := bCall hHeld.2.2.2.2.2.2.2.2.2.2.2 hb6
  go_wp2_with fail
  refine hK.out _ _ (S4.of HT2.out HY2.out HU2.out hn hbc) (fun hHeld2 => ?_)
  clear hK K hHeld
  have hHeld := hHeld2
  clear hHeld2
  try simp only [Act.put, List.setIfInBounds_toArray, List.set_cons_zero, List.set_cons_succ]
  refine wpAnyH_take (i := 6) (oi := { dst := some 54, op := Op.binOp BinOp.eql 3 (Operand.tmp 50) (Operand.tmp 53) 3, type := 4, pos := "law.go:69", after := #[{ on := 2, ground := Ground.data }, { on := 5, ground := Ground.data }], guard := none }) (v := .bool sm) rfl (by kernel_rfl) (by kernel_rfl) (by kernel_rfl) (fun _ _ _ h => h) (Or.inl ⟨by rfl, fun W hW => ?_⟩) hHeld ?_
  · obtain ⟨q1, q2, q3, q4, q5, q6, q7, q8, q9, q10, q11, q12⟩ := hW
    go_simp
  simp only [Act.put, List.setIfInBounds_toArray, List.set_cons_zero, List.set_cons_succ]
  refine wpAnyH_take (i := 7) (oi := { dst := some 9, op := Op.assign (Operand.tmp 54), type := 4, pos := "law.go:69", after := #[{ on := 6, ground := Ground.data }, { on := 5, ground := Ground.chain }, { on := 0, ground := Ground.phase }, { on := 1, ground := Ground.phase }, { on := 2, ground := Ground.phase }, { on := 3, ground := Ground.phase }, { on := 4, ground := Ground.phase }, { on := 5, ground := Ground.phase }, { on := 6, ground := Ground.phase }], guard := none }) (v := .bool sm) rfl (by kernel_rfl) (by kernel_rfl) (by kernel_rfl) (fun _ _ _ h => h) (Or.inl ⟨by rfl, fun W hW => ?_⟩) hHeld ?_
  · obtain ⟨q1, q2, q3, q4, q5, q6, q7, q8, q9, q10, q11, q12⟩ := hW
    go_simp
  simp only [Act.put, List.setIfInBounds_toArray, List.set_cons_zero, List.set_cons_succ]
  refine wpAnyH_done (by kernel_rfl) ?_ _
  have HT3 := keepd (SR.call HT2.out hbc (SR.lt HT2.out))
  have HU3 := keepd (SR.call HU2.out hbc (SR.lt HU2.out))
  have HY3 := keepd (SR.call HY2.out hbc (SR.lt HY2.out))
  have HB3 := keepd (bCall HB2.out hbc)
  clear hbb hbc hb5 hb6 hHeld HT2 HU2 HY2 HB2 HMY HMX hsm
  go_upto_region 7 with fail
  go_cut [10] (fun s10 wx => s10 = .bool tc ∧ w6 = wx)
  case first =>
    obtain ⟨p0, p1, p2⟩ := SR.ch HU3.out
    obtain ⟨d0, d1⟩ := TB.at HT3.out n hn
    have ht := HTc.out
    unfold touchB at ht
    clear HTc HST HSZ HEZ HYn HYi
    generalize X n = d at *
    cases t1 : (q == c.v)
    · cases t3 : (q == d.v)
      · rw [t1, t3] at ht
        simp only [Bool.false_and, Bool.or_false] at ht
        subst ht
        go_wp2_with fail
        go_meet
        exact ⟨rfl, rfl⟩
      · cases t4 : (d.lv == 0)
        · have n4 : (d.lv != 0) = true := by rw [bne, t4]; rfl
          rw [t1, t3, t4] at ht
          simp only [Bool.false_and, Bool.not_false, Bool.and_true, Bool.or_true] at ht
          subst ht
          go_wp2_with fail
          go_meet
          exact ⟨rfl, rfl⟩
        · have n4 : (d.lv != 0) = false := by rw [bne, t4]; rfl
          rw [t1, t3, t4] at ht
          simp only [Bool.false_and, Bool.not_true, Bool.and_false, Bool.or_false] at ht
          subst ht
          go_wp2_with fail
          go_meet
          exact ⟨rfl, rfl⟩
    · cases t2 : (c.lv == 0)
      · have n2 : (c.lv != 0) = true := by rw [bne, t2]; rfl
        rw [t1, t2] at ht
        simp only [Bool.not_false, Bool.and_true, Bool.true_or] at ht
        subst ht
        go_wp2_with fail
        go_meet
        exact ⟨rfl, rfl⟩
      · have n2 : (c.lv != 0) = false := by rw [bne, t2]; rfl
        cases t3 : (q == d.v)
        · rw [t1, t2, t3] at ht
          simp only [Bool.not_true, Bool.and_false, Bool.false_and, Bool.or_false] at ht
          subst ht
          go_wp2_with fail
          go_meet
          exact ⟨rfl, rfl⟩
        · cases t4 : (d.lv == 0)
          · have n4 : (d.lv != 0) = true := by rw [bne, t4]; rfl
            rw [t1, t2, t3, t4] at ht
            simp only [Bool.not_true, Bool.and_false, Bool.not_false, Bool.and_true, Bool.or_true] at ht
            subst ht
            go_wp2_with fail
            go_meet
            exact ⟨rfl, rfl⟩
          · have n4 : (d.lv != 0) = false := by rw [bne, t4]; rfl
            rw [t1, t2, t3, t4] at ht
            simp only [Bool.not_true, Bool.and_false, Bool.or_false] at ht
            subst ht
            go_wp2_with fail
            go_meet
            exact ⟨rfl, rfl⟩
  case rest =>
  obtain ⟨rfl, rfl⟩ := hcut
  clear HTc
  go_upto_region 8 with fail
  go_cut [11, 12] (fun s11 s12 wx => ∃ bB : Nat, s11 = .pointer (some ⟨bB, 0, none⟩) ∧ s12 = .int .i64 e2 ∧ Hid (TB wx bB Z) ∧ Hid (Below w6.heap.size w6 wx))
  case first =>
    refine wp_region_held_drew (S := S4 w6 b0 bY b1 n X Y c) (by kernel_rfl) (S4.of HT3.out HY3.out HU3.out hn (Below.drew (Below.refl _ _))) (fun hHeld => ?_)
    refine wpAnyH_take (i := 0) (oi := { dst := some 84, op := Op.load 25 (Operand.tmp 7), type := 25, pos := "law.go:71", after := #[], guard := none }) (v := tv Y) rfl (by kernel_rfl) (by kernel_rfl) (by kernel_rfl) (fun _ _ _ h => h) (Or.inl ⟨by rfl, fun W hW => ?_⟩) hHeld ?_
    · obtain ⟨q1, q2, q3, q4, q5, q6, q7, q8, q9, q10, q11, q12⟩ := hW
      go_simp
    simp only [Act.put, List.setIfInBounds_toArray, List.set_cons_zero, List.set_cons_succ]
    refine wpAnyH_take (i := 1) (oi := { dst := some 85, op := Op.fieldAddr 27 (Operand.tmp 4) 0, type := 0, pos := "law.go:71", after := #[], guard := none }) (v := .pointer (some ⟨b1, 0, none⟩)) rfl (by kernel_rfl) (by kernel_rfl) (by kernel_rfl) (fun _ _ _ h => h) (Or.inl ⟨by rfl, fun W hW => ?_⟩) hHeld ?_
    · obtain ⟨q1, q2, q3, q4, q5, q6, q7, q8, q9, q10, q11, q12⟩ := hW
      go_simp
    simp only [Act.put, List.setIfInBounds_toArray, List.set_cons_zero, List.set_cons_succ]
    refine wpAnyH_take (i := 2) (oi := { dst := some 86, op := Op.load 3 (Operand.tmp 85), type := 3, pos := "law.go:71", after := #[{ on := 1, ground := Ground.data }], guard := none }) (v := .int .i64 (n : Int)) rfl (by kernel_rfl) (by kernel_rfl) (by kernel_rfl) (fun _ _ _ h => h) (Or.inl ⟨by rfl, fun W hW => ?_⟩) hHeld ?_
    · obtain ⟨q1, q2, q3, q4, q5, q6, q7, q8, q9, q10, q11, q12⟩ := hW
      go_simp
    simp only [Act.put, List.setIfInBounds_toArray, List.set_cons_zero, List.set_cons_succ]
    refine wpAnyH_take (i := 3) (oi := { dst := some 87, op := Op.fieldAddr 27 (Operand.tmp 4) 0, type := 0, pos := "law.go:71", after := #[], guard := none }) (v := .pointer (some ⟨b1, 0, none⟩)) rfl (by kernel_rfl) (by kernel_rfl) (by kernel_rfl) (fun _ _ _ h => h) (Or.inl ⟨by rfl, fun W hW => ?_⟩) hHeld ?_
    · obtain ⟨q1, q2, q3, q4, q5, q6, q7, q8, q9, q10, q11, q12⟩ := hW
      go_simp
    simp only [Act.put, List.setIfInBounds_toArray, List.set_cons_zero, List.set_cons_succ]
    refine wpAnyH_take (i := 4) (oi := { dst := some 88, op := Op.load 3 (Operand.tmp 87), type := 3, pos := "law.go:71", after := #[{ on := 3, ground := Ground.data }], guard := none }) (v := .int .i64 (n : Int)) rfl (by kernel_rfl) (by kernel_rfl) (by kernel_rfl) (fun _ _ _ h => h) (Or.inl ⟨by rfl, fun W hW => ?_⟩) hHeld ?_
    · obtain ⟨q1, q2, q3, q4, q5, q6, q7, q8, q9, q10, q11, q12⟩ := hW
      go_simp
    simp only [Act.put, List.setIfInBounds_toArray, List.set_cons_zero, List.set_cons_succ]
    refine wpAnyH_take (i := 5) (oi := { dst := some 89, op := Op.indexAddr 25 (Operand.tmp 3) (Operand.tmp 88), type := 0, pos := "law.go:71", after := #[{ on := 4, ground := Ground.data }], guard := none }) (v := .pointer (some ⟨b0, n * 2, none⟩)) rfl (by kernel_rfl) (by kernel_rfl) (by kernel_rfl) (fun _ _ _ h => h) (Or.inl ⟨by rfl, fun W hW => ?_⟩) hHeld ?_
    · obtain ⟨q1, q2, q3, q4, q5, q6, q7, q8, q9, q10, q11, q12⟩ := hW
      go_simp
    simp only [Act.put, List.setIfInBounds_toArray, List.set_cons_zero, List.set_cons_succ]
    refine wpAnyH_take (i := 6) (oi := { dst := some 90, op := Op.load 23 (Operand.tmp 89), type := 23, pos := "law.go:71", after := #[{ on := 5, ground := Ground.data }], guard := none }) (v := cv (X n)) rfl (by kernel_rfl) (by kernel_rfl) (by kernel_rfl) (fun _ _ _ h => h) (Or.inl ⟨by rfl, fun W hW => ?_⟩) hHeld ?_
    · obtain ⟨q1, q2, q3, q4, q5, q6, q7, q8, q9, q10, q11, q12⟩ := hW
      go_simp
    simp only [Act.put, List.setIfInBounds_toArray, List.set_cons_zero, List.set_cons_succ]
    refine wpAnyH_ready (rs := [7, 11]) (by kernel_rfl) (by simp) ?_
    refine AllReadyH.cons (o := { dst := some 91, op := Op.call { callee := Callee.value (Operand.func 17), args := #[Operand.tmp 84, Operand.tmp 86, Operand.tmp 90], argTypes := #[25, 3, 23] }, type := 36, pos := "law.go:71", after := #[{ on := 0, ground := Ground.data }, { on := 2, ground := Ground.data }, { on := 6, ground := Ground.data }], guard := none }) rfl (fun K hK => ?_) (AllReadyH.cons (o := { dst := some 11, op := Op.alloc 25, type := 0, pos := "law.go:71", after := #[], guard := none }) rfl (fun K hK => ?_) AllReadyH.nil)
    · go_simp
      with_reducible refine (HZ.out _).mono ?_
      rintro e w7 ⟨rfl, hb7⟩
      have hb8 := bCall hHeld.2.2.2.2.2.2.2.2.2.2.2 hb7
      go_wp2_with fail
      refine hK.out _ _ (S4.of HT3.out HY3.out HU3.out hn hb8) (fun hHeld2 => ?_)
      clear hK K hHeld
      have hHeld := hHeld2
      clear hHeld2
      try simp only [Act.put, List.setIfInBounds_toArray, List.set_cons_zero, List.set_cons_succ]
      refine wpAnyH_take (i := 8) (oi := { dst := some 83, op := Op.move (Operand.tmp 91), type := 36, pos := "law.go:71", after := #[{ on := 7, ground := Ground.data }], guard := none }) (v := .tuple #[tv Z, .int .i64 e2]) rfl (by kernel_rfl) (by kernel_rfl) (by kernel_rfl) (fun _ _ _ h => h) (Or.inl ⟨by rfl, fun W hW => ?_⟩) hHeld ?_
      · obtain ⟨q1, q2, q3, q4, q5, q6, q7, q8, q9, q10, q11, q12⟩ := hW
        go_simp
      simp only [Act.put, List.setIfInBounds_toArray, List.set_cons_zero, List.set_cons_succ]
      refine wpAnyH_take (i := 9) (oi := { dst := some 92, op := Op.extract (Operand.tmp 83) 0, type := 25, pos := "law.go:71", after := #[{ on := 8, ground := Ground.data }], guard := none }) (v := tv Z) rfl (by kernel_rfl) (by kernel_rfl) (by kernel_rfl) (fun _ _ _ h => h) (Or.inl ⟨by rfl, fun W hW => ?_⟩) hHeld ?_
      · obtain ⟨q1, q2, q3, q4, q5, q6, q7, q8, q9, q10, q11, q12⟩ := hW
        go_simp
      simp only [Act.put, List.setIfInBounds_toArray, List.set_cons_zero, List.set_cons_succ]
      refine wpAnyH_take (i := 10) (oi := { dst := some 93, op := Op.extract (Operand.tmp 83) 1, type := 31, pos := "law.go:71", after := #[{ on := 8, ground := Ground.data }, { on := 12, ground := Ground.gcOnly Departure.lateStores }], guard := none }) (v := .int .i64 e2) rfl (by kernel_rfl) (by kernel_rfl) (by kernel_rfl) (fun _ _ _ h => h) (Or.inl ⟨by rfl, fun W hW => ?_⟩) hHeld ?_
      · obtain ⟨q1, q2, q3, q4, q5, q6, q7, q8, q9, q10, q11, q12⟩ := hW
        go_simp
      simp only [Act.put, List.setIfInBounds_toArray, List.set_cons_zero, List.set_cons_succ]
      refine wpAnyH_ready (rs := [11]) (by kernel_rfl) (by simp) ?_
      refine AllReadyH.cons (o := { dst := some 11, op := Op.alloc 25, type := 0, pos := "law.go:71", after := #[], guard := none }) rfl (fun K hK => ?_) AllReadyH.nil
      go_simp
      refine hK.out _ _ (S4.of HT3.out HY3.out HU3.out hn (bAlloc hb8 _)) (fun hHeld2 => ?_)
      clear hK K hHeld
      have hHeld := hHeld2
      clear hHeld2
      try simp only [Act.put, List.setIfInBounds_toArray, List.set_cons_zero, List.set_cons_succ]
      refine wpAnyH_ready (rs := [12]) (by kernel_rfl) (by simp) ?_
      refine AllReadyH.cons (o := { dst := none, op := Op.store 25 (Operand.tmp 11) (Operand.tmp 92), type := 0, pos := "law.go:71", after := #[{ on := 11, ground := Ground.data }, { on := 9, ground := Ground.data }, { on := 7, ground := Ground.chain }, { on := 0, ground := Ground.phase }, { on := 1, ground := Ground.phase }, { on := 2, ground := Ground.phase }, { on := 3, ground := Ground.phase }, { on := 4, ground := Ground.phase }, { on := 5, ground := Ground.phase }, { on := 6, ground := Ground.phase }, { on := 7, ground := Ground.phase }, { on := 8, ground := Ground.phase }, { on := 9, ground := Ground.phase }, { on := 10, ground := Ground.textOnly Departure.lateStores }, { on := 11, ground := Ground.phase }], guard := none }) rfl (fun K hK => ?_) AllReadyH.nil
      go_simp
      refine hK.out _ _ (S4.of HT3.out HY3.out HU3.out hn (bAlloc hb8 _)) (fun hHeld2 => ?_)
      clear hK K hHeld
      have hHeld := hHeld2
      clear hHeld2
      try simp only [Act.put, List.setIfInBounds_toArray, List.set_cons_zero, List.set_cons_succ]
      refine wpAnyH_take (i := 13) (oi := { dst := some 12, op := Op.assign (Operand.tmp 93), type := 31, pos := "law.go:71", after := #[{ on := 10, ground := Ground.data }, { on := 12, ground := Ground.chain }, { on := 0, ground := Ground.phase }, { on := 1, ground := Ground.phase }, { on := 2, ground := Ground.phase }, { on := 3, ground := Ground.phase }, { on := 4, ground := Ground.phase }, { on := 5, ground := Ground.phase }, { on := 6, ground := Ground.phase }, { on := 7, ground := Ground.phase }, { on := 8, ground := Ground.phase }, { on := 9, ground := Ground.phase }, { on := 10, ground := Ground.phase }, { on := 11, ground := Ground.phase }, { on := 12, ground := Ground.phase }], guard := none }) (v := .int .i64 e2) rfl (by kernel_rfl) (by kernel_rfl) (by kernel_rfl) (fun _ _ _ h => h) (Or.inl ⟨by rfl, fun W hW => ?_⟩) hHeld ?_
      · obtain ⟨q1, q2, q3, q4, q5, q6, q7, q8, q9, q10, q11, q12⟩ := hW
        go_simp
      simp only [Act.put, List.setIfInBounds_toArray, List.set_cons_zero, List.set_cons_succ]
      refine wpAnyH_done (by kernel_rfl) ?_ _
      go_wp2_with fail
      go_meet
      exact ⟨w7.heap.size, rfl, rfl, SR.new 25 w7 (cs Z), bAlloc hb8 _⟩
    · go_simp
      refine hK.out _ _ (S4.of HT3.out HY3.out HU3.out hn (Below.drew (bAlloc (Below.refl _ _) _))) (fun hHeld2 => ?_)
      clear hK K hHeld
      have hHeld := hHeld2
      clear hHeld2
      have HN := keepd (SR.drew (SR.new 25 w6 (cs zT)))
      try simp only [Act.put, List.setIfInBounds_toArray, List.set_cons_zero, List.set_cons_succ]
      refine wpAnyH_ready (rs := [7]) (by kernel_rfl) (by simp) ?_
      refine AllReadyH.cons (o := { dst := some 91, op := Op.call { callee := Callee.value (Operand.func 17), args := #[Operand.tmp 84, Operand.tmp 86, Operand.tmp 90], argTypes := #[25, 3, 23] }, type := 36, pos := "law.go:71", after := #[{ on := 0, ground := Ground.data }, { on := 2, ground := Ground.data }, { on := 6, ground := Ground.data }], guard := none }) rfl (fun K hK => ?_) AllReadyH.nil
      go_simp
      with_reducible refine (HZ.out _).mono ?_
      rintro e w7 ⟨rfl, hb7⟩
      have hb8 := bCall hHeld.2.2.2.2.2.2.2.2.2.2.2 hb7
      have HN7 := keepd (SR.call HN.out hb7 (SR.lt HN.out))
      obtain ⟨r1, k1⟩ := TB.facts HN7.out
      go_wp2_with fail
      refine hK.out _ _ (S4.of HT3.out HY3.out HU3.out hn hb8) (fun hHeld2 => ?_)
      clear hK K hHeld
      have hHeld := hHeld2
      clear hHeld2
      try simp only [Act.put, List.setIfInBounds_toArray, List.set_cons_zero, List.set_cons_succ]
      refine wpAnyH_take (i := 8) (oi := { dst := some 83, op := Op.move (Operand.tmp 91), type := 36, pos := "law.go:71", after := #[{ on := 7, ground := Ground.data }], guard := none }) (v := .tuple #[tv Z, .int .i64 e2]) rfl (by kernel_rfl) (by kernel_rfl) (by kernel_rfl) (fun _ _ _ h => h) (Or.inl ⟨by rfl, fun W hW => ?_⟩) hHeld ?_
      · obtain ⟨q1, q2, q3, q4, q5, q6, q7, q8, q9, q10, q11, q12⟩ := hW
        go_simp
      simp only [Act.put, List.setIfInBounds_toArray, List.set_cons_zero, List.set_cons_succ]
      refine wpAnyH_take (i := 9) (oi := { dst := some 92, op := Op.extract (Operand.tmp 83) 0, type := 25, pos := "law.go:71", after := #[{ on := 8, ground := Ground.data }], guard := none }) (v := tv Z) rfl (by kernel_rfl) (by kernel_rfl) (by kernel_rfl) (fun _ _ _ h => h) (Or.inl ⟨by rfl, fun W hW => ?_⟩) hHeld ?_
      · obtain ⟨q1, q2, q3, q4, q5, q6, q7, q8, q9, q10, q11, q12⟩ := hW
        go_simp
      simp only [Act.put, List.setIfInBounds_toArray, List.set_cons_zero, List.set_cons_succ]
      refine wpAnyH_take (i := 10) (oi := { dst := some 93, op := Op.extract (Operand.tmp 83) 1, type := 31, pos := "law.go:71", after := #[{ on := 8, ground := Ground.data }, { on := 12, ground := Ground.gcOnly Departure.lateStores }], guard := none }) (v := .int .i64 e2) rfl (by kernel_rfl) (by kernel_rfl) (by kernel_rfl) (fun _ _ _ h => h) (Or.inl ⟨by rfl, fun W hW => ?_⟩) hHeld ?_
      · obtain ⟨q1, q2, q3, q4, q5, q6, q7, q8, q9, q10, q11, q12⟩ := hW
        go_simp
      simp only [Act.put, List.setIfInBounds_toArray, List.set_cons_zero, List.set_cons_succ]
      refine wpAnyH_ready (rs := [12]) (by kernel_rfl) (by simp) ?_
      refine AllReadyH.cons (o := { dst := none, op := Op.store 25 (Operand.tmp 11) (Operand.tmp 92), type := 0, pos := "law.go:71", after := #[{ on := 11, ground := Ground.data }, { on := 9, ground := Ground.data }, { on := 7, ground := Ground.chain }, { on := 0, ground := Ground.phase }, { on := 1, ground := Ground.phase }, { on := 2, ground := Ground.phase }, { on := 3, ground := Ground.phase }, { on := 4, ground := Ground.phase }, { on := 5, ground := Ground.phase }, { on := 6, ground := Ground.phase }, { on := 7, ground := Ground.phase }, { on := 8, ground := Ground.phase }, { on := 9, ground := Ground.phase }, { on := 10, ground := Ground.textOnly Departure.lateStores }, { on := 11, ground := Ground.phase }], guard := none }) rfl (fun K hK => ?_) AllReadyH.nil
      go_simp
      refine hK.out _ _ (S4.of HT3.out HY3.out HU3.out hn (bRow hb8 (Nat.le_refl _) _)) (fun hHeld2 => ?_)
      clear hK K hHeld
      have hHeld := hHeld2
      clear hHeld2
      try simp only [Act.put, List.setIfInBounds_toArray, List.set_cons_zero, List.set_cons_succ]
      refine wpAnyH_take (i := 13) (oi := { dst := some 12, op := Op.assign (Operand.tmp 93), type := 31, pos := "law.go:71", after := #[{ on := 10, ground := Ground.data }, { on := 12, ground := Ground.chain }, { on := 0, ground := Ground.phase }, { on := 1, ground := Ground.phase }, { on := 2, ground := Ground.phase }, { on := 3, ground := Ground.phase }, { on := 4, ground := Ground.phase }, { on := 5, ground := Ground.phase }, { on := 6, ground := Ground.phase }, { on := 7, ground := Ground.phase }, { on := 8, ground := Ground.phase }, { on := 9, ground := Ground.phase }, { on := 10, ground := Ground.phase }, { on := 11, ground := Ground.phase }, { on := 12, ground := Ground.phase }], guard := none }) (v := .int .i64 e2) rfl (by kernel_rfl) (by kernel_rfl) (by kernel_rfl) (fun _ _ _ h => h) (Or.inl ⟨by rfl, fun W hW => ?_⟩) hHeld ?_
      · obtain ⟨q1, q2, q3, q4, q5, q6, q7, q8, q9, q10, q11, q12⟩ := hW
        go_simp
      simp only [Act.put, List.setIfInBounds_toArray, List.set_cons_zero, List.set_cons_succ]
      refine wpAnyH_done (by kernel_rfl) ?_ _
      go_wp2_with fail
      go_meet
      exact ⟨w6.heap.size, rfl, rfl, SR.row HN7.out _, bRow hb8 (Nat.le_refl _) _⟩
  case rest =>
  obtain ⟨bB, rfl, rfl, HZ3, hb7⟩ := hcut
  have HT4 := keepd (SR.call HT3.out hb7.out (SR.lt HT3.out))
  have HU4 := keepd (SR.call HU3.out hb7.out (SR.lt HU3.out))
  have HY4 := keepd (SR.call HY3.out hb7.out (SR.lt HY3.out))
  have HB4 := keepd (bCall HB3.out hb7.out)
  clear hb7 HT3 HU3 HY3 HB3 HZ
  go_wp2_with fail
  have HZ4 := HZ3
  clear HZ3
  go_loopw [13] (fun vi wr => ∃ k : Nat, k ≤ 31 ∧ vi = .int .i64 k ∧ Hid (TB wr b0 X) ∧ Hid (SR 27 wr b1 (chs n c)) ∧ Hid (TB wr bY Y) ∧ Hid (TB wr bB Z) ∧ Hid (Below w.heap.size w wr)) (fun vi _ => 31 - (intOf vi).toNat)
  case atStart => exact ⟨0, by omega, rfl, HT4, HU4, HY4, HZ4, HB4⟩
  case round =>
    obtain ⟨k, hk, rfl, HT, HU, HY, HZ, HB⟩ := hrel
    clear HT4 HU4 HY4 HZ4 HB4
    by_cases hlt : k < 31
    · obtain ⟨p0, p1, p2⟩ := SR.ch HU.out
      obtain ⟨d0, d1⟩ := TB.at HT.out k hlt
      obtain ⟨e0, e1⟩ := TB.at HY.out k hlt
      have j0 : (0 : Int) ≤ (k : Int) := by omega
      have j1 : (k : Int) < 31 := by omega
      by_cases hkn : k = n
      · subst hkn
        go_upto_region 12 with fail
        go_quiet (fail)
        have HB2 := keepd (bDrewN HB.out nq)
        have HT2 : Hid (TB (wr.drewN nq) b0 X) := HT.out
        have HU2 : Hid (SR 27 (wr.drewN nq) b1 (chs k c)) := HU.out
        have HY2 : Hid (TB (wr.drewN nq) bY Y) := HY.out
        have HZ2 : Hid (TB (wr.drewN nq) bB Z) := HZ.out
        go_wp2
        go_roundw
        case rel => exact ⟨k + 1, by omega, by go_num, HT2, HU2, HY2, HZ2, HB2⟩
        case measure => simp [intOf]; omega
      · rw [HYi.out k hkn] at e0 e1
        have gkn : ((k : Int) == (n : Int)) = false := by simp; omega
        have nkn : ((k : Int) != (n : Int)) = true := by rw [bne, gkn]; rfl
        have pkn : ¬ (k : Int) = (n : Int) := by omega
        generalize X k = d at *
        go_upto_region 12 with fail
        go_quiet (fail)
        have HB2 := keepd (bDrewN HB.out nq)
        have HT2 : Hid (TB (wr.drewN nq) b0 X) := HT.out
        have HU2 : Hid (SR 27 (wr.drewN nq) b1 (chs n c)) := HU.out
        have HY2 : Hid (TB (wr.drewN nq) bY Y) := HY.out
        have HZ2 : Hid (TB (wr.drewN nq) bB Z) := HZ.out
        go_wp2
        go_roundw
        case rel => exact ⟨k + 1, by omega, by go_num, HT2, HU2, HY2, HZ2, HB2⟩
        case measure => simp [intOf]; omega
    · obtain rfl : k = 31 := by omega
      clear HYi HYn HU
      have hst := HST.out
      clear HST
      cases sm
      · rw [Bool.false_or] at hst
        subst hst
        obtain ⟨r1, k1⟩ := TB.facts HY.out
        go_wp2_with fail
        with_reducible refine (HCY.out _).mono ?_
        rintro e x1 ⟨rfl, hb⟩
        have HT5 := keepd (SR.call HT.out hb (SR.lt HT.out))
        have HZ5 := keepd (SR.call HZ.out hb (SR.lt HZ.out))
        have HB5 := keepd (bCall HB.out hb)
        clear hb r1 k1 HT HZ HB HY HCY
        obtain ⟨r1, k1⟩ := TB.facts HZ5.out
        go_wp2_with fail
        with_reducible refine (HCZ.out _).mono ?_
        rintro e x2 ⟨rfl, hb⟩
        have HT6 := keepd (SR.call HT5.out hb (SR.lt HT5.out))
        have HZ6 := keepd (SR.call HZ5.out hb (SR.lt HZ5.out))
        have HB6 := keepd (bCall HB5.out hb)
        clear hb r1 k1 HT5 HZ5 HB5 HCZ
        obtain ⟨r1, k1⟩ := TB.facts HZ6.out
        obtain ⟨r2, k2⟩ := TB.facts HT6.out
        have hez := HEZ.out
        have hsz := HSZ.out
        go_wp2_with fail
        with_reducible refine (HA.out _ (HL.out.below HB6.out)).mono ?_
        rintro e w9 ⟨rfl, hb9⟩
        have HB9 := keepd (bCall HB6.out hb9)
        clear hb9
        go_wp2
        go_returns
        exact ⟨rfl, HB9.out⟩
      · clear hst
        obtain ⟨r1, k1⟩ := TB.facts HY.out
        go_wp2_with fail
        with_reducible refine (HCY.out _).mono ?_
        rintro e x1 ⟨rfl, hb⟩
        have HT5 := keepd (SR.call HT.out hb (SR.lt HT.out))
        have HZ5 := keepd (SR.call HZ.out hb (SR.lt HZ.out))
        have HB5 := keepd (bCall HB.out hb)
        clear hb r1 k1 HT HZ HB HY HCY
        obtain ⟨r1, k1⟩ := TB.facts HZ5.out
        go_wp2_with fail
        with_reducible refine (HCZ.out _).mono ?_
        rintro e x2 ⟨rfl, hb⟩
        have HT6 := keepd (SR.call HT5.out hb (SR.lt HT5.out))
        have HZ6 := keepd (SR.call HZ5.out hb (SR.lt HZ5.out))
        have HB6 := keepd (bCall HB5.out hb)
        clear hb r1 k1 HT5 HZ5 HB5 HCZ
        obtain ⟨r1, k1⟩ := TB.facts HZ6.out
        obtain ⟨r2, k2⟩ := TB.facts HT6.out
        have hez := HEZ.out
        have hsz := HSZ.out
        go_wp2_with fail
        with_reducible refine (HA.out _ (HL.out.below HB6.out)).mono ?_
        rintro e w9 ⟨rfl, hb9⟩
        have HB9 := keepd (bCall HB6.out hb9)
        clear hb9
        go_wp2
        go_returns
        exact ⟨rfl, HB9.out⟩

end Go.Proofs.YtmjhagmniipcaaaDoor
