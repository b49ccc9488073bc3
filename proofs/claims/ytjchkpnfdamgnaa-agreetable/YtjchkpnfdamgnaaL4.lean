/-
  The law AgreeTable. No conditions beyond those each theorem states.
-/
import Derived.Test.YtjchkpnfdamgnaaL3
import Derived.Test.YtjchkpnfdamgnaaT8
namespace Go.Proofs.Ytjchkpnfdamgnaa
open Go.RowKit
set_option maxRecDepth 100000

attribute [local go_sem ↓] ex_ld31 ex_st31 ex_al31 ex_bu31 ex_ix31 ex_eq31 ex_ne31 ex_eq29 ex_ne29 ex_ld25 ex_st25 ex_al25 ex_bu25 ex_ix25 ex_ld27 ex_st27 ex_eq27 ex_ne27
attribute [local go_sem] ptrB_at okPtr_at aggC_at agg62 isC_at isT_at eqV_t eqV_c isRow_new isRow_newp World.setRow_alloc_new agg6 isRow_new6 isV_at eqV_v


/-- A pref settles itself as it is. -/
theorem set_self {q : Cl} (h : mayC q = true) : setF q q = q := by
  obtain ⟨a, b⟩ := q
  rw [mayC_iff] at h
  have h3 : a = 0 ∧ b = 0 ∨ a = 1 ∨ a = 2 := h
  rcases h3 with ⟨rfl, hb⟩ | rfl | rfl <;> simp_all [setF]
/-- What other prefs settle of each cell. -/
def setL (X Y : Tb) (k : Nat) : Cl := setF (Y k) (X k)
def uT (X Y : Tb) (i : Nat) : Tb := fun j => if 1 ≤ j ∧ j ≤ i then setL X Y j else X j
theorem uT_zero (X Y : Tb) : uT X Y 0 = X := by
  funext j
  unfold uT
  rw [if_neg (by omega)]
theorem uT_succ (X Y : Tb) (i : Nat) : tset (uT X Y i) (i + 1) (setL X Y (i + 1)) = uT X Y (i + 1) := by
  funext j
  unfold tset uT
  by_cases h : j = i + 1
  · subst h; rw [if_pos rfl, if_pos (by omega)]
  · by_cases h2 : 1 ≤ j ∧ j ≤ i
    · rw [if_neg h, if_pos h2, if_pos (by omega)]
    · rw [if_neg h, if_neg h2, if_neg (by omega)]
theorem lvC {c : Cl} (h : mayC c = true) : 0 ≤ c.lv ∧ c.lv ≤ 3 := by
  rw [mayC_iff] at h
  omega
theorem uT_may {X Y : Tb} (hX : mayT X = true) (hY : mayT Y = true) : mayT (uT X Y 30) = true := by
  obtain ⟨x0, xi⟩ := mayT_iff.1 hX
  obtain ⟨y0, yi⟩ := mayT_iff.1 hY
  refine mayT_iff.2 ⟨by unfold uT; rw [if_neg (by omega)]; exact x0, fun i hi => ?_⟩
  unfold uT
  split
  · exact (set_facts (yi i hi) (lvC (xi i hi))).1
  · exact xi i hi
theorem tr1_may {X : Tb} (hX : mayT X = true) {k : Nat} (h0 : 0 < k) (h1 : k < 31) : mayTr (tr1 X k).f (tr1 X k).lv = true := by
  have := lvC ((mayT_iff.1 hX).2 k h1)
  exact mayTr_iff.2 ⟨by show (0 : Int) ≤ (k : Int); omega, by show (k : Int) ≤ 255; omega, this.1, this.2⟩
theorem tr1_set {X Y : Tb} (hX : mayT X = true) (hY : mayT Y = true) {k : Nat} (h0 : 0 < k) (h1 : k < 31) : settleF Y (tr1 X k) = (setL X Y k, 0) := by
  rw [settle_in hY (tr1_may hX h0 h1) ⟨by show (0 : Int) < (k : Int); omega, by show (k : Int) < 31; omega⟩]
  rfl
theorem tr1_self {X : Tb} (hX : mayT X = true) {k : Nat} (h0 : 0 < k) (h1 : k < 31) : settleF X (tr1 X k) = (X k, 0) := by
  rw [tr1_set hX hX h0 h1]
  unfold setL
  rw [set_self ((mayT_iff.1 hX).2 k h1)]

/-- What is read in a round: prefs, a triple of a row. -/
def SQ (bP bL off : Nat) (X : Tb) (t : Tr) (V : World) : Prop := (rowOf V bP = (cs X).toArray ∧ isRow V 25 bP 62 = true) ∧ At V bL off t
theorem SQ.of {bP bL off bU : Nat} {X : Tb} {t : Tr} {w V : World} (hP : PB w bP X) (hL : At w bL off t) (h1 : bP < bU) (h2 : bL < bU) (hb : Below bU w V) : SQ bP bL off X t V := ⟨PB.facts (SR.call hP hb h1), At.keep hL hb h2⟩

theorem bUp {bU : Nat} {a w w2 : World} (h : Below bU a w) (hb : Below w.heap.size w w2) (hu : bU ≤ w.heap.size) : Below bU a w2 := h.trans (hb.mono hu)
theorem SR.drew {t : TypeId} {W : World} {b : Nat} {cs : List Value} (h : SR t W b cs) : SR t W.drew b cs := h

set_option maxHeartbeats 8000000 in
theorem table_law (X Y : Tb) (w : World) : Calls Try.prog 7 #[tv X, tv Y] w fun e w' => e = .returned (.bool true) ∧ Below w.heap.size w w' := by
  have HA := keepd awake_any
  obtain ⟨F, e0, hF⟩ : ∃ F e, firstF X = (F, e) := ⟨_, _, rfl⟩
  have HF := keepd (first_any X F e0 hF)
  obtain ⟨e1, he1⟩ : ∃ e, errT Y = e := ⟨_, rfl⟩
  have HC := keepd (check_any Y e1 he1)
  have HE1 := keepd he1
  have HFe := keepd hF
  clear hF he1
  go_enter Try.func7, Try.ntmps7
  go_upto_region 1 with fail
  obtain ⟨W, hW⟩ : ∃ W, ((w.alloc (.cells (cs X).toArray 25)).alloc (.cells (cs Y).toArray 25)) = W := ⟨_, rfl⟩
  obtain ⟨gP, gQ, gB⟩ : SR 25 W (w.heap.size) (cs X) ∧ SR 25 W (w.heap.size + 1) (cs Y) ∧ Below w.heap.size w W := by
    subst hW
    exact ⟨(SR.alloc (SR.new 25 w (cs X)) _), (show SR 25 _ _ (cs Y) from heap_alloc2_new w _ _), (bAlloc (bAlloc (Below.refl _ _) _) _)⟩
  rw [hW]
  clear hW
  obtain ⟨bQ, hp⟩ : ∃ b, w.heap.size + 1 = b := ⟨_, rfl⟩
  rw [hp] at gQ ⊢
  clear hp
  obtain ⟨bP, hp⟩ : ∃ b, w.heap.size = b := ⟨_, rfl⟩
  rw [hp] at gP ⊢
  clear hp
  have HP0 := keepd gP
  have HQ0 := keepd gQ
  have HB0 := keepd gB
  clear gP gQ gB
  obtain ⟨rP, kP⟩ := PB.facts HP0.out
  go_wp2_with fail
  with_reducible refine (HF.out _).mono ?_
  rintro e v1 ⟨rfl, hb⟩
  have HP1 := keepd (SR.alloc (SR.call HP0.out hb (SR.lt HP0.out)) (.cells (cs F).toArray 31))
  have HQ1 := keepd (SR.alloc (SR.call HQ0.out hb (SR.lt HQ0.out)) (.cells (cs F).toArray 31))
  have HB1 := keepd (bAlloc (bCall HB0.out hb) (.cells (cs F).toArray 31))
  have HT1 : Hid (SR 31 (v1.alloc (.cells (cs F).toArray 31)) v1.heap.size (cs F)) := SR.new 31 v1 (cs F)
  clear hb rP kP HP0 HQ0 HB0 HF
  go_upto_region 2 with fail
  obtain ⟨w1, hw⟩ : ∃ W, v1.alloc (.cells (cs F).toArray 31) = W := ⟨_, rfl⟩
  rw [hw] at HP1 HQ1 HT1 HB1 ⊢
  clear hw
  obtain ⟨bT, hp⟩ : ∃ p, v1.heap.size = p := ⟨_, rfl⟩
  rw [hp] at HT1 ⊢
  clear hp
  rcases errT_cases X with ⟨hm, he⟩ | ⟨hm, he⟩
  case inr =>
    have hF := HFe.out
    unfold firstF at hF
    rw [hm] at hF
    simp only [Bool.false_eq_true, if_false, Prod.mk.injEq] at hF
    obtain ⟨rfl, rfl⟩ := hF
    clear hm he HFe HE1 HC
    go_wp2_with fail
    with_reducible refine (HA.out _).mono ?_
    rintro e w9 ⟨rfl, hb9⟩
    have HB9 := keepd (bCall HB1.out hb9)
    clear hb9
    go_wp2
    go_returns
    exact ⟨rfl, HB9.out⟩
  have hF := HFe.out
  unfold firstF at hF
  rw [hm] at hF
  simp only [if_true, Prod.mk.injEq] at hF
  obtain ⟨rfl, rfl⟩ := hF
  clear he HFe
  obtain ⟨rQ, kQ⟩ := PB.facts HQ1.out
  go_wp2_with fail
  with_reducible refine (HC.out _).mono ?_
  rintro e w2 ⟨rfl, hb⟩
  have HP2 := keepd (SR.call HP1.out hb (SR.lt HP1.out))
  have HQ2 := keepd (SR.call HQ1.out hb (SR.lt HQ1.out))
  have HT2 := keepd (SR.call HT1.out hb (SR.lt HT1.out))
  have HB2 := keepd (bCall HB1.out hb)
  clear hb rQ kQ HP1 HQ1 HT1 HB1 HC
  rcases errT_cases Y with ⟨hmY, he⟩ | ⟨hmY, he⟩
  case inr =>
    obtain rfl : e1 = 1 := HE1.out.symm.trans he
    clear hm hmY he HE1
    go_wp2_with fail
    with_reducible refine (HA.out _).mono ?_
    rintro e w9 ⟨rfl, hb9⟩
    have HB9 := keepd (bCall HB2.out hb9)
    clear hb9
    go_wp2
    go_returns
    exact ⟨rfl, HB9.out⟩
  obtain rfl : e1 = 0 := HE1.out.symm.trans he
  clear he HE1
  have hwf : wholeF X = (wholeL X 30, 0) := by unfold wholeF; rw [if_pos hm]
  have HW := keepd (whole_any X (wholeL X 30) 30 0 hwf (wholeL_len X 30))
  have HM := keepd hm
  have HMY := keepd hmY
  clear hwf hm hmY
  obtain ⟨rT, kT⟩ := TB.facts HT2.out
  go_wp2_with fail
  with_reducible refine (HW.out _).mono ?_
  rintro e w3 ⟨A, cc, rfl, hr, hb⟩
  have HP3 := keepd (SR.call HP2.out hb (SR.lt HP2.out))
  have HQ3 := keepd (SR.call HQ2.out hb (SR.lt HQ2.out))
  have HT3 := keepd (SR.call HT2.out hb (SR.lt HT2.out))
  have HB3 := keepd (bCall HB2.out hb)
  obtain ⟨hc1, hc2, hc3⟩ := hr
  rw [wholeL_len] at hc1
  obtain ⟨bL, off, rfl, hbL, hall⟩ := hc3 (by intro h; have := congrArg List.length h; rw [wholeL_len] at this; cases this)
  unfold maxLen at hc2
  have HL3 : Hid (bL < w3.heap.size ∧ ∀ j, j < 30 → At w3 bL (off + j * 6) (tr1 X (j + 1))) := ⟨hbL, fun j hj => hall j _ (wholeL_at X 30 j hj)⟩
  clear hb HP2 HQ2 HT2 HB2 rT kT hall hbL HW
  obtain ⟨rT, kT⟩ := TB.facts HT3.out
  go_upto_region 8 with fail
  obtain ⟨w4, hw⟩ : ∃ W, w3.alloc (.cells (cs X).toArray 31) = W := ⟨_, rfl⟩
  have HU4 : Hid (TB w4 w3.heap.size X) := by subst hw; exact SR.new 31 w3 (cs X)
  have HV4 : Hid (Below w3.heap.size w3 w4) := by subst hw; exact bAlloc (Below.refl _ _) _
  rw [hw]
  clear hw rT kT
  have KP := keepd (SR.lt HP3.out)
  have KQ := keepd (SR.lt HQ3.out)
  have KT := keepd (SR.lt HT3.out)
  have KB := HB3.out.size
  obtain ⟨bU, hp⟩ : ∃ p, w3.heap.size = p := ⟨_, rfl⟩
  have HZ : Hid (w.heap.size ≤ bU) := by show _ ≤ _; omega
  rw [hp] at HU4 HV4 KP KQ KT HL3 ⊢
  clear hp KB
  rw [← uT_zero X Y] at HU4
  go_wp2_with fail
  go_loopw [10] (fun vi wr => ∃ i : Nat, i ≤ 30 ∧ vi = .int .i64 (i : Int) ∧ Hid (TB wr bU (uT X Y i)) ∧ Hid (Below bU w3 wr)) (fun vi _ => 30 - (intOf vi).toNat)
  case atStart => exact ⟨0, by omega, rfl, HU4, HV4⟩
  case round =>
    clear HU4 HV4
    obtain ⟨i, hi, rfl, HU, HV⟩ := hrel
    by_cases hlt : i < 30
    · obtain ⟨t, ht⟩ : ∃ t, t = tr1 X (i + 1) := ⟨_, rfl⟩
      obtain ⟨q, hq⟩ : ∃ q, q = X (i + 1) := ⟨_, rfl⟩
      obtain ⟨d, hd⟩ : ∃ d, d = setL X Y (i + 1) := ⟨_, rfl⟩
      obtain ⟨o1, ho⟩ : ∃ o, off + i * 6 = o := ⟨_, rfl⟩
      have ct1 := tr1_self HM.out (k := i + 1) (by omega) (by omega)
      have ct2 := tr1_set HM.out HMY.out (k := i + 1) (by omega) (by omega)
      rw [← ht, ← hq] at ct1
      rw [← ht, ← hd] at ct2
      have HC1 := keepd (settle_any X t q 0 ct1)
      have HC2 := keepd (settle_any Y t d 0 ct2)
      have hAt := HL3.out.2 i hlt
      rw [← ht, ho] at hAt
      have HS1 : Hid (∀ V, Below bU w3 V → SQ bP bL o1 X t V) := fun V h => SQ.of HP3.out hAt KP.out HL3.out.1 h
      have HS2 : Hid (∀ V, Below bU w3 V → SQ bQ bL o1 Y t V) := fun V h => SQ.of HQ3.out hAt KQ.out HL3.out.1 h
      have HST : Hid (∀ V, Below bU w3 V → V.cell? ⟨bT, (i + 1) * 2, none⟩ = some (.int .i64 q.lv) ∧ V.cell? ⟨bT, (i + 1) * 2 + 1, none⟩ = some (.int .u8 q.v)) := fun V h => by
        have := TB.at (SR.call HT3.out h KT.out) (i + 1) (by omega)
        rw [hq]
        exact this
      have HUn : Hid (tset (uT X Y i) (i + 1) d = uT X Y (i + 1)) := by show _ = _; rw [hd]; exact uT_succ X Y i
      have t0 : t.f = (i : Int) + 1 := by rw [ht]; rfl
      have t2 : t.a = false := by rw [ht]; rfl
      have HO := keepd ho
      have HT0 := keepd t0
      have HT2 := keepd t2
      clear ct1 ct2 hAt ht hq hd t0 t2
      obtain ⟨Z, hZ⟩ : ∃ Z, uT X Y i = Z := ⟨_, rfl⟩
      rw [hZ] at HU HUn
      clear hZ
      have i0 : (0 : Int) ≤ (i : Int) := by omega
      have i1 : (i : Int) < 30 := by omega
      go_upto_region 11 with fail
      go_cut [11, 12] from 41 to 99 (fun sa sb wz => ∃ bb : Nat, sa = .pointer (some ⟨bb, 0, none⟩) ∧ sb = .int .i64 0 ∧ Hid (SR 29 wz bb (cl q)) ∧ Hid (bU < bb) ∧ Hid (Below wr.heap.size wr wz))
      case first =>
        have HWb : Hid (bU < wr.heap.size) := SR.lt HU.out
        refine wp_region_held_drew (S := SQ bP bL o1 X t) (by kernel_rfl) (HS1.out _ (Below.drew HV.out)) (fun hHeld => ?_)
        refine wpAnyH_take (i := 0) (oi := { dst := some 48, op := Op.load 25 (Operand.tmp 2), type := 25, pos := "law.go:99", after := #[], guard := none }) (v := tv X) rfl (by kernel_rfl) (by kernel_rfl) (by kernel_rfl) (fun _ _ _ h => h) (Or.inl ⟨by rfl, fun W hW => ?_⟩) hHeld ?_
        · obtain ⟨⟨q1, q2⟩, q3, q4, q5, q6, q7, q8⟩ := hW
          go_simp
        simp only [Act.put, List.setIfInBounds_toArray, List.set_cons_zero, List.set_cons_succ]
        refine wpAnyH_take (i := 1) (oi := { dst := some 49, op := Op.move (Operand.tmp 7), type := 39, pos := "law.go:99", after := #[], guard := none }) (v := .slice (some ⟨bL, off, none⟩) 30 cc) rfl (by kernel_rfl) (by kernel_rfl) (by kernel_rfl) (fun _ _ _ h => h) (Or.inl ⟨by rfl, fun W hW => ?_⟩) hHeld ?_
        · obtain ⟨⟨q1, q2⟩, q3, q4, q5, q6, q7, q8⟩ := hW
          go_simp
        simp only [Act.put, List.setIfInBounds_toArray, List.set_cons_zero, List.set_cons_succ]
        refine wpAnyH_take (i := 2) (oi := { dst := some 50, op := Op.move (Operand.tmp 10), type := 3, pos := "law.go:99", after := #[], guard := none }) (v := .int .i64 (i : Int)) rfl (by kernel_rfl) (by kernel_rfl) (by kernel_rfl) (fun _ _ _ h => h) (Or.inl ⟨by rfl, fun W hW => ?_⟩) hHeld ?_
        · obtain ⟨⟨q1, q2⟩, q3, q4, q5, q6, q7, q8⟩ := hW
          go_simp
        simp only [Act.put, List.setIfInBounds_toArray, List.set_cons_zero, List.set_cons_succ]
        refine wpAnyH_take (i := 3) (oi := { dst := some 51, op := Op.indexAddr 39 (Operand.tmp 49) (Operand.tmp 50), type := 0, pos := "law.go:99", after := #[{ on := 1, ground := Ground.data }, { on := 2, ground := Ground.data }], guard := none }) (v := .pointer (some ⟨bL, o1, none⟩)) rfl (by kernel_rfl) (by kernel_rfl) (by kernel_rfl) (fun _ _ _ h => h) (Or.inl ⟨by rfl, fun W hW => ?_⟩) hHeld ?_
        · obtain ⟨⟨q1, q2⟩, q3, q4, q5, q6, q7, q8⟩ := hW
          have ho := HO.out
          go_simp
        simp only [Act.put, List.setIfInBounds_toArray, List.set_cons_zero, List.set_cons_succ]
        refine wpAnyH_take (i := 4) (oi := { dst := some 52, op := Op.load 27 (Operand.tmp 51), type := 27, pos := "law.go:99", after := #[{ on := 3, ground := Ground.data }], guard := none }) (v := vt t) rfl (by kernel_rfl) (by kernel_rfl) (by kernel_rfl) (fun _ _ _ h => h) (Or.inl ⟨by rfl, fun W hW => ?_⟩) hHeld ?_
        · obtain ⟨⟨q1, q2⟩, q3, q4, q5, q6, q7, q8⟩ := hW
          go_simp
        simp only [Act.put, List.setIfInBounds_toArray, List.set_cons_zero, List.set_cons_succ]
        refine wpAnyH_ready (rs := [5, 9]) (by kernel_rfl) (by simp) ?_
        refine AllReadyH.cons (o := { dst := some 53, op := Op.call { callee := Callee.value (Operand.func 9), args := #[Operand.tmp 48, Operand.tmp 52], argTypes := #[25, 27] }, type := 33, pos := "law.go:99", after := #[{ on := 0, ground := Ground.data }, { on := 4, ground := Ground.data }], guard := none }) rfl (fun K hK => ?_) (AllReadyH.cons (o := { dst := some 11, op := Op.alloc 29, type := 0, pos := "law.go:99", after := #[], guard := none }) rfl (fun K hK => ?_) AllReadyH.nil)
        · go_simp
          with_reducible refine (HC1.out _).mono ?_
          rintro e w7 ⟨rfl, hb7⟩
          have hb8 : Below wr.heap.size wr w7 := noDrew hb7
          have hb9 : Below bU w3 w7 := bUp HV.out hb8 (Nat.le_of_lt HWb.out)
          have hs7 := hb8.size
          go_wp2_with fail
          refine hK.out _ _ (HS1.out _ hb9) (fun hHeld2 => ?_)
          clear hK K hHeld
          have hHeld := hHeld2
          clear hHeld2
          try simp only [Act.put, List.setIfInBounds_toArray, List.set_cons_zero, List.set_cons_succ]
          refine wpAnyH_take (i := 6) (oi := { dst := some 47, op := Op.move (Operand.tmp 53), type := 33, pos := "law.go:99", after := #[{ on := 5, ground := Ground.data }], guard := none }) (v := .tuple #[cv q, .int .i64 0]) rfl (by kernel_rfl) (by kernel_rfl) (by kernel_rfl) (fun _ _ _ h => h) (Or.inl ⟨by rfl, fun W hW => ?_⟩) hHeld ?_
          · obtain ⟨⟨q1, q2⟩, q3, q4, q5, q6, q7, q8⟩ := hW
            go_simp
          simp only [Act.put, List.setIfInBounds_toArray, List.set_cons_zero, List.set_cons_succ]
          refine wpAnyH_take (i := 7) (oi := { dst := some 54, op := Op.extract (Operand.tmp 47) 0, type := 29, pos := "law.go:99", after := #[{ on := 6, ground := Ground.data }], guard := none }) (v := cv q) rfl (by kernel_rfl) (by kernel_rfl) (by kernel_rfl) (fun _ _ _ h => h) (Or.inl ⟨by rfl, fun W hW => ?_⟩) hHeld ?_
          · obtain ⟨⟨q1, q2⟩, q3, q4, q5, q6, q7, q8⟩ := hW
            go_simp
          simp only [Act.put, List.setIfInBounds_toArray, List.set_cons_zero, List.set_cons_succ]
          refine wpAnyH_take (i := 8) (oi := { dst := some 55, op := Op.extract (Operand.tmp 47) 1, type := 32, pos := "law.go:99", after := #[{ on := 6, ground := Ground.data }, { on := 10, ground := Ground.gcOnly Departure.lateStores }], guard := none }) (v := .int .i64 0) rfl (by kernel_rfl) (by kernel_rfl) (by kernel_rfl) (fun _ _ _ h => h) (Or.inl ⟨by rfl, fun W hW => ?_⟩) hHeld ?_
          · obtain ⟨⟨q1, q2⟩, q3, q4, q5, q6, q7, q8⟩ := hW
            go_simp
          simp only [Act.put, List.setIfInBounds_toArray, List.set_cons_zero, List.set_cons_succ]
          refine wpAnyH_ready (rs := [9]) (by kernel_rfl) (by simp) ?_
          refine AllReadyH.cons (o := { dst := some 11, op := Op.alloc 29, type := 0, pos := "law.go:99", after := #[], guard := none }) rfl (fun K hK => ?_) AllReadyH.nil
          go_simp
          refine hK.out _ _ (HS1.out _ (bUp hb9 (bAlloc (Below.refl _ _) _) (Nat.le_trans (Nat.le_of_lt HWb.out) hs7))) (fun hHeld2 => ?_)
          clear hK K hHeld
          have hHeld := hHeld2
          clear hHeld2
          try simp only [Act.put, List.setIfInBounds_toArray, List.set_cons_zero, List.set_cons_succ]
          refine wpAnyH_ready (rs := [10]) (by kernel_rfl) (by simp) ?_
          refine AllReadyH.cons (o := { dst := none, op := Op.store 29 (Operand.tmp 11) (Operand.tmp 54), type := 0, pos := "law.go:99", after := #[{ on := 9, ground := Ground.data }, { on := 7, ground := Ground.data }, { on := 5, ground := Ground.chain }, { on := 0, ground := Ground.phase }, { on := 1, ground := Ground.phase }, { on := 2, ground := Ground.phase }, { on := 3, ground := Ground.phase }, { on := 4, ground := Ground.phase }, { on := 5, ground := Ground.phase }, { on := 6, ground := Ground.phase }, { on := 7, ground := Ground.phase }, { on := 8, ground := Ground.textOnly Departure.lateStores }, { on := 9, ground := Ground.phase }], guard := none }) rfl (fun K hK => ?_) AllReadyH.nil
          go_simp
          refine hK.out _ _ (HS1.out _ (bUp hb9 (bAlloc (Below.refl _ _) _) (Nat.le_trans (Nat.le_of_lt HWb.out) hs7))) (fun hHeld2 => ?_)
          clear hK K hHeld
          have hHeld := hHeld2
          clear hHeld2
          try simp only [Act.put, List.setIfInBounds_toArray, List.set_cons_zero, List.set_cons_succ]
          refine wpAnyH_take (i := 11) (oi := { dst := some 12, op := Op.assign (Operand.tmp 55), type := 32, pos := "law.go:99", after := #[{ on := 8, ground := Ground.data }, { on := 10, ground := Ground.chain }, { on := 0, ground := Ground.phase }, { on := 1, ground := Ground.phase }, { on := 2, ground := Ground.phase }, { on := 3, ground := Ground.phase }, { on := 4, ground := Ground.phase }, { on := 5, ground := Ground.phase }, { on := 6, ground := Ground.phase }, { on := 7, ground := Ground.phase }, { on := 8, ground := Ground.phase }, { on := 9, ground := Ground.phase }, { on := 10, ground := Ground.phase }], guard := none }) (v := .int .i64 0) rfl (by kernel_rfl) (by kernel_rfl) (by kernel_rfl) (fun _ _ _ h => h) (Or.inl ⟨by rfl, fun W hW => ?_⟩) hHeld ?_
          · obtain ⟨⟨q1, q2⟩, q3, q4, q5, q6, q7, q8⟩ := hW
            go_simp
          simp only [Act.put, List.setIfInBounds_toArray, List.set_cons_zero, List.set_cons_succ]
          refine wpAnyH_done (by kernel_rfl) ?_ _
          go_wp2_with fail
          go_meet
          exact ⟨w7.heap.size, rfl, rfl, SR.new 29 w7 (cl q), Nat.lt_of_lt_of_le HWb.out hs7, bAlloc hb8 _⟩
        · go_simp
          have hbA : Below wr.heap.size wr (wr.alloc (.cells #[.int .i64 0, .int .u8 0] 29)).drew := Below.drew (bAlloc (Below.refl _ _) _)
          refine hK.out _ _ (HS1.out _ (bUp HV.out hbA (Nat.le_of_lt HWb.out))) (fun hHeld2 => ?_)
          clear hK K hHeld
          have hHeld := hHeld2
          clear hHeld2
          try simp only [Act.put, List.setIfInBounds_toArray, List.set_cons_zero, List.set_cons_succ]
          have HN : Hid (SR 29 (wr.alloc (.cells #[.int .i64 0, .int .u8 0] 29)).drew wr.heap.size (cl ⟨0, 0⟩)) := SR.drew (SR.new 29 wr (cl ⟨0, 0⟩))
          refine wpAnyH_ready (rs := [5]) (by kernel_rfl) (by simp) ?_
          refine AllReadyH.cons (o := { dst := some 53, op := Op.call { callee := Callee.value (Operand.func 9), args := #[Operand.tmp 48, Operand.tmp 52], argTypes := #[25, 27] }, type := 33, pos := "law.go:99", after := #[{ on := 0, ground := Ground.data }, { on := 4, ground := Ground.data }], guard := none }) rfl (fun K hK => ?_) AllReadyH.nil
          go_simp
          with_reducible refine (HC1.out _).mono ?_
          rintro e w7 ⟨rfl, hb7⟩
          have hb8 := bCall hbA hb7
          have hb9 : Below bU w3 w7 := bUp HV.out hb8 (Nat.le_of_lt HWb.out)
          have HN7 := keepd (SR.call HN.out hb7 (SR.lt HN.out))
          obtain ⟨z0, z1, z2, z3⟩ := SR.clF HN7.out
          go_wp2_with fail
          refine hK.out _ _ (HS1.out _ hb9) (fun hHeld2 => ?_)
          clear hK K hHeld
          have hHeld := hHeld2
          clear hHeld2
          try simp only [Act.put, List.setIfInBounds_toArray, List.set_cons_zero, List.set_cons_succ]
          refine wpAnyH_take (i := 6) (oi := { dst := some 47, op := Op.move (Operand.tmp 53), type := 33, pos := "law.go:99", after := #[{ on := 5, ground := Ground.data }], guard := none }) (v := .tuple #[cv q, .int .i64 0]) rfl (by kernel_rfl) (by kernel_rfl) (by kernel_rfl) (fun _ _ _ h => h) (Or.inl ⟨by rfl, fun W hW => ?_⟩) hHeld ?_
          · obtain ⟨⟨q1, q2⟩, q3, q4, q5, q6, q7, q8⟩ := hW
            go_simp
          simp only [Act.put, List.setIfInBounds_toArray, List.set_cons_zero, List.set_cons_succ]
          refine wpAnyH_take (i := 7) (oi := { dst := some 54, op := Op.extract (Operand.tmp 47) 0, type := 29, pos := "law.go:99", after := #[{ on := 6, ground := Ground.data }], guard := none }) (v := cv q) rfl (by kernel_rfl) (by kernel_rfl) (by kernel_rfl) (fun _ _ _ h => h) (Or.inl ⟨by rfl, fun W hW => ?_⟩) hHeld ?_
          · obtain ⟨⟨q1, q2⟩, q3, q4, q5, q6, q7, q8⟩ := hW
            go_simp
          simp only [Act.put, List.setIfInBounds_toArray, List.set_cons_zero, List.set_cons_succ]
          refine wpAnyH_take (i := 8) (oi := { dst := some 55, op := Op.extract (Operand.tmp 47) 1, type := 32, pos := "law.go:99", after := #[{ on := 6, ground := Ground.data }, { on := 10, ground := Ground.gcOnly Departure.lateStores }], guard := none }) (v := .int .i64 0) rfl (by kernel_rfl) (by kernel_rfl) (by kernel_rfl) (fun _ _ _ h => h) (Or.inl ⟨by rfl, fun W hW => ?_⟩) hHeld ?_
          · obtain ⟨⟨q1, q2⟩, q3, q4, q5, q6, q7, q8⟩ := hW
            go_simp
          simp only [Act.put, List.setIfInBounds_toArray, List.set_cons_zero, List.set_cons_succ]
          refine wpAnyH_ready (rs := [10]) (by kernel_rfl) (by simp) ?_
          refine AllReadyH.cons (o := { dst := none, op := Op.store 29 (Operand.tmp 11) (Operand.tmp 54), type := 0, pos := "law.go:99", after := #[{ on := 9, ground := Ground.data }, { on := 7, ground := Ground.data }, { on := 5, ground := Ground.chain }, { on := 0, ground := Ground.phase }, { on := 1, ground := Ground.phase }, { on := 2, ground := Ground.phase }, { on := 3, ground := Ground.phase }, { on := 4, ground := Ground.phase }, { on := 5, ground := Ground.phase }, { on := 6, ground := Ground.phase }, { on := 7, ground := Ground.phase }, { on := 8, ground := Ground.textOnly Departure.lateStores }, { on := 9, ground := Ground.phase }], guard := none }) rfl (fun K hK => ?_) AllReadyH.nil
          go_simp
          refine hK.out _ _ (HS1.out _ (bUp HV.out (bSet (bSet hb8 (Nat.le_refl _) _) (Nat.le_refl _) _) (Nat.le_of_lt HWb.out))) (fun hHeld2 => ?_)
          clear hK K hHeld
          have hHeld := hHeld2
          clear hHeld2
          try simp only [Act.put, List.setIfInBounds_toArray, List.set_cons_zero, List.set_cons_succ]
          refine wpAnyH_take (i := 11) (oi := { dst := some 12, op := Op.assign (Operand.tmp 55), type := 32, pos := "law.go:99", after := #[{ on := 8, ground := Ground.data }, { on := 10, ground := Ground.chain }, { on := 0, ground := Ground.phase }, { on := 1, ground := Ground.phase }, { on := 2, ground := Ground.phase }, { on := 3, ground := Ground.phase }, { on := 4, ground := Ground.phase }, { on := 5, ground := Ground.phase }, { on := 6, ground := Ground.phase }, { on := 7, ground := Ground.phase }, { on := 8, ground := Ground.phase }, { on := 9, ground := Ground.phase }, { on := 10, ground := Ground.phase }], guard := none }) (v := .int .i64 0) rfl (by kernel_rfl) (by kernel_rfl) (by kernel_rfl) (fun _ _ _ h => h) (Or.inl ⟨by rfl, fun W hW => ?_⟩) hHeld ?_
          · obtain ⟨⟨q1, q2⟩, q3, q4, q5, q6, q7, q8⟩ := hW
            go_simp
          simp only [Act.put, List.setIfInBounds_toArray, List.set_cons_zero, List.set_cons_succ]
          refine wpAnyH_done (by kernel_rfl) ?_ _
          go_wp2_with fail
          go_meet
          exact ⟨wr.heap.size, rfl, rfl, SR.clPut HN7.out q, HWb.out, bSet (bSet hb8 (Nat.le_refl _) _) (Nat.le_refl _) _⟩
      case rest =>
      obtain ⟨wx, rfl⟩ : ∃ W, W = wc := ⟨_, rfl⟩
      obtain ⟨bC, rfl, rfl, HC11, HbC, hb7⟩ := hcut
      have HU5 := keepd (SR.call HU.out hb7.out (SR.lt HU.out))
      have HV5 := keepd (bUp HV.out hb7.out (Nat.le_of_lt (SR.lt HU.out)))
      clear hb7 HU HV HC1
      go_upto_region 12 with fail
      go_cut [13, 14] from 41 to 99 (fun sa sb wz => ∃ bb : Nat, sa = .pointer (some ⟨bb, 0, none⟩) ∧ sb = .int .i64 0 ∧ Hid (SR 29 wz bb (cl d)) ∧ Hid (bU < bb) ∧ Hid (Below wx.heap.size wx wz))
      case first =>
        have HWb : Hid (bU < wx.heap.size) := SR.lt HU5.out
        refine wp_region_held_drew (S := SQ bQ bL o1 Y t) (by kernel_rfl) (HS2.out _ (Below.drew HV5.out)) (fun hHeld => ?_)
        refine wpAnyH_take (i := 0) (oi := { dst := some 57, op := Op.load 25 (Operand.tmp 3), type := 25, pos := "law.go:100", after := #[], guard := none }) (v := tv Y) rfl (by kernel_rfl) (by kernel_rfl) (by kernel_rfl) (fun _ _ _ h => h) (Or.inl ⟨by rfl, fun W hW => ?_⟩) hHeld ?_
        · obtain ⟨⟨q1, q2⟩, q3, q4, q5, q6, q7, q8⟩ := hW
          go_simp
        simp only [Act.put, List.setIfInBounds_toArray, List.set_cons_zero, List.set_cons_succ]
        refine wpAnyH_take (i := 1) (oi := { dst := some 58, op := Op.move (Operand.tmp 7), type := 39, pos := "law.go:100", after := #[], guard := none }) (v := .slice (some ⟨bL, off, none⟩) 30 cc) rfl (by kernel_rfl) (by kernel_rfl) (by kernel_rfl) (fun _ _ _ h => h) (Or.inl ⟨by rfl, fun W hW => ?_⟩) hHeld ?_
        · obtain ⟨⟨q1, q2⟩, q3, q4, q5, q6, q7, q8⟩ := hW
          go_simp
        simp only [Act.put, List.setIfInBounds_toArray, List.set_cons_zero, List.set_cons_succ]
        refine wpAnyH_take (i := 2) (oi := { dst := some 59, op := Op.move (Operand.tmp 10), type := 3, pos := "law.go:100", after := #[], guard := none }) (v := .int .i64 (i : Int)) rfl (by kernel_rfl) (by kernel_rfl) (by kernel_rfl) (fun _ _ _ h => h) (Or.inl ⟨by rfl, fun W hW => ?_⟩) hHeld ?_
        · obtain ⟨⟨q1, q2⟩, q3, q4, q5, q6, q7, q8⟩ := hW
          go_simp
        simp only [Act.put, List.setIfInBounds_toArray, List.set_cons_zero, List.set_cons_succ]
        refine wpAnyH_take (i := 3) (oi := { dst := some 60, op := Op.indexAddr 39 (Operand.tmp 58) (Operand.tmp 59), type := 0, pos := "law.go:100", after := #[{ on := 1, ground := Ground.data }, { on := 2, ground := Ground.data }], guard := none }) (v := .pointer (some ⟨bL, o1, none⟩)) rfl (by kernel_rfl) (by kernel_rfl) (by kernel_rfl) (fun _ _ _ h => h) (Or.inl ⟨by rfl, fun W hW => ?_⟩) hHeld ?_
        · obtain ⟨⟨q1, q2⟩, q3, q4, q5, q6, q7, q8⟩ := hW
          have ho := HO.out
          go_simp
        simp only [Act.put, List.setIfInBounds_toArray, List.set_cons_zero, List.set_cons_succ]
        refine wpAnyH_take (i := 4) (oi := { dst := some 61, op := Op.load 27 (Operand.tmp 60), type := 27, pos := "law.go:100", after := #[{ on := 3, ground := Ground.data }], guard := none }) (v := vt t) rfl (by kernel_rfl) (by kernel_rfl) (by kernel_rfl) (fun _ _ _ h => h) (Or.inl ⟨by rfl, fun W hW => ?_⟩) hHeld ?_
        · obtain ⟨⟨q1, q2⟩, q3, q4, q5, q6, q7, q8⟩ := hW
          go_simp
        simp only [Act.put, List.setIfInBounds_toArray, List.set_cons_zero, List.set_cons_succ]
        refine wpAnyH_ready (rs := [5, 9]) (by kernel_rfl) (by simp) ?_
        refine AllReadyH.cons (o := { dst := some 62, op := Op.call { callee := Callee.value (Operand.func 9), args := #[Operand.tmp 57, Operand.tmp 61], argTypes := #[25, 27] }, type := 33, pos := "law.go:100", after := #[{ on := 0, ground := Ground.data }, { on := 4, ground := Ground.data }], guard := none }) rfl (fun K hK => ?_) (AllReadyH.cons (o := { dst := some 13, op := Op.alloc 29, type := 0, pos := "law.go:100", after := #[], guard := none }) rfl (fun K hK => ?_) AllReadyH.nil)
        · go_simp
          with_reducible refine (HC2.out _).mono ?_
          rintro e w7 ⟨rfl, hb7⟩
          have hb8 : Below wx.heap.size wx w7 := noDrew hb7
          have hb9 : Below bU w3 w7 := bUp HV5.out hb8 (Nat.le_of_lt HWb.out)
          have hs7 := hb8.size
          go_wp2_with fail
          refine hK.out _ _ (HS2.out _ hb9) (fun hHeld2 => ?_)
          clear hK K hHeld
          have hHeld := hHeld2
          clear hHeld2
          try simp only [Act.put, List.setIfInBounds_toArray, List.set_cons_zero, List.set_cons_succ]
          refine wpAnyH_take (i := 6) (oi := { dst := some 56, op := Op.move (Operand.tmp 62), type := 33, pos := "law.go:100", after := #[{ on := 5, ground := Ground.data }], guard := none }) (v := .tuple #[cv d, .int .i64 0]) rfl (by kernel_rfl) (by kernel_rfl) (by kernel_rfl) (fun _ _ _ h => h) (Or.inl ⟨by rfl, fun W hW => ?_⟩) hHeld ?_
          · obtain ⟨⟨q1, q2⟩, q3, q4, q5, q6, q7, q8⟩ := hW
            go_simp
          simp only [Act.put, List.setIfInBounds_toArray, List.set_cons_zero, List.set_cons_succ]
          refine wpAnyH_take (i := 7) (oi := { dst := some 63, op := Op.extract (Operand.tmp 56) 0, type := 29, pos := "law.go:100", after := #[{ on := 6, ground := Ground.data }], guard := none }) (v := cv d) rfl (by kernel_rfl) (by kernel_rfl) (by kernel_rfl) (fun _ _ _ h => h) (Or.inl ⟨by rfl, fun W hW => ?_⟩) hHeld ?_
          · obtain ⟨⟨q1, q2⟩, q3, q4, q5, q6, q7, q8⟩ := hW
            go_simp
          simp only [Act.put, List.setIfInBounds_toArray, List.set_cons_zero, List.set_cons_succ]
          refine wpAnyH_take (i := 8) (oi := { dst := some 64, op := Op.extract (Operand.tmp 56) 1, type := 32, pos := "law.go:100", after := #[{ on := 6, ground := Ground.data }, { on := 10, ground := Ground.gcOnly Departure.lateStores }], guard := none }) (v := .int .i64 0) rfl (by kernel_rfl) (by kernel_rfl) (by kernel_rfl) (fun _ _ _ h => h) (Or.inl ⟨by rfl, fun W hW => ?_⟩) hHeld ?_
          · obtain ⟨⟨q1, q2⟩, q3, q4, q5, q6, q7, q8⟩ := hW
            go_simp
          simp only [Act.put, List.setIfInBounds_toArray, List.set_cons_zero, List.set_cons_succ]
          refine wpAnyH_ready (rs := [9]) (by kernel_rfl) (by simp) ?_
          refine AllReadyH.cons (o := { dst := some 13, op := Op.alloc 29, type := 0, pos := "law.go:100", after := #[], guard := none }) rfl (fun K hK => ?_) AllReadyH.nil
          go_simp
          refine hK.out _ _ (HS2.out _ (bUp hb9 (bAlloc (Below.refl _ _) _) (Nat.le_trans (Nat.le_of_lt HWb.out) hs7))) (fun hHeld2 => ?_)
          clear hK K hHeld
          have hHeld := hHeld2
          clear hHeld2
          try simp only [Act.put, List.setIfInBounds_toArray, List.set_cons_zero, List.set_cons_succ]
          refine wpAnyH_ready (rs := [10]) (by kernel_rfl) (by simp) ?_
          refine AllReadyH.cons (o := { dst := none, op := Op.store 29 (Operand.tmp 13) (Operand.tmp 63), type := 0, pos := "law.go:100", after := #[{ on := 9, ground := Ground.data }, { on := 7, ground := Ground.data }, { on := 5, ground := Ground.chain }, { on := 0, ground := Ground.phase }, { on := 1, ground := Ground.phase }, { on := 2, ground := Ground.phase }, { on := 3, ground := Ground.phase }, { on := 4, ground := Ground.phase }, { on := 5, ground := Ground.phase }, { on := 6, ground := Ground.phase }, { on := 7, ground := Ground.phase }, { on := 8, ground := Ground.textOnly Departure.lateStores }, { on := 9, ground := Ground.phase }], guard := none }) rfl (fun K hK => ?_) AllReadyH.nil
          go_simp
          refine hK.out _ _ (HS2.out _ (bUp hb9 (bAlloc (Below.refl _ _) _) (Nat.le_trans (Nat.le_of_lt HWb.out) hs7))) (fun hHeld2 => ?_)
          clear hK K hHeld
          have hHeld := hHeld2
          clear hHeld2
          try simp only [Act.put, List.setIfInBounds_toArray, List.set_cons_zero, List.set_cons_succ]
          refine wpAnyH_take (i := 11) (oi := { dst := some 14, op := Op.assign (Operand.tmp 64), type := 32, pos := "law.go:100", after := #[{ on := 8, ground := Ground.data }, { on := 10, ground := Ground.chain }, { on := 0, ground := Ground.phase }, { on := 1, ground := Ground.phase }, { on := 2, ground := Ground.phase }, { on := 3, ground := Ground.phase }, { on := 4, ground := Ground.phase }, { on := 5, ground := Ground.phase }, { on := 6, ground := Ground.phase }, { on := 7, ground := Ground.phase }, { on := 8, ground := Ground.phase }, { on := 9, ground := Ground.phase }, { on := 10, ground := Ground.phase }], guard := none }) (v := .int .i64 0) rfl (by kernel_rfl) (by kernel_rfl) (by kernel_rfl) (fun _ _ _ h => h) (Or.inl ⟨by rfl, fun W hW => ?_⟩) hHeld ?_
          · obtain ⟨⟨q1, q2⟩, q3, q4, q5, q6, q7, q8⟩ := hW
            go_simp
          simp only [Act.put, List.setIfInBounds_toArray, List.set_cons_zero, List.set_cons_succ]
          refine wpAnyH_done (by kernel_rfl) ?_ _
          go_wp2_with fail
          go_meet
          exact ⟨w7.heap.size, rfl, rfl, SR.new 29 w7 (cl d), Nat.lt_of_lt_of_le HWb.out hs7, bAlloc hb8 _⟩
        · go_simp
          have hbA : Below wx.heap.size wx (wx.alloc (.cells #[.int .i64 0, .int .u8 0] 29)).drew := Below.drew (bAlloc (Below.refl _ _) _)
          refine hK.out _ _ (HS2.out _ (bUp HV5.out hbA (Nat.le_of_lt HWb.out))) (fun hHeld2 => ?_)
          clear hK K hHeld
          have hHeld := hHeld2
          clear hHeld2
          try simp only [Act.put, List.setIfInBounds_toArray, List.set_cons_zero, List.set_cons_succ]
          have HN : Hid (SR 29 (wx.alloc (.cells #[.int .i64 0, .int .u8 0] 29)).drew wx.heap.size (cl ⟨0, 0⟩)) := SR.drew (SR.new 29 wx (cl ⟨0, 0⟩))
          refine wpAnyH_ready (rs := [5]) (by kernel_rfl) (by simp) ?_
          refine AllReadyH.cons (o := { dst := some 62, op := Op.call { callee := Callee.value (Operand.func 9), args := #[Operand.tmp 57, Operand.tmp 61], argTypes := #[25, 27] }, type := 33, pos := "law.go:100", after := #[{ on := 0, ground := Ground.data }, { on := 4, ground := Ground.data }], guard := none }) rfl (fun K hK => ?_) AllReadyH.nil
          go_simp
          with_reducible refine (HC2.out _).mono ?_
          rintro e w7 ⟨rfl, hb7⟩
          have hb8 := bCall hbA hb7
          have hb9 : Below bU w3 w7 := bUp HV5.out hb8 (Nat.le_of_lt HWb.out)
          have HN7 := keepd (SR.call HN.out hb7 (SR.lt HN.out))
          obtain ⟨z0, z1, z2, z3⟩ := SR.clF HN7.out
          go_wp2_with fail
          refine hK.out _ _ (HS2.out _ hb9) (fun hHeld2 => ?_)
          clear hK K hHeld
          have hHeld := hHeld2
          clear hHeld2
          try simp only [Act.put, List.setIfInBounds_toArray, List.set_cons_zero, List.set_cons_succ]
          refine wpAnyH_take (i := 6) (oi := { dst := some 56, op := Op.move (Operand.tmp 62), type := 33, pos := "law.go:100", after := #[{ on := 5, ground := Ground.data }], guard := none }) (v := .tuple #[cv d, .int .i64 0]) rfl (by kernel_rfl) (by kernel_rfl) (by kernel_rfl) (fun _ _ _ h => h) (Or.inl ⟨by rfl, fun W hW => ?_⟩) hHeld ?_
          · obtain ⟨⟨q1, q2⟩, q3, q4, q5, q6, q7, q8⟩ := hW
            go_simp
          simp only [Act.put, List.setIfInBounds_toArray, List.set_cons_zero, List.set_cons_succ]
          refine wpAnyH_take (i := 7) (oi := { dst := some 63, op := Op.extract (Operand.tmp 56) 0, type := 29, pos := "law.go:100", after := #[{ on := 6, ground := Ground.data }], guard := none }) (v := cv d) rfl (by kernel_rfl) (by kernel_rfl) (by kernel_rfl) (fun _ _ _ h => h) (Or.inl ⟨by rfl, fun W hW => ?_⟩) hHeld ?_
          · obtain ⟨⟨q1, q2⟩, q3, q4, q5, q6, q7, q8⟩ := hW
            go_simp
          simp only [Act.put, List.setIfInBounds_toArray, List.set_cons_zero, List.set_cons_succ]
          refine wpAnyH_take (i := 8) (oi := { dst := some 64, op := Op.extract (Operand.tmp 56) 1, type := 32, pos := "law.go:100", after := #[{ on := 6, ground := Ground.data }, { on := 10, ground := Ground.gcOnly Departure.lateStores }], guard := none }) (v := .int .i64 0) rfl (by kernel_rfl) (by kernel_rfl) (by kernel_rfl) (fun _ _ _ h => h) (Or.inl ⟨by rfl, fun W hW => ?_⟩) hHeld ?_
          · obtain ⟨⟨q1, q2⟩, q3, q4, q5, q6, q7, q8⟩ := hW
            go_simp
          simp only [Act.put, List.setIfInBounds_toArray, List.set_cons_zero, List.set_cons_succ]
          refine wpAnyH_ready (rs := [10]) (by kernel_rfl) (by simp) ?_
          refine AllReadyH.cons (o := { dst := none, op := Op.store 29 (Operand.tmp 13) (Operand.tmp 63), type := 0, pos := "law.go:100", after := #[{ on := 9, ground := Ground.data }, { on := 7, ground := Ground.data }, { on := 5, ground := Ground.chain }, { on := 0, ground := Ground.phase }, { on := 1, ground := Ground.phase }, { on := 2, ground := Ground.phase }, { on := 3, ground := Ground.phase }, { on := 4, ground := Ground.phase }, { on := 5, ground := Ground.phase }, { on := 6, ground := Ground.phase }, { on := 7, ground := Ground.phase }, { on := 8, ground := Ground.textOnly Departure.lateStores }, { on := 9, ground := Ground.phase }], guard := none }) rfl (fun K hK => ?_) AllReadyH.nil
          go_simp
          refine hK.out _ _ (HS2.out _ (bUp HV5.out (bSet (bSet hb8 (Nat.le_refl _) _) (Nat.le_refl _) _) (Nat.le_of_lt HWb.out))) (fun hHeld2 => ?_)
          clear hK K hHeld
          have hHeld := hHeld2
          clear hHeld2
          try simp only [Act.put, List.setIfInBounds_toArray, List.set_cons_zero, List.set_cons_succ]
          refine wpAnyH_take (i := 11) (oi := { dst := some 14, op := Op.assign (Operand.tmp 64), type := 32, pos := "law.go:100", after := #[{ on := 8, ground := Ground.data }, { on := 10, ground := Ground.chain }, { on := 0, ground := Ground.phase }, { on := 1, ground := Ground.phase }, { on := 2, ground := Ground.phase }, { on := 3, ground := Ground.phase }, { on := 4, ground := Ground.phase }, { on := 5, ground := Ground.phase }, { on := 6, ground := Ground.phase }, { on := 7, ground := Ground.phase }, { on := 8, ground := Ground.phase }, { on := 9, ground := Ground.phase }, { on := 10, ground := Ground.phase }], guard := none }) (v := .int .i64 0) rfl (by kernel_rfl) (by kernel_rfl) (by kernel_rfl) (fun _ _ _ h => h) (Or.inl ⟨by rfl, fun W hW => ?_⟩) hHeld ?_
          · obtain ⟨⟨q1, q2⟩, q3, q4, q5, q6, q7, q8⟩ := hW
            go_simp
          simp only [Act.put, List.setIfInBounds_toArray, List.set_cons_zero, List.set_cons_succ]
          refine wpAnyH_done (by kernel_rfl) ?_ _
          go_wp2_with fail
          go_meet
          exact ⟨wx.heap.size, rfl, rfl, SR.clPut HN7.out d, HWb.out, bSet (bSet hb8 (Nat.le_refl _) _) (Nat.le_refl _) _⟩
      case rest =>
      obtain ⟨wy, rfl⟩ : ∃ W, W = wc := ⟨_, rfl⟩
      obtain ⟨bD, rfl, rfl, HD6, HbD, hb7⟩ := hcut
      have HC6 := keepd (SR.call HC11.out hb7.out (SR.lt HC11.out))
      have HU6 := keepd (SR.call HU5.out hb7.out (SR.lt HU5.out))
      have HV6 := keepd (bUp HV5.out hb7.out (Nat.le_of_lt (SR.lt HU5.out)))
      clear hb7 HU5 HV5 HC2 HC11
      obtain ⟨_, y0, y1, y2, y3, y4, y5⟩ := HS1.out _ HV6.out
      obtain ⟨z0, z1⟩ := HST.out _ HV6.out
      obtain ⟨c0, c1, _, _⟩ := SR.clF HC6.out
      obtain ⟨d0, d1, _, _⟩ := SR.clF HD6.out
      have t0 := HT0.out
      have t2 := HT2.out
      have ho := HO.out
      have w1 : IntKind.i64.wrap ((i : Int) + 1) = (i : Int) + 1 := wrap_small _ (by omega) (by omega)
      have w2 : wrap64 ((i : Int) + 1) = (i : Int) + 1 := by unfold wrap64; omega
      have j0 : (0 : Int) ≤ (i : Int) + 1 := by omega
      have j1 : (i : Int) + 1 < 31 := by omega
      have j2 : ((i : Int) + 1).toNat = i + 1 := by omega
      go_upto_region 13 with fail
      go_quiet (fail)
      have HU7 : Hid (TB (wy.drewN nq) bU Z) := HU6.out
      have HV7 : Hid (Below bU w3 (wy.drewN nq)) := by
        have h := HV6.out
        exact ⟨h.os, h.tape, h.output, h.size, h.block⟩
      have HD7 : Hid (SR 29 (wy.drewN nq) bD (cl d)) := HD6.out
      clear HU6 HV6 HC6 HD6 y0 y1 y2 y3 y4 y5 z0 z1 c0 c1 d0 d1 HS1 HS2 HST
      obtain ⟨w8, hw⟩ : ∃ V, wy.drewN nq = V := ⟨_, rfl⟩
      rw [hw] at HU7 HV7 HD7 ⊢
      clear hw
      obtain ⟨d0, d1, _, _⟩ := SR.clF HD7.out
      obtain ⟨e0, e1⟩ := TB.at HU7.out (i + 1) (by omega)
      have f0 := SR.frozen HU7.out ((i + 1) * 2)
      have f1 := SR.frozen HU7.out ((i + 1) * 2 + 1)
      clear t0 t2 ho
      go_wp2
      go_roundw
      case rel =>
        refine ⟨i + 1, by omega, by go_num, ?_, ?_⟩
        · show TB _ _ _
          rw [← HUn.out]
          exact TB.put HU7.out (i + 1) (by omega) d
        · exact Below.setCell (p := ⟨bU, _, none⟩) (Below.setCell (p := ⟨bU, _, none⟩) HV7.out (Nat.le_refl _) _) (Nat.le_refl _) _
      case measure => simp [intOf]; omega
    · obtain rfl : i = 30 := by omega
      have hmu := uT_may HM.out HMY.out
      have he : errT (uT X Y 30) = 0 := by unfold errT; rw [hmu]; rfl
      have HT := keepd (tcheckE_any (uT X Y 30) 0 he)
      generalize uT X Y 30 = Z at *
      clear hmu he
      have HB4 : Hid (Below w.heap.size w wr) := HB3.out.trans (HV.out.mono HZ.out)
      obtain ⟨r1, k1⟩ := TB.facts HU.out
      go_wp2_with fail
      with_reducible refine (HT.out _).mono ?_
      rintro e w5 ⟨rfl, hb⟩
      have HB5 := keepd (bCall HB4.out hb)
      clear hb r1 k1
      go_wp2_with fail
      with_reducible refine (HA.out _).mono ?_
      rintro e w9 ⟨rfl, hb9⟩
      have HB9 := keepd (bCall HB5.out hb9)
      clear hb9
      go_wp2
      go_returns
      exact ⟨rfl, HB9.out⟩

end Go.Proofs.Ytjchkpnfdamgnaa
