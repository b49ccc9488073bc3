/-
  The law TableOrder. No conditions beyond those each theorem states.
-/
import Derived.Test.YtmjhagmniipcaaaDoorT7
namespace Go.Proofs.YtmjhagmniipcaaaDoor
open Go.RowKit
set_option maxRecDepth 100000

attribute [local go_sem ↓] ex_ld25 ex_st25 ex_al25 ex_bu25 ex_ix25 ex_eq25 ex_ne25 ex_eq23 ex_ne23
attribute [local go_sem] ptrB_at okPtr_at aggC_at agg62 isC_at isT_at eqV_t eqV_c isRow_new World.setRow_alloc_new

theorem mayT_set {Y : Tb} (h : mayT Y = true) {n : Nat} (h0 : 0 < n) (hn : n < 31) (c : Cl) : mayT (tset Y n c) = mayC c := by
  obtain ⟨h1, h2⟩ := mayT_iff.1 h
  rw [Bool.eq_iff_iff, mayT_iff]
  constructor
  · rintro ⟨_, h4⟩
    have := h4 n hn
    rwa [tset_at] at this
  · intro hc
    refine ⟨by rw [tset_ne Y c (by omega)]; exact h1, fun i hi => ?_⟩
    by_cases e : i = n
    · subst e; rw [tset_at]; exact hc
    · rw [tset_ne Y c e]; exact h2 i hi
/-- May a function's cell be so? -/
def okCh (f : Int) (c : Cl) : Bool := decide (0 < f ∧ f < 31) && mayC c
theorem with_may {Y : Tb} (h : mayT Y = true) (f : Int) (c : Cl) : withF Y f c = if okCh f c then (tset Y f.toNat c, 0) else (Y, 1) := by
  unfold withF okCh
  by_cases hf : 0 < f ∧ f < 31
  · rw [mayT_set h (by omega) (by omega)]
    cases hc : mayC c
    · simp
    · simp [hf]
  · rw [if_neg (fun h => hf ⟨h.1, h.2.1⟩)]
    simp [hf]
theorem may_with {Y : Tb} (h : mayT Y = true) {f : Int} {c : Cl} (ho : okCh f c = true) : mayT (tset Y f.toNat c) = true := by
  unfold okCh at ho
  rw [Bool.and_eq_true, decide_eq_true_eq] at ho
  rw [mayT_set h (by omega) (by omega)]
  exact ho.2
theorem tset_swap (X : Tb) {n m : Nat} (c d : Cl) (h : n ≠ m) : tset (tset X n c) m d = tset (tset X m d) n c := by
  funext j
  unfold tset
  by_cases e : j = n
  · subst e
    rw [if_neg h, if_pos rfl, if_pos rfl]
  · rw [if_neg e, if_neg e]

/-- Two changes, in two orders. -/
theorem order_facts {X : Tb} (h : mayT X = true) (f f' : Int) (c c' : Cl) (hne : ¬ f = f') : ∃ A e B u C Z, withF X f c = (A, e) ∧ withF A f' c' = (B, u) ∧ withF X f' c' = (C, u) ∧ withF C f c = (Z, e) ∧ sameT B Z = true := by
  cases ho : okCh f c <;> cases ho' : okCh f' c'
  · refine ⟨X, 1, X, 1, X, X, ?_, ?_, ?_, ?_, sameT_self X⟩ <;> simp [with_may h, ho, ho']
  · have h2 := may_with h ho'
    exact ⟨X, 1, tset X f'.toNat c', 0, tset X f'.toNat c', tset X f'.toNat c', by simp [with_may h, ho], by simp [with_may h, ho'], by simp [with_may h, ho'], by simp [with_may h2, ho], sameT_self _⟩
  · have h2 := may_with h ho
    exact ⟨tset X f.toNat c, 0, tset X f.toNat c, 1, X, tset X f.toNat c, by simp [with_may h, ho], by simp [with_may h2, ho'], by simp [with_may h, ho'], by simp [with_may h, ho], sameT_self _⟩
  · have h2 := may_with h ho
    have h3 := may_with h ho'
    refine ⟨tset X f.toNat c, 0, tset (tset X f.toNat c) f'.toNat c', 0, tset X f'.toNat c', tset (tset X f'.toNat c') f.toNat c, by simp [with_may h, ho], by simp [with_may h2, ho'], by simp [with_may h, ho'], by simp [with_may h3, ho], ?_⟩
    unfold okCh at ho ho'
    rw [Bool.and_eq_true, decide_eq_true_eq] at ho ho'
    rw [tset_swap X c c' (by omega)]
    exact sameT_self _

abbrev chv (f : Int) (c : Cl) : Value := .agg #[.int .i64 f, .int .i64 c.lv, .int .u8 c.v]
abbrev chs (f : Int) (c : Cl) : List Value := [.int .i64 f, .int .i64 c.lv, .int .u8 c.v]
theorem SR.ch {W : World} {b : Nat} {f : Int} {c : Cl} (h : SR 27 W b (chs f c)) : W.cell? ⟨b, 0, none⟩ = some (.int .i64 f) ∧ W.cell? ⟨b, 1, none⟩ = some (.int .i64 c.lv) ∧ W.cell? ⟨b, 2, none⟩ = some (.int .u8 c.v) :=
  ⟨SR.cell h 0, SR.cell h 1, SR.cell h 2⟩
theorem three_ch (w : World) (X : Tb) (a b : List Value) (W : World) (h : ((w.alloc (.cells (cs X).toArray 25)).alloc (.cells a.toArray 27)).alloc (.cells b.toArray 27) = W) :
    TB W w.heap.size X ∧ SR 27 W (w.heap.size + 1) a ∧ SR 27 W (w.heap.size + 1 + 1) b ∧ Below w.heap.size w W := by
  subst h
  exact ⟨((SR.new 25 w (cs X)).alloc _).alloc _, SR.alloc (t := 27) (cs := a) (heap_alloc2_new w _ _) _, n4 w _ _ _, bAlloc (bAlloc (bAlloc (Below.refl _ _) _) _) _⟩

set_option maxHeartbeats 4000000 in
theorem order_law (X : Tb) (f : Int) (c : Cl) (f' : Int) (c' : Cl) (w : World) (hL : Laid w) : Calls Tryd.prog 8 #[tv X, chv f c, chv f' c'] w fun e w' => e = .returned (.bool true) ∧ Below w.heap.size w w' := by
  obtain ⟨m, hm⟩ : ∃ m, mayT X = m := ⟨_, rfl⟩
  have HC := keepd (check_any X m hm)
  have HO : Hid (m = true → ¬ f = f' → ∃ A e B u C Z, withF X f c = (A, e) ∧ withF A f' c' = (B, u) ∧ withF X f' c' = (C, u) ∧ withF C f c = (Z, e) ∧ sameT B Z = true) := fun e h => order_facts (hm.trans e) f f' c c' h
  have HA := keepd (fun w h => awake_any w h)
  have HL := keepd hL
  clear hm hL
  go_enter Tryd.func8, Tryd.ntmps8
  go_upto_region 1 with fail
  generalize hW : ((w.alloc (.cells (cs X).toArray 25)).alloc (.cells #[.int .i64 f, .int .i64 c.lv, .int .u8 c.v] 27)).alloc (.cells #[.int .i64 f', .int .i64 c'.lv, .int .u8 c'.v] 27) = W
  obtain ⟨h1, h2, h3, h4⟩ := three_ch w X (chs f c) (chs f' c') W hW
  clear hW
  have HT := keepd h1
  have HU := keepd h2
  have HV := keepd h3
  have HB := keepd h4
  clear h1 h2 h3 h4
  generalize w.heap.size + 1 + 1 = b2 at *
  generalize w.heap.size + 1 = b1 at *
  obtain ⟨b0, hb0⟩ : ∃ b, w.heap.size = b := ⟨_, rfl⟩
  rw [hb0] at HT ⊢
  clear hb0
  obtain ⟨r1, k1⟩ := TB.facts HT.out
  go_wp2_with fail
  with_reducible refine (HC.out _).mono ?_
  rintro e w1 ⟨rfl, hb⟩
  have HT1 := keepd (SR.call HT.out hb (SR.lt HT.out))
  have HU1 := keepd (SR.call HU.out hb (SR.lt HU.out))
  have HV1 := keepd (SR.call HV.out hb (SR.lt HV.out))
  have HB1 := keepd (bCall HB.out hb)
  clear hb r1 k1 HT HU HV HB HC
  obtain ⟨p0, p1, p2⟩ := SR.ch HU1.out
  obtain ⟨q0, q1, q2⟩ := SR.ch HV1.out
  cases m
  · clear HO
    go_wp2_with fail
    with_reducible refine (HA.out _ (HL.out.below HB1.out)).mono ?_
    rintro e w9 ⟨rfl, hb9⟩
    have HB9 := keepd (bCall HB1.out hb9)
    clear hb9
    go_wp2
    go_returns
    exact ⟨rfl, HB9.out⟩
  by_cases hff : f = f'
  · subst hff
    clear HO
    go_wp2_with fail
    with_reducible refine (HA.out _ (HL.out.below HB1.out)).mono ?_
    rintro e w9 ⟨rfl, hb9⟩
    have HB9 := keepd (bCall HB1.out hb9)
    clear hb9
    go_wp2
    go_returns
    exact ⟨rfl, HB9.out⟩
  have gff : (f == f') = false := by simpa using hff
  obtain ⟨A, e1, B, u1, C, Z, hA, hB, hC, hZ, hs⟩ := HO.out rfl hff
  have CA := keepd (with_any X f c A e1 hA)
  have CB := keepd (with_any A f' c' B u1 hB)
  have CC := keepd (with_any X f' c' C u1 hC)
  have CZ := keepd (with_any C f c Z e1 hZ)
  have HS := keepd hs
  clear hA hB hC hZ hs HO hff
  obtain ⟨r1, k1⟩ := TB.facts HT1.out
  go_wp2_with fail
  with_reducible refine (CA.out _).mono ?_
  rintro e v2 ⟨rfl, hb⟩
  have HT2 := keepd (SR.alloc (SR.call HT1.out hb (SR.lt HT1.out)) (.cells (cs A).toArray 25))
  have HU2 := keepd (SR.alloc (SR.call HU1.out hb (SR.lt HU1.out)) (.cells (cs A).toArray 25))
  have HV2 := keepd (SR.alloc (SR.call HV1.out hb (SR.lt HV1.out)) (.cells (cs A).toArray 25))
  have HB2 := keepd (bAlloc (bCall HB1.out hb) (.cells (cs A).toArray 25))
  have HA_2 := keepd (SR.new 25 v2 (cs A))
  clear hb r1 k1 p0 p1 p2 q0 q1 q2 HB1 CA HT1 HU1 HV1
  go_upto_region 4 with fail
  generalize v2.alloc (.cells (cs A).toArray 25) = w2 at *
  obtain ⟨bA, hp⟩ : ∃ p, v2.heap.size = p := ⟨_, rfl⟩
  rw [hp] at HA_2 ⊢
  clear hp
  obtain ⟨p0, p1, p2⟩ := SR.ch HU2.out
  obtain ⟨q0, q1, q2⟩ := SR.ch HV2.out
  obtain ⟨r1, k1⟩ := TB.facts HA_2.out
  go_wp2_with fail
  with_reducible refine (CB.out _).mono ?_
  rintro e v3 ⟨rfl, hb⟩
  have HT3 := keepd (SR.alloc (SR.call HT2.out hb (SR.lt HT2.out)) (.cells (cs B).toArray 25))
  have HU3 := keepd (SR.alloc (SR.call HU2.out hb (SR.lt HU2.out)) (.cells (cs B).toArray 25))
  have HV3 := keepd (SR.alloc (SR.call HV2.out hb (SR.lt HV2.out)) (.cells (cs B).toArray 25))
  have HA_3 := keepd (SR.alloc (SR.call HA_2.out hb (SR.lt HA_2.out)) (.cells (cs B).toArray 25))
  have HB3 := keepd (bAlloc (bCall HB2.out hb) (.cells (cs B).toArray 25))
  have HB_3 := keepd (SR.new 25 v3 (cs B))
  clear hb r1 k1 p0 p1 p2 q0 q1 q2 HB2 CB HT2 HU2 HV2 HA_2
  go_upto_region 5 with fail
  generalize v3.alloc (.cells (cs B).toArray 25) = w3 at *
  obtain ⟨bB, hp⟩ : ∃ p, v3.heap.size = p := ⟨_, rfl⟩
  rw [hp] at HB_3 ⊢
  clear hp
  obtain ⟨p0, p1, p2⟩ := SR.ch HU3.out
  obtain ⟨q0, q1, q2⟩ := SR.ch HV3.out
  obtain ⟨r1, k1⟩ := TB.facts HT3.out
  go_wp2_with fail
  with_reducible refine (CC.out _).mono ?_
  rintro e v4 ⟨rfl, hb⟩
  have HT4 := keepd (SR.alloc (SR.call HT3.out hb (SR.lt HT3.out)) (.cells (cs C).toArray 25))
  have HU4 := keepd (SR.alloc (SR.call HU3.out hb (SR.lt HU3.out)) (.cells (cs C).toArray 25))
  have HV4 := keepd (SR.alloc (SR.call HV3.out hb (SR.lt HV3.out)) (.cells (cs C).toArray 25))
  have HA_4 := keepd (SR.alloc (SR.call HA_3.out hb (SR.lt HA_3.out)) (.cells (cs C).toArray 25))
  have HB_4 := keepd (SR.alloc (SR.call HB_3.out hb (SR.lt HB_3.out)) (.cells (cs C).toArray 25))
  have HB4 := keepd (bAlloc (bCall HB3.out hb) (.cells (cs C).toArray 25))
  have HC_4 := keepd (SR.new 25 v4 (cs C))
  clear hb r1 k1 p0 p1 p2 q0 q1 q2 HB3 CC HT3 HU3 HV3 HA_3 HB_3
  go_upto_region 6 with fail
  generalize v4.alloc (.cells (cs C).toArray 25) = w4 at *
  obtain ⟨bC, hp⟩ : ∃ p, v4.heap.size = p := ⟨_, rfl⟩
  rw [hp] at HC_4 ⊢
  clear hp
  obtain ⟨p0, p1, p2⟩ := SR.ch HU4.out
  obtain ⟨q0, q1, q2⟩ := SR.ch HV4.out
  obtain ⟨r1, k1⟩ := TB.facts HC_4.out
  go_wp2_with fail
  with_reducible refine (CZ.out _).mono ?_
  rintro e v5 ⟨rfl, hb⟩
  have HT5 := keepd (SR.alloc (SR.call HT4.out hb (SR.lt HT4.out)) (.cells (cs Z).toArray 25))
  have HU5 := keepd (SR.alloc (SR.call HU4.out hb (SR.lt HU4.out)) (.cells (cs Z).toArray 25))
  have HV5 := keepd (SR.alloc (SR.call HV4.out hb (SR.lt HV4.out)) (.cells (cs Z).toArray 25))
  have HA_5 := keepd (SR.alloc (SR.call HA_4.out hb (SR.lt HA_4.out)) (.cells (cs Z).toArray 25))
  have HB_5 := keepd (SR.alloc (SR.call HB_4.out hb (SR.lt HB_4.out)) (.cells (cs Z).toArray 25))
  have HC_5 := keepd (SR.alloc (SR.call HC_4.out hb (SR.lt HC_4.out)) (.cells (cs Z).toArray 25))
  have HB5 := keepd (bAlloc (bCall HB4.out hb) (.cells (cs Z).toArray 25))
  have HZ_5 := keepd (SR.new 25 v5 (cs Z))
  clear hb r1 k1 p0 p1 p2 q0 q1 q2 HB4 CZ HT4 HU4 HV4 HA_4 HB_4 HC_4
  go_upto_region 7 with fail
  generalize v5.alloc (.cells (cs Z).toArray 25) = w5 at *
  obtain ⟨bZ, hp⟩ : ∃ p, v5.heap.size = p := ⟨_, rfl⟩
  rw [hp] at HZ_5 ⊢
  clear hp
  obtain ⟨r1, k1⟩ := TB.facts HB_5.out
  obtain ⟨r2, k2⟩ := TB.facts HZ_5.out
  have hs := HS.out
  go_wp2_with fail
  with_reducible refine (HA.out _ (HL.out.below HB5.out)).mono ?_
  rintro e w9 ⟨rfl, hb9⟩
  have HB9 := keepd (bCall HB5.out hb9)
  clear hb9
  go_wp2
  go_returns
  exact ⟨rfl, HB9.out⟩

end Go.Proofs.YtmjhagmniipcaaaDoor
