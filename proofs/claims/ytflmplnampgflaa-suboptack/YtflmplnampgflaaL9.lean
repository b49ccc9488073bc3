/-
  The walk of SuboptAck. No conditions beyond those each theorem states.
-/
import Derived.Test.YtflmplnampgflaaP3
import Derived.Test.YtflmplnampgflaaO16
namespace Go.Proofs.Ytflmplnampgflaa
open Go.RowKit
set_option maxRecDepth 100000

attribute [local go_sem ↓] ex_ld23 ex_st23 ex_al23 ex_bu23 ex_eq23 ex_ne23 ex_ld26 ex_st26 ex_al26 ex_ld23o ex_st23o ex_bu26 ex_bu26k ex_bu26m ex_bu26l ex_bu26v ex_bu26w ex_eq29 ex_ne29
attribute [local go_sem] ptrB_at okPtr_at aggC_at agg32 agg36 isM_at eqV_m isRow_new isRow_new26 World.setRow_alloc_new ptr3_at okPtr3_at cutM_at putM_at isI_at isL_at bK_at bKM_at bKL_at bKVM_at bKV_at isV_at toV_at

theorem ack_all : ∀ u : Fin 256, 0 ≤ bits .and .i64 (u.val : Int) 27 ∧ bits .and .i64 (u.val : Int) 27 ≤ 31 ∧ 0 ≤ bits .or .i64 (bits .and .i64 (u.val : Int) 27) 4 ∧ bits .or .i64 (bits .and .i64 (u.val : Int) 27) 4 ≤ 31 ∧
    bits .xor .u8 (bits .and .i64 (u.val : Int) 27) (bits .or .i64 (bits .and .i64 (u.val : Int) 27) 4) = 4 := by decide +kernel

theorem may_mode {z : Int} (h : 0 ≤ z ∧ z ≤ 31) : mayS 1 z 0 zM [] = true := by
  unfold mayS
  simp [h]
theorem get_mode (u : UInt8) : getP [1, u] = if u.toNat ≤ 31 then (⟨1, (u.toNat : Int), 0, zM, []⟩, 0) else (zS, 2) := by
  by_cases h : u.toNat ≤ 31
  · rw [if_pos h]
    exact getP_some (shape_get (.inl ⟨u, rfl, rfl, h⟩))
  · rw [if_neg h]
    cases ho : getS [1, u] with
    | none => exact getP_none ho
    | some X =>
      rcases get_shape ho with ⟨u2, e, _, hu⟩ | ⟨f, t, e, _, h1, _⟩ | ⟨r, L, e, _⟩
      · injection e with _ e
        injection e with e _
        subst e
        exact absurd hu h
      · injection e with e _
        subst e
        exact absurd h1 (by decide)
      · injection e with e _
        exact absurd e (by decide)

set_option maxHeartbeats 2000000 in
theorem ack_law (u : UInt8) (W : World) : Calls Try.prog 8 #[.int .u8 (u.toNat : Int)] W fun e w' => e = .returned (.bool true) ∧ Below W.heap.size W w' := by
  obtain ⟨h1, h2, h3, h4, h5⟩ := ack_all ⟨u.toNat, u.toNat_lt⟩
  simp only [] at h1 h2 h3 h4 h5
  have HGm := keepd (get_mode u)
  have hw : wrap64 (u.toNat : Int) = (u.toNat : Int) := wrap64_u8 u
  have hw2 : IntKind.i64.wrap (u.toNat : Int) = (u.toNat : Int) := by rw [IntWalk.i64_left]; exact hw
  obtain ⟨q, hq⟩ : ∃ q : Int, (u.toNat : Int) = q := ⟨_, rfl⟩
  have HQ := keepd hq
  rw [hq] at h1 h2 h3 h4 h5 hw hw2 ⊢
  obtain ⟨z, hz⟩ : ∃ z, bits .and .i64 q 27 = z := ⟨_, rfl⟩
  rw [hz] at h1 h2 h3 h4 h5
  obtain ⟨y, hy⟩ : ∃ y, bits .or .i64 z 4 = y := ⟨_, rfl⟩
  rw [hy] at h3 h4 h5
  have HZ : Hid (0 ≤ z ∧ z ≤ 31) := ⟨h1, h2⟩
  have HY : Hid (0 ≤ y ∧ y ≤ 31) := ⟨h3, h4⟩
  have CZ := keepd fun w : World => sput_any 1 z 0 zM none [] 0 0 true [1, u8 z] 0 w rfl (by omega) (RdT.nil _) (may_mode HZ.out) rfl rfl
  have CY := keepd fun w : World => sput_any 1 y 0 zM none [] 0 0 true [1, u8 y] 0 w rfl (by omega) (RdT.nil _) (may_mode HY.out) rfl rfl
  have ez : ((u8 z).toNat : Int) = z := u8_back h1 (by omega)
  have ey : ((u8 y).toNat : Int) = y := u8_back h3 (by omega)
  have EZ := keepd ez
  have EY := keepd ey
  clear h1 h2 h3 h4 hq ez ey
  go_enter Try.func8, Try.ntmps8
  go_wp2_with fail
  with_reducible refine (CZ.out _).mono ?_
  rintro e w2 ⟨A1, n1, c1, rfl, hn1, hr1, hb⟩
  have hn1' : n1 = 2 := hn1
  subst hn1'
  have HB2 := keepd hb
  have HR1 := keepd hr1
  clear hb hr1 hn1 hz
  go_wp2_with fail
  with_reducible refine (CY.out _).mono ?_
  rintro e w3 ⟨A2, n2, c2, rfl, hn2, hr2, hb⟩
  have hn2' : n2 = 2 := hn2
  subst hn2'
  have HB3 := keepd (bCall HB2.out hb)
  have HR13 := keepd (HR1.out.at_ hb)
  have HR2 := keepd hr2
  clear hb hr2 hn2 HB2 HR1 hy
  have HRu := keepd (new_rd w3 #[.int .u8 1, .int .u8 q] [1, u] 2 (by rw [← HQ.out]; rfl) rfl (by omega))
  have HBu := keepd (bAlloc HB3.out (.cells #[.int .u8 1, .int .u8 q] 5))
  have hbu := bAlloc (Below.refl w3.heap.size w3) (.cells #[.int .u8 1, .int .u8 q] 5)
  have HR1u := keepd (HR13.out.at_ hbu)
  have HR2u := keepd (HR2.out.at_ hbu)
  clear hbu HB3 HR13 HR2
  by_cases h31 : u.toNat ≤ 31
  · have hg : getP [1, u] = (⟨1, q, 0, zM, []⟩, 0) := by
      rw [HGm.out, if_pos h31, HQ.out]
    have CG := keepd (sget_any _ [1, u] 2 2 1 q 0 zM [] 0 _ rfl HRu.out hg)
    have hq31 : q ≤ 31 := by have := HQ.out; omega
    have t1 : decide (q ≤ 31) = true := decide_eq_true hq31
    clear hg h31 hq31 HRu
    go_wp2_with fail
    with_reducible refine CG.out.mono ?_
    rintro e w5 ⟨Ag, ng, cg, rfl, hng, hrg, hb5⟩
    have HB5 := keepd (bCall HBu.out hb5)
    have HR15 := keepd (HR1u.out.at_ hb5)
    have HR25 := keepd (HR2u.out.at_ hb5)
    clear hng hrg hb5 CG HBu HR1u HR2u
    go_upto_region 5 with fail
    generalize hV : w5.alloc (.cells (sc 1 q 0 zM (.slice Ag ng cg)).toArray 26) = V5
    obtain ⟨h1, h2, h3⟩ := one_new _ _ _ _ hV
    obtain ⟨g5, hg5⟩ : ∃ g, w5.heap.size = g := ⟨_, rfl⟩
    rw [hg5] at h1 ⊢
    have HRa := keepd (HR15.out.at_ h2)
    have HRb := keepd (HR25.out.at_ h2)
    have HBV := keepd (bCall HB5.out h2)
    clear hV hg5 h2 h3 HR15 HR25 HB5
    obtain ⟨a0, a1, a2, a3⟩ := SB.cells h1
    clear h1
    obtain ⟨ga, oa, rfl, hga, ra0⟩ := HRa.out.form (k := 0) (by simp)
    obtain ⟨ga', oa', ha', hga', ra1⟩ := HRa.out.form (k := 1) (by simp)
    obtain ⟨rfl, rfl⟩ : ga = ga' ∧ oa = oa' := by
      injection ha' with ha'
      injection ha' with e1 e2
      exact ⟨e1, e2⟩
    obtain ⟨gb, ob, rfl, hgb, rb0⟩ := HRb.out.form (k := 0) (by simp)
    obtain ⟨gb', ob', hb', hgb', rb1⟩ := HRb.out.form (k := 1) (by simp)
    obtain ⟨rfl, rfl⟩ : gb = gb' ∧ ob = ob' := by
      injection hb' with hb'
      injection hb' with e1 e2
      exact ⟨e1, e2⟩
    have ca0 : V5.cell? ⟨ga, oa, none⟩ = some (.int .u8 1) := ra0
    have cb0 : V5.cell? ⟨gb, ob, none⟩ = some (.int .u8 1) := rb0
    have ca1 : V5.cell? ⟨ga, oa + 1, none⟩ = some (.int .u8 z) := ra1.trans (by show some (Value.int .u8 ((u8 z).toNat : Int)) = _; rw [EZ.out])
    have cb1 : V5.cell? ⟨gb, ob + 1, none⟩ = some (.int .u8 y) := rb1.trans (by show some (Value.int .u8 ((u8 y).toNat : Int)) = _; rw [EY.out])
    clear hga hga' ha' hgb hgb' hb' ra0 ra1 rb0 rb1
    go_quiet (fail)
    have HBq := keepd (bDrewN HBV.out nq)
    clear HBV ca0 cb0 ca1 cb1
    go_wp2_with fail
    with_reducible refine (awake_any _).mono ?_
    rintro e w7 ⟨rfl, hb7⟩
    have HB7 := keepd (bCall HBq.out hb7)
    clear hb7
    go_wp2_with fail
    go_ret
    exact ⟨rfl, HB7.out⟩
  · have hg : getP [1, u] = (⟨0, 0, 0, zM, []⟩, 2) := by
      rw [HGm.out, if_neg h31]
      rfl
    have CG := keepd (sget_any _ [1, u] 2 2 0 0 0 zM [] 2 _ rfl HRu.out hg)
    have hq31 : ¬ q ≤ 31 := by have := HQ.out; omega
    have t1 : decide (q ≤ 31) = false := decide_eq_false hq31
    clear hg h31 hq31 HRu
    go_wp2_with fail
    with_reducible refine CG.out.mono ?_
    rintro e w5 ⟨Ag, ng, cg, rfl, hng, hrg, hb5⟩
    have HB5 := keepd (bCall HBu.out hb5)
    have HR15 := keepd (HR1u.out.at_ hb5)
    have HR25 := keepd (HR2u.out.at_ hb5)
    clear hng hrg hb5 CG HBu HR1u HR2u
    go_upto_region 5 with fail
    generalize hV : w5.alloc (.cells (sc 0 0 0 zM (.slice Ag ng cg)).toArray 26) = V5
    obtain ⟨h1, h2, h3⟩ := one_new _ _ _ _ hV
    obtain ⟨g5, hg5⟩ : ∃ g, w5.heap.size = g := ⟨_, rfl⟩
    rw [hg5] at h1 ⊢
    have HRa := keepd (HR15.out.at_ h2)
    have HRb := keepd (HR25.out.at_ h2)
    have HBV := keepd (bCall HB5.out h2)
    clear hV hg5 h2 h3 HR15 HR25 HB5
    obtain ⟨a0, a1, a2, a3⟩ := SB.cells h1
    clear h1
    obtain ⟨ga, oa, rfl, hga, ra0⟩ := HRa.out.form (k := 0) (by simp)
    obtain ⟨ga', oa', ha', hga', ra1⟩ := HRa.out.form (k := 1) (by simp)
    obtain ⟨rfl, rfl⟩ : ga = ga' ∧ oa = oa' := by
      injection ha' with ha'
      injection ha' with e1 e2
      exact ⟨e1, e2⟩
    obtain ⟨gb, ob, rfl, hgb, rb0⟩ := HRb.out.form (k := 0) (by simp)
    obtain ⟨gb', ob', hb', hgb', rb1⟩ := HRb.out.form (k := 1) (by simp)
    obtain ⟨rfl, rfl⟩ : gb = gb' ∧ ob = ob' := by
      injection hb' with hb'
      injection hb' with e1 e2
      exact ⟨e1, e2⟩
    have ca0 : V5.cell? ⟨ga, oa, none⟩ = some (.int .u8 1) := ra0
    have cb0 : V5.cell? ⟨gb, ob, none⟩ = some (.int .u8 1) := rb0
    have ca1 : V5.cell? ⟨ga, oa + 1, none⟩ = some (.int .u8 z) := ra1.trans (by show some (Value.int .u8 ((u8 z).toNat : Int)) = _; rw [EZ.out])
    have cb1 : V5.cell? ⟨gb, ob + 1, none⟩ = some (.int .u8 y) := rb1.trans (by show some (Value.int .u8 ((u8 y).toNat : Int)) = _; rw [EY.out])
    clear hga hga' ha' hgb hgb' hb' ra0 ra1 rb0 rb1
    go_quiet (fail)
    have HBq := keepd (bDrewN HBV.out nq)
    clear HBV ca0 cb0 ca1 cb1
    go_wp2_with fail
    with_reducible refine (awake_any _).mono ?_
    rintro e w7 ⟨rfl, hb7⟩
    have HB7 := keepd (bCall HBq.out hb7)
    clear hb7
    go_wp2_with fail
    go_ret
    exact ⟨rfl, HB7.out⟩

end Go.Proofs.Ytflmplnampgflaa
