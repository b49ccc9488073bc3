/-
  The document's own Key. No conditions beyond those each theorem states.
-/
import Derived.Test.YtlfmbfecajhffaaDoorRA
namespace Go.Proofs.YtlfmbfecajhffaaDoor
open Go.RowKit
set_option maxRecDepth 100000

attribute [local go_sem ↓] ex_ld25 ex_st25 ex_al25 ex_bu25 ex_ix25 ex_eq25 ex_ne25 ex_eq23 ex_ne23 ex_ld25o ex_st65 ex_al65 ex_bu65 ex_bu65s ex_ld25d
attribute [local go_sem] ptrB_at okPtr_at aggC_at agg62 agg69 isC_at isT_at eqV_t eqV_c isRow_new isRow_new65 World.setRow_alloc_new ptr4_at okPtr4_at cutT_at isI_at isS_at bW_at bWs_at ptrD_at okPtrD_at cutD_at

theorem actE_do {z room : Int} {s : Ed} {u : UInt8} (h1 : isSig z = false) (h2 : ¬ z = 0 ∧ ¬ z = 17 ∧ ¬ z = 18 ∧ ¬ z = 31 ∧ ¬ z = 14 ∧ ¬ z = 25 ∧ ¬ z = 26) : actE z room s u = ⟨⟨(doR s.l s.t z).1, (doR s.l s.t z).2, s.ov, s.li⟩, [], 0⟩ := by
  obtain ⟨a1, a2, a3, a4, a5, a6, a7⟩ := h2
  unfold actE
  rw [h1]
  simp only [Bool.false_eq_true, if_false, a1, a2, a3, a4, a5, a6, a7, or_self]
  by_cases b1 : z = 13 ∨ z = 15 ∨ z = 16
  · rw [if_pos b1]
    rcases b1 with rfl | rfl | rfl <;> rfl
  · rw [if_neg b1]

set_option maxHeartbeats 8000000 in
/-- The document's own Key. -/
theorem rek_any (X : Tb) (room : Int) (A : Option Addr) (l : List UInt8) (n c t : Nat) (ov li : Bool) (u : UInt8) (w : World) (hn : n = l.length) (hr : Rd w w.heap.size A l c) (ht : t ≤ n) (hl : n ≤ 4096)
    (l1 : List UInt8) (n1 t1 : Nat) (ov1 li1 : Bool) (es : List Ev) (m1 be : Nat) (bell : Bool) (hp : keyE X room ⟨l, t, ov, li⟩ u = ⟨⟨l1, t1, ov1, li1⟩, es, be⟩) (hn1 : l1.length = n1) (hm1 : es.length = m1) (hb : decide (0 < be) = bell) :
    Calls Tryd.prog 35 #[tv X, .int .i64 room, .agg #[.slice A n c, .int .i64 (t : Int), .bool ov, .bool li], .int .u8 (u.toNat : Int)] w (GotU w l1 n1 (t1 : Int) ov1 li1 es m1 bell) := by
  have HR := keepd hr
  have HN := keepd hn
  have HP := keepd hp
  have HN1 := keepd hn1
  have HM1 := keepd hm1
  have HBE := keepd hb
  have HTL := keepd (And.intro hl ht)
  clear hr hn hp hn1 hm1 hb hl ht
  go_enter Tryd.func35, Tryd.ntmps35
  go_upto_region 1 with fail
  generalize hV : ((w.alloc (.cells (cs X).toArray 25)).alloc (.cells #[.slice A n c, .int .i64 (t : Int), .bool ov, .bool li] 32)).alloc (.cells #[.slice none 0 0, .int .i64 0, .bool false, .bool false] 32) = V
  obtain ⟨HT, HS, HZ, HB⟩ := play_new _ _ _ _ _ _ _ _ _ _ _ hV
  obtain ⟨q0, q1⟩ := TB.facts HT.out
  obtain ⟨m, hme⟩ : ∃ m, meanF X (u.toNat : Int) = m := ⟨_, rfl⟩
  obtain ⟨z, hz⟩ : ∃ z : Int, (m : Int) = z := ⟨_, rfl⟩
  have HME := keepd (refMeaning_any X (u.toNat : Int) m hme V)
  rw [hz] at HME
  have HMZ : Hid ((meanF X (u.toNat : Int) : Int) = z) := by rw [hme]; exact hz
  have hz0 : 0 ≤ z := by omega
  clear hV hz hme
  go_wp2_with fail
  with_reducible refine HME.out.mono ?_
  rintro e w2 ⟨rfl, hb2⟩
  have HS2 := keepd (SR.call HS.out hb2 HS.out.lt)
  have HZ2 := keepd (SR.call HZ.out hb2 HZ.out.lt)
  have HB2 := keepd (bCall HB.out hb2)
  have HR2 := keepd (HR.out.at_ HB2.out)
  clear hb2 HME q0 q1 HT HS HZ HB HR
  obtain ⟨k0, k1, k2, k3, _, _, _, _, kt⟩ := st_facts HS2.out
  obtain ⟨j0, j1, j2, j3, r0, r1, r2, r3, jt⟩ := st_facts HZ2.out
  cases li
  case true =>
    have hty : typE ⟨l, t, ov, false⟩ room u = ⟨⟨l1, t1, ov, false⟩, [], be⟩ ∧ ov1 = ov ∧ li1 = false ∧ es = [] := by
      have h := HP.out
      unfold keyE at h; simp only [if_true] at h
      unfold typE at h ⊢
      simp only [Res.mk.injEq, Ed.mk.injEq] at h ⊢
      obtain ⟨⟨e1, e2, e3, e4⟩, e5, e6⟩ := h
      refine ⟨⟨⟨e1, e2, ?_, ?_⟩, ?_, e6⟩, e3.symm, e4.symm, e5.symm⟩ <;> trivial
    obtain ⟨hty, rfl, rfl, rfl⟩ := hty
    obtain rfl : m1 = 0 := HM1.out.symm
    have CT := keepd (rtyped_any A l n c t ov1 true room u w2 HN.out HR2.out HTL.out.1 HTL.out.2 l1 n1 t1 be bell hty HN1.out HBE.out)
    clear hty
    go_wp2_with fail
    with_reducible refine CT.out.mono ?_
    rintro e w3 ⟨A3, c3, B3, d3, L3, rfl, hl3, hm3, hr3, hre3, hb3⟩
    have HZ3 := keepd (SR.call HZ2.out hb3 HZ2.out.lt)
    have HB3 := keepd (bCall HB2.out hb3)
    obtain ⟨E1, E2, E3⟩ := set4_end HZ3.out HB3.out (Nat.le_add_right _ 2) (.slice A3 n1 c3) (.int .i64 (t1 : Int)) (.bool ov1) (.bool false)
    have HFIN : Hid (GotU w l1 n1 (t1 : Int) ov1 false [] 0 bell (.returned (.tuple #[.agg #[.slice A3 n1 c3, .int .i64 (t1 : Int), .bool ov1, .bool false], .slice B3 0 d3, .bool bell])) (set4 w3 (w.heap.size + 2) (.slice A3 n1 c3) (.int .i64 (t1 : Int)) (.bool ov1) (.bool false))) := ⟨A3, c3, B3, d3, L3, rfl, hl3, hm3, E1 _ _ _ hr3, E2 _ _ _ hre3, E3⟩
    clear hl3 hm3 hr3 hre3 hb3 E1 E2 E3 CT k0 k1 k2 k3 kt j0 j1 j2 j3 r0 r1 r2 r3 jt
    obtain ⟨j0, j1, j2, j3, r0, r1, r2, r3, jt⟩ := st_facts HZ3.out
    go_wp2_with fail
    refine bodyPost_ret (v := .tuple #[.agg #[.slice A3 n1 c3, .int .i64 (t1 : Int), .bool ov1, .bool false], .slice B3 0 d3, .bool bell]) (by simp [results, Tryd.results35, go_sem, j0, j1, j2, j3]) rfl ?_
    exact HFIN.out
  have hact : actE z room ⟨l, t, ov, false⟩ u = ⟨⟨l1, t1, ov1, li1⟩, es, be⟩ := by
    have h := HP.out
    unfold keyE at h
    simp only [Bool.false_eq_true, if_false] at h
    rw [HMZ.out] at h
    exact h
  have HA := keepd hact
  clear hact
  by_cases h0 : z = 0
  · subst h0
    have hty : typE ⟨l, t, ov, false⟩ room u = ⟨⟨l1, t1, ov, false⟩, [], be⟩ ∧ ov1 = ov ∧ li1 = false ∧ es = [] := by
      have h := HA.out; change typE _ _ _ = _ at h
      unfold typE at h ⊢
      simp only [Res.mk.injEq, Ed.mk.injEq] at h ⊢
      obtain ⟨⟨e1, e2, e3, e4⟩, e5, e6⟩ := h
      refine ⟨⟨⟨e1, e2, ?_, ?_⟩, ?_, e6⟩, e3.symm, e4.symm, e5.symm⟩ <;> trivial
    obtain ⟨hty, rfl, rfl, rfl⟩ := hty
    obtain rfl : m1 = 0 := HM1.out.symm
    have CT := keepd (rtyped_any A l n c t ov1 false room u w2 HN.out HR2.out HTL.out.1 HTL.out.2 l1 n1 t1 be bell hty HN1.out HBE.out)
    clear hty
    go_wp2_with fail
    with_reducible refine CT.out.mono ?_
    rintro e w3 ⟨A3, c3, B3, d3, L3, rfl, hl3, hm3, hr3, hre3, hb3⟩
    have HZ3 := keepd (SR.call HZ2.out hb3 HZ2.out.lt)
    have HB3 := keepd (bCall HB2.out hb3)
    obtain ⟨E1, E2, E3⟩ := set4_end HZ3.out HB3.out (Nat.le_add_right _ 2) (.slice A3 n1 c3) (.int .i64 (t1 : Int)) (.bool ov1) (.bool false)
    have HFIN : Hid (GotU w l1 n1 (t1 : Int) ov1 false [] 0 bell (.returned (.tuple #[.agg #[.slice A3 n1 c3, .int .i64 (t1 : Int), .bool ov1, .bool false], .slice B3 0 d3, .bool bell])) (set4 w3 (w.heap.size + 2) (.slice A3 n1 c3) (.int .i64 (t1 : Int)) (.bool ov1) (.bool false))) := ⟨A3, c3, B3, d3, L3, rfl, hl3, hm3, E1 _ _ _ hr3, E2 _ _ _ hre3, E3⟩
    clear hl3 hm3 hr3 hre3 hb3 E1 E2 E3 CT k0 k1 k2 k3 kt j0 j1 j2 j3 r0 r1 r2 r3 jt
    obtain ⟨j0, j1, j2, j3, r0, r1, r2, r3, jt⟩ := st_facts HZ3.out
    go_wp2_with fail
    refine bodyPost_ret (v := .tuple #[.agg #[.slice A3 n1 c3, .int .i64 (t1 : Int), .bool ov1, .bool false], .slice B3 0 d3, .bool bell]) (by simp [results, Tryd.results35, go_sem, j0, j1, j2, j3]) rfl ?_
    exact HFIN.out
  by_cases h17 : z = 17
  · subst h17
    have hty : typE ⟨l, t, ov, false⟩ room u = ⟨⟨l1, t1, ov, false⟩, [], be⟩ ∧ ov1 = ov ∧ li1 = false ∧ es = [] := by
      have h := HA.out; change typE _ _ _ = _ at h
      unfold typE at h ⊢
      simp only [Res.mk.injEq, Ed.mk.injEq] at h ⊢
      obtain ⟨⟨e1, e2, e3, e4⟩, e5, e6⟩ := h
      refine ⟨⟨⟨e1, e2, ?_, ?_⟩, ?_, e6⟩, e3.symm, e4.symm, e5.symm⟩ <;> trivial
    obtain ⟨hty, rfl, rfl, rfl⟩ := hty
    obtain rfl : m1 = 0 := HM1.out.symm
    have CT := keepd (rtyped_any A l n c t ov1 false room u w2 HN.out HR2.out HTL.out.1 HTL.out.2 l1 n1 t1 be bell hty HN1.out HBE.out)
    clear hty
    go_wp2_with fail
    with_reducible refine CT.out.mono ?_
    rintro e w3 ⟨A3, c3, B3, d3, L3, rfl, hl3, hm3, hr3, hre3, hb3⟩
    have HZ3 := keepd (SR.call HZ2.out hb3 HZ2.out.lt)
    have HB3 := keepd (bCall HB2.out hb3)
    obtain ⟨E1, E2, E3⟩ := set4_end HZ3.out HB3.out (Nat.le_add_right _ 2) (.slice A3 n1 c3) (.int .i64 (t1 : Int)) (.bool ov1) (.bool false)
    have HFIN : Hid (GotU w l1 n1 (t1 : Int) ov1 false [] 0 bell (.returned (.tuple #[.agg #[.slice A3 n1 c3, .int .i64 (t1 : Int), .bool ov1, .bool false], .slice B3 0 d3, .bool bell])) (set4 w3 (w.heap.size + 2) (.slice A3 n1 c3) (.int .i64 (t1 : Int)) (.bool ov1) (.bool false))) := ⟨A3, c3, B3, d3, L3, rfl, hl3, hm3, E1 _ _ _ hr3, E2 _ _ _ hre3, E3⟩
    clear hl3 hm3 hr3 hre3 hb3 E1 E2 E3 CT k0 k1 k2 k3 kt j0 j1 j2 j3 r0 r1 r2 r3 jt
    obtain ⟨j0, j1, j2, j3, r0, r1, r2, r3, jt⟩ := st_facts HZ3.out
    go_wp2_with fail
    refine bodyPost_ret (v := .tuple #[.agg #[.slice A3 n1 c3, .int .i64 (t1 : Int), .bool ov1, .bool false], .slice B3 0 d3, .bool bell]) (by simp [results, Tryd.results35, go_sem, j0, j1, j2, j3]) rfl ?_
    exact HFIN.out
  by_cases h18 : z = 18
  · subst h18
    have hty : typE ⟨l, t, ov, false⟩ room u = ⟨⟨l1, t1, ov, false⟩, [], be⟩ ∧ ov1 = ov ∧ li1 = false ∧ es = [] := by
      have h := HA.out; change typE _ _ _ = _ at h
      unfold typE at h ⊢
      simp only [Res.mk.injEq, Ed.mk.injEq] at h ⊢
      obtain ⟨⟨e1, e2, e3, e4⟩, e5, e6⟩ := h
      refine ⟨⟨⟨e1, e2, ?_, ?_⟩, ?_, e6⟩, e3.symm, e4.symm, e5.symm⟩ <;> trivial
    obtain ⟨hty, rfl, rfl, rfl⟩ := hty
    obtain rfl : m1 = 0 := HM1.out.symm
    have CT := keepd (rtyped_any A l n c t ov1 false room u w2 HN.out HR2.out HTL.out.1 HTL.out.2 l1 n1 t1 be bell hty HN1.out HBE.out)
    clear hty
    go_wp2_with fail
    with_reducible refine CT.out.mono ?_
    rintro e w3 ⟨A3, c3, B3, d3, L3, rfl, hl3, hm3, hr3, hre3, hb3⟩
    have HZ3 := keepd (SR.call HZ2.out hb3 HZ2.out.lt)
    have HB3 := keepd (bCall HB2.out hb3)
    obtain ⟨E1, E2, E3⟩ := set4_end HZ3.out HB3.out (Nat.le_add_right _ 2) (.slice A3 n1 c3) (.int .i64 (t1 : Int)) (.bool ov1) (.bool false)
    have HFIN : Hid (GotU w l1 n1 (t1 : Int) ov1 false [] 0 bell (.returned (.tuple #[.agg #[.slice A3 n1 c3, .int .i64 (t1 : Int), .bool ov1, .bool false], .slice B3 0 d3, .bool bell])) (set4 w3 (w.heap.size + 2) (.slice A3 n1 c3) (.int .i64 (t1 : Int)) (.bool ov1) (.bool false))) := ⟨A3, c3, B3, d3, L3, rfl, hl3, hm3, E1 _ _ _ hr3, E2 _ _ _ hre3, E3⟩
    clear hl3 hm3 hr3 hre3 hb3 E1 E2 E3 CT k0 k1 k2 k3 kt j0 j1 j2 j3 r0 r1 r2 r3 jt
    obtain ⟨j0, j1, j2, j3, r0, r1, r2, r3, jt⟩ := st_facts HZ3.out
    go_wp2_with fail
    refine bodyPost_ret (v := .tuple #[.agg #[.slice A3 n1 c3, .int .i64 (t1 : Int), .bool ov1, .bool false], .slice B3 0 d3, .bool bell]) (by simp [results, Tryd.results35, go_sem, j0, j1, j2, j3]) rfl ?_
    exact HFIN.out
  have g0 : (z == 0) = false := by simpa using h0
  have g17 : (z == 17) = false := by simpa using h17
  have g18 : (z == 18) = false := by simpa using h18
  by_cases h31 : z = 31
  · subst h31
    have h := HA.out
    change (⟨zE, [⟨1, 0, l⟩], 0⟩ : Res) = _ at h
    simp only [zE, Res.mk.injEq, Ed.mk.injEq] at h
    obtain ⟨⟨rfl, rfl, rfl, rfl⟩, rfl, rfl⟩ := h
    obtain rfl : n1 = 0 := HN1.out.symm
    obtain rfl : m1 = 1 := HM1.out.symm
    obtain rfl : bell = false := HBE.out.symm
    have hbl : w.heap.size + 2 < w2.heap.size := HZ2.out.lt
    go_upto_region 5 with fail
    go_region
    generalize hV9 : (((((w2.setCell ⟨w.heap.size + 1 + 1, 0, none⟩ (.slice none 0 0)).setCell ⟨w.heap.size + 1 + 1, 1, none⟩ (.int .i64 0)).setCell ⟨w.heap.size + 1 + 1, 2, none⟩ (.bool false)).setCell ⟨w.heap.size + 1 + 1, 3, none⟩ (.bool false)).alloc (.cells #[.int .i64 1, .int .i64 0, .slice A n c] 69)).drew = V9
    obtain ⟨F1, F2, F3⟩ := ev_end HZ2.out HB2.out (Nat.le_add_right _ 2) HR2.out HN.out V9 hV9.symm
    have HF2 := keepd F2
    have HF3 := keepd F3
    clear hV9 F2 F3 j0 j1 j2 j3 r0 r1 r2 r3 jt k0 k1 k2 k3 kt
    obtain ⟨j0, j1, j2, j3, r0, r1, r2, r3, jt⟩ := st_facts F1
    go_wp2_with fail
    refine bodyPost_ret (v := .tuple #[.agg #[.slice none 0 0, .int .i64 0, .bool false, .bool false], .slice (some ⟨w2.heap.size, 0, none⟩) 1 1, .bool false]) (by simp [results, Tryd.results35, go_sem, j0, j1, j2, j3]) rfl ?_
    exact ⟨none, 0, _, _, [⟨1, 0, A, l, c⟩], rfl, rfl, rfl, Rd.nil _ _, HF2.out, HF3.out⟩
  have g31 : (z == 31) = false := by simpa using h31
  cases hs : isSig z
  case true =>
    have hsb := isSig_bounds hs
    have a9 : z ≤ 9 := hsb.2
    have h := HA.out
    unfold actE at h
    rw [if_pos hs] at h
    unfold sigE at h
    simp only [Res.mk.injEq] at h
    obtain ⟨h1, rfl, rfl⟩ := h
    obtain rfl : m1 = 1 := HM1.out.symm
    obtain rfl : bell = false := HBE.out.symm
    have CS := keepd (rsig_any A l n c t ov false z w2 HN.out HR2.out HTL.out.1 l1 n1 t1 ov1 li1 h1 HN1.out)
    clear h1 hs hsb h0 h17 h18 h31
    go_wp2_with fail
    with_reducible refine CS.out.mono ?_
    rintro e w3 ⟨A3, c3, B3, d3, L3, rfl, hl3, hm3, hr3, hre3, hb3⟩
    go_upto_region 8 with fail
    generalize hV : w3.alloc (.cells #[.slice A3 n1 c3, .int .i64 (t1 : Int), .bool ov1, .bool li1] 32) = V3
    obtain ⟨HX3, HBx⟩ := st_new _ _ _ _ _ _ hV
    have hbx := bCall hb3 HBx.out
    have HZ3 := keepd (SR.call HZ2.out hbx HZ2.out.lt)
    have HB3 := keepd (bCall HB2.out hbx)
    have hr4 := hr3.at_ HBx.out
    have hre4 := hre3.at_ HBx.out
    obtain ⟨E1, E2, E3⟩ := set4_end HZ3.out HB3.out (Nat.le_add_right _ 2) (.slice A3 n1 c3) (.int .i64 (t1 : Int)) (.bool ov1) (.bool li1)
    have HFIN : Hid (GotU w l1 n1 (t1 : Int) ov1 li1 [sigV ⟨l, t, ov, false⟩ z] 1 false (.returned (.tuple #[.agg #[.slice A3 n1 c3, .int .i64 (t1 : Int), .bool ov1, .bool li1], .slice B3 1 d3, .bool false])) (set4 V3 (w.heap.size + 2) (.slice A3 n1 c3) (.int .i64 (t1 : Int)) (.bool ov1) (.bool li1))) := ⟨A3, c3, B3, d3, L3, rfl, hl3, hm3, E1 _ _ _ hr4, E2 _ _ _ hre4, E3⟩
    clear hV hl3 hm3 hr3 hre3 hb3 hbx hr4 hre4 E1 E2 E3 CS k0 k1 k2 k3 kt j0 j1 j2 j3 r0 r1 r2 r3 jt HBx
    obtain ⟨k0, k1, k2, k3, _, _, _, _, kt⟩ := st_facts HX3.out
    obtain ⟨j0, j1, j2, j3, r0, r1, r2, r3, jt⟩ := st_facts HZ3.out
    go_wp2_with fail
    refine bodyPost_ret (v := .tuple #[.agg #[.slice A3 n1 c3, .int .i64 (t1 : Int), .bool ov1, .bool li1], .slice B3 1 d3, .bool false]) (by simp [results, Tryd.results35, go_sem, j0, j1, j2, j3]) rfl ?_
    exact HFIN.out
  have a9 : ¬ z ≤ 9 := by
    intro h
    have : isSig z = true := by unfold isSig; simp; omega
    rw [hs] at this
    cases this
  have a9' : 9 < z := by omega
  by_cases h14 : z = 14
  · subst h14
    have h := HA.out
    change (⟨⟨l, t, ov, true⟩, [], 0⟩ : Res) = _ at h
    simp only [Res.mk.injEq, Ed.mk.injEq] at h
    obtain ⟨⟨rfl, rfl, rfl, rfl⟩, rfl, rfl⟩ := h
    obtain rfl : n1 = n := by rw [← HN1.out, HN.out]
    obtain rfl : m1 = 0 := HM1.out.symm
    obtain rfl : bell = false := HBE.out.symm
    obtain ⟨E1, E2, E3⟩ := set4_end HZ2.out HB2.out (Nat.le_add_right _ 2) (.slice A n1 c) (.int .i64 (t : Int)) (.bool ov) (.bool true)
    have HE1 := keepd (E1 _ _ _ HR2.out)
    have HE3 := keepd E3
    clear E1 E2 E3
    go_wp2_with fail
    refine bodyPost_ret (v := .tuple #[.agg #[.slice A n1 c, .int .i64 (t : Int), .bool ov, .bool true], .slice none 0 0, .bool false]) (by simp [results, Tryd.results35, go_sem, j0, j1, j2, j3]) rfl ?_
    exact ⟨A, c, none, 0, [], rfl, rfl, rfl, HE1.out, nilE _, HE3.out⟩
  have g14 : (z == 14) = false := by simpa using h14
  by_cases h25 : z = 25
  · subst h25
    have h := HA.out
    change (⟨⟨l, t, false, false⟩, [], 0⟩ : Res) = _ at h
    simp only [Res.mk.injEq, Ed.mk.injEq] at h
    obtain ⟨⟨rfl, rfl, rfl, rfl⟩, rfl, rfl⟩ := h
    obtain rfl : n1 = n := by rw [← HN1.out, HN.out]
    obtain rfl : m1 = 0 := HM1.out.symm
    obtain rfl : bell = false := HBE.out.symm
    obtain ⟨E1, E2, E3⟩ := set4_end HZ2.out HB2.out (Nat.le_add_right _ 2) (.slice A n1 c) (.int .i64 (t : Int)) (.bool false) (.bool false)
    have HE1 := keepd (E1 _ _ _ HR2.out)
    have HE3 := keepd E3
    clear E1 E2 E3
    go_wp2_with fail
    refine bodyPost_ret (v := .tuple #[.agg #[.slice A n1 c, .int .i64 (t : Int), .bool false, .bool false], .slice none 0 0, .bool false]) (by simp [results, Tryd.results35, go_sem, j0, j1, j2, j3]) rfl ?_
    exact ⟨A, c, none, 0, [], rfl, rfl, rfl, HE1.out, nilE _, HE3.out⟩
  have g25 : (z == 25) = false := by simpa using h25
  by_cases h26 : z = 26
  · subst h26
    have h := HA.out
    change (⟨⟨l, t, true, false⟩, [], 0⟩ : Res) = _ at h
    simp only [Res.mk.injEq, Ed.mk.injEq] at h
    obtain ⟨⟨rfl, rfl, rfl, rfl⟩, rfl, rfl⟩ := h
    obtain rfl : n1 = n := by rw [← HN1.out, HN.out]
    obtain rfl : m1 = 0 := HM1.out.symm
    obtain rfl : bell = false := HBE.out.symm
    obtain ⟨E1, E2, E3⟩ := set4_end HZ2.out HB2.out (Nat.le_add_right _ 2) (.slice A n1 c) (.int .i64 (t : Int)) (.bool true) (.bool false)
    have HE1 := keepd (E1 _ _ _ HR2.out)
    have HE3 := keepd E3
    clear E1 E2 E3
    go_wp2_with fail
    refine bodyPost_ret (v := .tuple #[.agg #[.slice A n1 c, .int .i64 (t : Int), .bool true, .bool false], .slice none 0 0, .bool false]) (by simp [results, Tryd.results35, go_sem, j0, j1, j2, j3]) rfl ?_
    exact ⟨A, c, none, 0, [], rfl, rfl, rfl, HE1.out, nilE _, HE3.out⟩
  have g26 : (z == 26) = false := by simpa using h26
  have h := HA.out
  rw [actE_do hs ⟨h0, h17, h18, h31, h14, h25, h26⟩] at h
  simp only [Res.mk.injEq, Ed.mk.injEq] at h
  obtain ⟨⟨e1, e2, rfl, rfl⟩, rfl, rfl⟩ := h
  obtain rfl : m1 = 0 := HM1.out.symm
  obtain rfl : bell = false := HBE.out.symm
  obtain ⟨d, hd⟩ : ∃ d, (doL l t z).isSome = d := ⟨_, rfl⟩
  have CD := keepd (rdo_go A l l1 n c t t1 n1 z d w2 HN.out HR2.out HTL.out.1 HTL.out.2 (Prod.ext e1 e2) hd HN1.out)
  clear e1 e2 hd hs h0 h17 h18 h31 h14 h25 h26
  go_wp2_with fail
  with_reducible refine CD.out.mono ?_
  rintro e w3 ⟨⟨A3, c3, rfl, hr3⟩, hb3⟩
  go_upto_region 14 with fail
  generalize hV : w3.alloc (.cells #[.slice A3 n1 c3, .int .i64 (t1 : Int)] 30) = V3
  obtain ⟨HX3, HBx, _⟩ := line_new1 _ _ _ _ hV
  have hbx := bCall hb3 HBx.out
  have HZ3 := keepd (SR.call HZ2.out hbx HZ2.out.lt)
  have HS3 := keepd (SR.call HS2.out hbx HS2.out.lt)
  have HB3 := keepd (bCall HB2.out hbx)
  have hr4 := hr3.at_ HBx.out
  obtain ⟨E1, E2, E3⟩ := set4_end HZ3.out HB3.out (Nat.le_add_right _ 2) (.slice A3 n1 c3) (.int .i64 (t1 : Int)) (.bool ov) (.bool false)
  have HFIN : Hid (GotU w l1 n1 (t1 : Int) ov false [] 0 false (.returned (.tuple #[.agg #[.slice A3 n1 c3, .int .i64 (t1 : Int), .bool ov, .bool false], .slice none 0 0, .bool false])) (set4 V3 (w.heap.size + 2) (.slice A3 n1 c3) (.int .i64 (t1 : Int)) (.bool ov) (.bool false))) := ⟨A3, c3, none, 0, [], rfl, rfl, rfl, E1 _ _ _ hr4, nilE _, E3⟩
  clear hV hr3 hb3 hbx hr4 E1 E2 E3 CD k0 k1 k2 k3 kt j0 j1 j2 j3 r0 r1 r2 r3 jt HBx
  obtain ⟨p0, p1, _, _, _⟩ := line_facts HX3.out
  obtain ⟨k0, k1, k2, k3, _, _, _, _, kt⟩ := st_facts HS3.out
  obtain ⟨j0, j1, j2, j3, r0, r1, r2, r3, jt⟩ := st_facts HZ3.out
  go_wp2_with fail
  refine bodyPost_ret (v := .tuple #[.agg #[.slice A3 n1 c3, .int .i64 (t1 : Int), .bool ov, .bool false], .slice none 0 0, .bool false]) (by simp [results, Tryd.results35, go_sem, j0, j1, j2, j3]) rfl ?_
  exact HFIN.out

end Go.Proofs.YtlfmbfecajhffaaDoor
