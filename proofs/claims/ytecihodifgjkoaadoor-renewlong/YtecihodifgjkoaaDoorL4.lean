/-
  RenewLong walked. No conditions beyond those each theorem states.
-/
import Derived.Test.YtecihodifgjkoaaDoorN8
namespace Go.Proofs.YtecihodifgjkoaaDoor
open Go.RowKit
set_option maxRecDepth 100000

attribute [local go_sem ↓] ex_ld25 ex_st25 ex_al25 ex_bu25 ex_ix25 ex_eq25 ex_ne25 ex_eq23 ex_ne23 ex_ld25o ex_st65 ex_al65 ex_bu65 ex_bu65s ex_ld38 ex_ld25w ex_bu38
attribute [local go_sem] ptrB_at okPtr_at aggC_at agg62 agg69 isC_at isT_at eqV_t eqV_c isRow_new isRow_new65 World.setRow_alloc_new ptr4_at okPtr4_at cutT_at isI_at isS_at bW_at bWs_at ptrW_at okPtrW_at cutW_at isL_at bY_at

theorem set4_sr' {w V : World} {g : Nat} {a b x y a' b' x' y' : Value} (h : SR 30 w g [a', b', x', y']) (hV : set4 w g a b x y = V) : SR 30 V g [a, b, x, y] := by
  subst hV
  exact set4_sr h
theorem set4_tb {w V : World} {g h : Nat} {X : Tb} {a b x y : Value} (H : TB w g X) (hg : g ≠ h) (hV : set4 w h a b x y = V) : TB V g X := by
  subst hV
  exact (set4_heap _ _ _ _ _ _ hg).trans H
set_option maxHeartbeats 8000000 in
theorem long_law (X : Tb) (hX : TbO X) (A : Option Addr) (l : List UInt8) (c : Nat) (z : Int) (ov li : Bool) (w : World) (hL : Laid w) (hr : Rd w w.heap.size A l c) :
    Calls Tryd.prog 7 #[tv X, .agg #[.slice A l.length c, .int .i64 z, .bool ov, .bool li]] w fun e w' => e = .returned (.bool true) ∧ Below w.heap.size w w' := by
  obtain ⟨n, hn⟩ : ∃ n, n = l.length := ⟨_, rfl⟩
  rw [← hn]
  have HX := keepd hX
  have HLD := keepd hL
  have HR0 := keepd hr
  obtain ⟨m, hm⟩ : ∃ m, (fewL l).length = m := ⟨_, rfl⟩
  have CO := keepd fun (W : World) (h : Rd W W.heap.size A l c) => one_any A l n c m z ov li W hn h hm
  have HM := keepd hm
  clear hX hL hr hn hm
  go_enter Tryd.func7, Tryd.ntmps7
  go_upto_region 1 with fail
  generalize hV : (w.alloc (.cells (cs X).toArray 25)).alloc (.cells #[.slice A n c, .int .i64 z, .bool ov, .bool li] 30) = V0
  obtain ⟨HT0, HS0, HB0⟩ := tabst_new _ _ _ _ _ _ _ hV
  obtain ⟨k0, k1, k2, k3, _, _, _, _, kt⟩ := st_facts HS0.out
  clear hV
  go_wp2_with fail
  with_reducible refine (CO.out _ (HR0.out.at_ HB0.out)).mono ?_
  rintro e w1 ⟨rfl, hb1⟩
  have HB1 := keepd (bCall HB0.out hb1)
  have HT1 := keepd (SR.call HT0.out hb1 (SR.lt HT0.out))
  have HS1 := keepd (SR.call HS0.out hb1 HS0.out.lt)
  have HR1 := keepd (HR0.out.few.at_ HB1.out)
  clear hb1 CO k0 k1 k2 k3 kt HT0 HS0 HB0
  generalize fewL l = x at *
  obtain ⟨k0, k1, k2, k3, f0, f1, f2, f3, kt⟩ := st_facts HS1.out
  go_upto_region 2 with fail
  generalize hV : (((w1.setCell ⟨w.heap.size + 1, 0, none⟩ (.slice A m c)).setCell ⟨w.heap.size + 1, 1, none⟩ (.int .i64 z)).setCell ⟨w.heap.size + 1, 2, none⟩ (.bool ov)).setCell ⟨w.heap.size + 1, 3, none⟩ (.bool li) = V
  have HS := keepd (set4_sr' HS1.out hV)
  have HT := keepd (set4_tb HT1.out (show w.heap.size ≠ w.heap.size + 1 by omega) hV)
  have HB : Hid (Below w.heap.size w V) := by rw [← hV]; exact set4_below HB1.out (by omega)
  have HR : Hid (Rd V V.heap.size A x c) := by rw [← hV]; exact HR1.out.setSt (w' := set4 w1 (w.heap.size + 1) (.slice A m c) (.int .i64 z) (.bool ov) (.bool li)) HS1.out (by rw [set4_size]; exact Nat.le_refl _) fun k hk => set4_heap _ _ _ _ _ _ hk
  clear hV k0 k1 k2 k3 f0 f1 f2 f3 kt HS1 HT1 HB1 HR1 HR0
  obtain ⟨L, hl⟩ : ∃ L, keysG X x z ov li = L := ⟨_, rfl⟩
  obtain ⟨k, hk⟩ : ∃ k, L.length = k := ⟨_, rfl⟩
  have CK := keepd fun (W : World) (hb : Below V.heap.size V W) => keys_go X HX.out A x m c z ov li W HM.out.symm (HR.out.at_ hb) L k hl hk
  have hkl : mayV m z = true → k ≤ 3 * m + 2 ∧ m ≤ k ∧ m ≤ 4096 := fun h => by
    have h1 := keysL_len X ⟨x, z.toNat, ov, li⟩
    have h2 : keysL X ⟨x, z.toNat, ov, li⟩ = L := by rw [← hl]; unfold keysG; rw [if_pos (by rw [HM.out]; exact h)]
    rw [h2, hk] at h1
    simp only at h1
    have h3 : x.length = m := HM.out
    rw [h3] at h1
    exact ⟨h1.1, h1.2, (mayV_inv h).1⟩
  have hkb : mayV m z = false → k = 0 := fun h => by
    rw [← hk, ← hl]
    unfold keysG
    rw [if_neg (by rw [show x.length = m from HM.out, h]; decide)]
    rfl
  have HKL := keepd (And.intro hkl hkb)
  clear hl hk hkl hkb
  obtain ⟨k0, k1, k2, k3, _, _, _, _, kt⟩ := st_facts HS.out
  obtain ⟨q0, q1⟩ := TB.facts HT.out
  go_wp2_with fail
  with_reducible refine (CK.out _ (Below.refl _ _)).mono ?_
  rintro e w2 ⟨⟨A2, c2, rfl, ho2⟩, hb2⟩
  have HB2 := keepd (bCall HB.out hb2)
  have HS2 := keepd (SR.call HS.out hb2 HS.out.lt)
  have HT2 := keepd (SR.call HT.out hb2 (SR.lt HT.out))
  clear ho2 hb2 CK k0 k1 k2 k3 kt q0 q1 HS HT HB HR
  obtain ⟨k0, k1, k2, k3, _, _, _, _, kt⟩ := st_facts HS2.out
  obtain ⟨v, hv⟩ : ∃ v, mayV m z = v := ⟨_, rfl⟩
  have CC := keepd fun W : World => echeck_any A m c z ov li v W hv
  cases v
  case false =>
    have e0 : k = 0 := HKL.out.2 hv
    subst e0
    have CC := keepd fun W : World => echeck_bad A m c z ov li W hv
    go_wp2_with fail
    with_reducible refine (CC.out _).mono ?_
    rintro e w3 ⟨rfl, hb3⟩
    have HB3 := keepd (bCall HB2.out hb3)
    have CW := keepd (awake_any w3 (HLD.out.below HB3.out))
    clear hb3 CC k0 k1 k2 k3 kt
    go_wp2_with fail
    with_reducible refine CW.out.mono ?_
    rintro e w4 ⟨rfl, hb4⟩
    have HB4 := keepd (bCall HB3.out hb4)
    clear hb4 CW
    go_wp2_with fail
    go_ret
    exact ⟨rfl, HB4.out⟩
  obtain ⟨h1, h2, h3⟩ := HKL.out.1 hv
  obtain ⟨_, t, rfl, ht⟩ := mayV_inv hv
  have CC := keepd fun W : World => echeck_ok A m c t ov li W h3 ht
  have CZ := keepd fun W : World => kgood_any X HX.out none [] 0 0 0 false false W rfl (Rd.nil _ _) (Nat.le_refl _) (by omega) [] 0 (keysL_zero X) rfl
  rw [show (((0 : Nat) : Nat) : Int) = 0 from rfl] at CZ
  have w3 : IntKind.i64.wrap (3 * (m : Int)) = 3 * (m : Int) := by rw [IntKind.wrap_i64]; omega
  have w4 : IntKind.i64.wrap (3 * (m : Int) + 2) = 3 * (m : Int) + 2 := by rw [IntKind.wrap_i64]; omega
  have i0 : (k : Int) ≤ 3 * (m : Int) + 2 := by omega
  have i1 : (m : Int) ≤ (k : Int) := by omega
  have d0 : decide ((k : Int) ≤ 3 * (m : Int) + 2) = true := by simpa using i0
  have d1 : decide ((m : Int) ≤ (k : Int)) = true := by simp; omega
  have d2 : decide (m ≤ k) = true := by simp; omega
  have d3 : ¬ 3 * (m : Int) + 2 < (k : Int) := by omega
  have d4 : ¬ (k : Int) < (m : Int) := by omega
  clear hv HKL h1 ht
  go_wp2_with fail
  with_reducible refine (CC.out _).mono ?_
  rintro e w3 ⟨rfl, hb3⟩
  have HB3 := keepd (bCall HB2.out hb3)
  have HS3 := keepd (SR.call HS2.out hb3 HS2.out.lt)
  have HT3 := keepd (SR.call HT2.out hb3 (SR.lt HT2.out))
  clear hb3 CC k0 k1 k2 k3 kt HS2 HT2
  obtain ⟨k0, k1, k2, k3, _, _, _, _, kt⟩ := st_facts HS3.out
  obtain ⟨q0, q1⟩ := TB.facts HT3.out
  go_wp2_with fail
  with_reducible refine (CZ.out _).mono ?_
  rintro e w4 ⟨⟨A4, c4, rfl, ho4⟩, hb4⟩
  have HB4 := keepd (bCall HB3.out hb4)
  have CW := keepd (awake_any w4 (HLD.out.below HB4.out))
  clear hb4 ho4 CZ q0 q1 k0 k1 k2 k3 kt
  go_wp2_with fail
  with_reducible refine CW.out.mono ?_
  rintro e w5 ⟨rfl, hb5⟩
  have HB5 := keepd (bCall HB4.out hb5)
  clear hb5 CW
  go_wp2_with fail
  go_ret
  exact ⟨rfl, HB5.out⟩

end Go.Proofs.YtecihodifgjkoaaDoor
