/-
  The document's own Keys. No conditions beyond those each theorem states.
-/
import Derived.Test.YtlfmbfecajhffaaDoorR6
namespace Go.Proofs.YtlfmbfecajhffaaDoor
open Go.RowKit
set_option maxRecDepth 100000

attribute [local go_sem ↓] ex_ld25 ex_st25 ex_al25 ex_bu25 ex_ix25 ex_eq25 ex_ne25 ex_eq23 ex_ne23 ex_ld25o ex_st65 ex_al65 ex_bu65 ex_bu65s
attribute [local go_sem] ptrB_at okPtr_at aggC_at agg62 agg69 isC_at isT_at eqV_t eqV_c isRow_new isRow_new65 World.setRow_alloc_new ptr4_at okPtr4_at cutT_at isI_at isS_at bW_at bWs_at

theorem own_congr {w : World} {base : Nat} {v : Value} {l l' : List UInt8} (h : Own w base v l) (e : l = l') : Own w base v l' := e ▸ h
theorem homeL_zero (X : Tb) : homeL X 0 = [] := rfl
theorem kN_zero {X : Tb} {f : Int} {n : Nat} (hn : 0 < n) (h : (kN X f n).length = 0) : (keyF X f).2 = false := by
  unfold kN at h
  cases hq : (keyF X f).2
  · rfl
  · rw [if_pos hq, List.length_replicate] at h
    omega
theorem kN_some {X : Tb} {f : Int} {n : Nat} (h : ¬ (kN X f n).length = 0) : (keyF X f).2 = true := by
  unfold kN at h
  cases hq : (keyF X f).2
  · rw [if_neg (by rw [hq]; decide)] at h
    exact absurd rfl h
  · rfl
theorem home_i {X : Tb} {k : Nat} (h : ¬ (kN X 23 1).length = 0) (hk : 0 < k) : homeL X k = kN X 23 1 := by
  unfold homeL firstL kN
  rw [if_neg (by omega), if_pos (kN_some h), if_pos (kN_some h)]
theorem home_ii {X : Tb} {k : Nat} (h1 : (kN X 23 1).length = 0) (h : ¬ (kN X 19 k).length = 0) (hk : 0 < k) : homeL X k = kN X 19 k := by
  have a := kN_zero (by omega) h1
  unfold homeL firstL firstL kN
  rw [if_neg (by omega), if_neg (by rw [a]; decide), if_pos (kN_some h), if_pos (kN_some h)]
theorem home_iii {X : Tb} {k : Nat} (h1 : (kN X 23 1).length = 0) (h2 : (kN X 19 k).length = 0) (hk : 0 < k) : homeL X k = kN X 21 k := by
  have a := kN_zero (by omega) h1
  have b := kN_zero hk h2
  unfold homeL firstL firstL firstL firstL kN
  rw [if_neg (by omega), if_neg (by rw [a]; decide), if_neg (by rw [b]; decide)]
theorem rkbad_any (X : Tb) (A : Option Addr) (n c : Nat) (z : Int) (ov li : Bool) (w : World) (hz : mayV n z = false) :
    Calls Tryd.prog 34 #[tv X, .agg #[.slice A n c, .int .i64 z, .bool ov, .bool li]] w (GotKy w [] 0) := by
  have CK := keepd fun W : World => ermay_any A n c z ov li false W hz
  clear hz
  go_enter Tryd.func34, Tryd.ntmps34
  go_upto_region 1 with fail
  generalize hV : (w.alloc (.cells (cs X).toArray 25)).alloc (.cells #[.slice A n c, .int .i64 z, .bool ov, .bool li] 32) = V
  obtain ⟨HT, HS, HB⟩ := tabst_new _ _ _ _ _ _ _ hV
  obtain ⟨k0, k1, k2, k3, _, _, _, _, kt⟩ := st_facts HS.out
  clear hV
  go_wp2_with fail
  with_reducible refine (CK.out _).mono ?_
  rintro e w2 ⟨rfl, hb2⟩
  have HB2 := keepd (bCall HB.out hb2)
  go_wp2_with fail
  go_ret
  exact ⟨⟨none, 0, rfl, Own.nil _ _⟩, HB2.out⟩

set_option maxHeartbeats 16000000 in
theorem rkgood_any (X : Tb) (hX : TbO X) (A : Option Addr) (l : List UInt8) (n c t : Nat) (ov li : Bool) (w : World) (hn : n = l.length) (hr : Rd w w.heap.size A l c) (h1 : t ≤ n) (h2 : n ≤ 4096) (L : List UInt8) (m : Nat) (hL : keysL X ⟨l, t, ov, li⟩ = L) (hm : L.length = m) :
    Calls Tryd.prog 34 #[tv X, .agg #[.slice A n c, .int .i64 (t : Int), .bool ov, .bool li]] w (GotKy w L m) := by
  have CM := keepd fun W : World => ermay_any A n c (t : Int) ov li true W (mayV_nat h2 h1)
  have HM := keepd hm
  have hnc : n ≤ c := by rw [hn]; exact hr.1
  have hcm := hr.2.1
  unfold maxLen at hcm
  have hs := slice_from A n c t h1
  have hrd := hr.drop t (by omega)
  have hrt := hr.take t
  have hb1 : (l.drop t).length = n - t := by rw [List.length_drop, ← hn]
  have ha1 : (l.take t).length = t := by rw [List.length_take, ← hn]; omega
  have hLF : keysL X ⟨l, t, ov, li⟩ = toldL X (l.drop t) ++ (homeL X (l.drop t).length ++ toldL X (l.take t)) ++ (if ov then kN X 26 1 else []) ++ (if li then kN X 14 1 else []) := rfl
  rw [hL, hb1] at hLF
  generalize l.drop t = b at *
  generalize l.take t = a at *
  generalize (if c = t then A else A.map (·.add t)) = A2 at hs hrd
  obtain ⟨k2, hk2⟩ : ∃ k2, n - t = k2 := ⟨_, rfl⟩
  rw [hk2] at hs hb1 hLF
  have h3 : k2 ≤ 4096 := by omega
  obtain ⟨c2, hc2⟩ : ∃ c2, c - t = c2 := ⟨_, rfl⟩
  rw [hc2] at hs hrd
  have HA := keepd hrt
  have HBb := keepd hrd
  obtain ⟨y1, e1⟩ : ∃ y, toldL X b = y := ⟨_, rfl⟩
  obtain ⟨y3, e3⟩ : ∃ y, toldL X a = y := ⟨_, rfl⟩
  obtain ⟨m1, f1⟩ : ∃ y, y1.length = y := ⟨_, rfl⟩
  obtain ⟨m3, f3⟩ : ∃ y, y3.length = y := ⟨_, rfl⟩
  have g1 := (toldL_len X b).2
  have g3 := (toldL_len X a).2
  rw [e1, f1] at g1
  rw [e3, f3] at g3
  rw [e1, e3] at hLF
  have HLE : Hid (y1.length ≤ 10000 ∧ y3.length ≤ 10000 ∧ (kN X 23 1).length ≤ 1 ∧ (kN X 19 k2).length ≤ 4096 ∧ (kN X 21 k2).length ≤ 4096 ∧ (kN X 26 1).length ≤ 1 ∧ (kN X 14 1).length ≤ 1) := by
    have q1 := kN_len X 23 1
    have q2 := kN_len X 19 k2
    have q3 := kN_len X 21 k2
    have q4 := kN_len X 26 1
    have q5 := kN_len X 14 1
    exact ⟨by omega, by omega, q1, by omega, by omega, q4, q5⟩
  have HFIN := keepd hLF
  have C1' := keepd fun (W : World) (hr : Rd W W.heap.size A2 b c2) => rtold_any X hX A2 b k2 c2 y1 m1 W hb1.symm hr h3 e1 f1
  have C3' := keepd fun (W : World) (hr : Rd W W.heap.size A a c) => rtold_any X hX A a t c y3 m3 W ha1.symm hr (by omega) e3 f3
  obtain ⟨e23, he23⟩ : ∃ e, (kN X 23 1).length = e := ⟨_, rfl⟩
  have HE23 := keepd he23.symm
  have C23 := keepd fun W : World => rkey_any X hX 23 1 _ e23 W (by omega) rfl he23
  rw [show (((1 : Nat) : Nat) : Int) = 1 from rfl] at C23
  clear he23
  obtain ⟨e19, he19⟩ : ∃ e, (kN X 19 k2).length = e := ⟨_, rfl⟩
  have HE19 := keepd he19.symm
  have C19 := keepd fun W : World => rkey_any X hX 19 k2 _ e19 W (by omega) rfl he19
  clear he19
  obtain ⟨e21, he21⟩ : ∃ e, (kN X 21 k2).length = e := ⟨_, rfl⟩
  have HE21 := keepd he21.symm
  have C21 := keepd fun W : World => rkey_any X hX 21 k2 _ e21 W (by omega) rfl he21
  clear he21
  obtain ⟨e26, he26⟩ : ∃ e, (kN X 26 1).length = e := ⟨_, rfl⟩
  have HE26 := keepd he26.symm
  have C26 := keepd fun W : World => rkey_any X hX 26 1 _ e26 W (by omega) rfl he26
  rw [show (((1 : Nat) : Nat) : Int) = 1 from rfl] at C26
  clear he26
  obtain ⟨e14, he14⟩ : ∃ e, (kN X 14 1).length = e := ⟨_, rfl⟩
  have HE14 := keepd he14.symm
  have C14 := keepd fun W : World => rkey_any X hX 14 1 _ e14 W (by omega) rfl he14
  rw [show (((1 : Nat) : Nat) : Int) = 1 from rfl] at C14
  clear he14
  have HM1 := keepd f1.symm
  have HM3 := keepd f3.symm
  clear hX hL hm hn hr e1 e3 f1 f3 g1 g3 hLF ha1 hb1 hrt hrd hk2 hc2
  have i0 : (0 : Int) ≤ (t : Int) := by omega
  have i1 : (t : Int) ≤ (n : Int) := by omega
  have i2 : (n : Int) ≤ (c : Int) := by omega
  have i3 : (t : Int) ≤ (c : Int) := by omega
  go_enter Tryd.func34, Tryd.ntmps34
  go_upto_region 1 with fail
  generalize hV : (w.alloc (.cells (cs X).toArray 25)).alloc (.cells #[.slice A n c, .int .i64 (t : Int), .bool ov, .bool li] 32) = V0
  obtain ⟨HT0, HS0, HB0'⟩ := tabst_new _ _ _ _ _ _ _ hV
  obtain ⟨k0, k1, k2', k3, _, _, _, _, kt⟩ := st_facts HS0.out
  clear hV
  go_wp2_with fail
  with_reducible refine (CM.out _).mono ?_
  rintro e w0 ⟨rfl, hb0⟩
  have HT1 := keepd (SR.call HT0.out hb0 (SR.lt HT0.out))
  have HS1 := keepd (SR.call HS0.out hb0 HS0.out.lt)
  have HB1 := keepd (bCall HB0'.out hb0)
  clear hb0 CM k0 k1 k2' k3 kt HT0 HS0 HB0'
  obtain ⟨k0, k1, k2', k3, _, _, _, _, kt⟩ := st_facts HS1.out
  go_wp2_with fail
  go_quiet (fail)
  have HT2 : Hid (TB (w0.drewN nq) w.heap.size X) := HT1.out
  have HS2 : Hid (SR 32 (w0.drewN nq) (w.heap.size + 1) [.slice A n c, .int .i64 (t : Int), .bool ov, .bool li]) := HS1.out
  have HBq : Hid (Below w.heap.size w (w0.drewN nq)) := bDrewN HB1.out nq
  obtain ⟨V, hw⟩ : ∃ V, w0.drewN nq = V := ⟨_, rfl⟩
  rw [hw] at HT2 HS2 HBq
  rw [hw]
  clear hw k0 k1 k2' k3 kt HT1 HS1 HB1 hs
  have HT := keepd HT2.out
  have HS := keepd HS2.out
  have HB0 := keepd HBq.out
  clear HT2 HS2 HBq
  have C3 : Hid (∀ W, Below V.heap.size V W → Calls Tryd.prog 56 #[tv X, .slice A t c] W (GotR W y3 m3)) := fun W hb => (C3'.out W ((HA.out.at_ HB0.out).at_ hb)).mono fun _ _ h => h.r
  have C1 := keepd (C1'.out V (HBb.out.at_ HB0.out))
  clear C1' C3' HBb HA
  obtain ⟨q0, q1⟩ := TB.facts HT.out
  go_wp2_with fail
  with_reducible refine C1.out.mono ?_
  rintro e w4 ⟨⟨A4, c4, rfl, ho4⟩, hb4⟩
  have HB4 : Hid (Below V.heap.size V w4) := hb4
  have HO4 := keepd ho4
  clear ho4 hb4 C1 q0 q1
  obtain ⟨q0, q1⟩ := TB.facts (show TB w4 w.heap.size X from SR.call HT.out HB4.out (SR.lt HT.out))
  obtain ⟨k0, k1, k2', k3, _, _, _, _, kt⟩ := st_facts (show SR 32 w4 (w.heap.size + 1) _ from SR.call HS.out HB4.out HS.out.lt)
  go_wp2_with fail
  with_reducible refine (C23.out _).mono ?_
  rintro e w1 ⟨⟨D1, f1, rfl, hr1⟩, hb1⟩
  have HB1 := keepd (bCall HB4.out hb1)
  have HR1 := keepd hr1
  have HO1 := keepd (HO4.out.below hb1)
  clear hr1 hb1 q0 q1 k0 k1 k2' k3 kt
  by_cases he1 : e23 = 0
  case neg =>
    have z1 : ¬ (e23 : Int) = 0 := by omega
    have z2 : ((e23 : Int) == 0) = false := by simp; omega
    rcases Nat.eq_zero_or_pos k2 with hk0 | hk0
    · subst hk0
      obtain ⟨q0, q1⟩ := TB.facts (show TB w1 w.heap.size X from SR.call HT.out HB1.out (SR.lt HT.out))
      obtain ⟨k0, k1, k2', k3, _, _, _, _, kt⟩ := st_facts (show SR 32 w1 (w.heap.size + 1) _ from SR.call HS.out HB1.out HS.out.lt)
      go_wp2_with fail
      with_reducible refine (C3.out w1 HB1.out).mono ?_
      rintro e w2 ⟨⟨D2, f2, rfl, hr2⟩, hb2⟩
      have HB2 := keepd (bCall HB1.out hb2)
      have HR2 := keepd hr2
      have HO2 := keepd (HO1.out.below hb2)
      clear hr2 hb2 q0 q1 k0 k1 k2' k3 kt
      go_wp2_with (at_builtin; refine wpList_app _ rfl (.tmp 51) (.tmp 54) rfl V.heap.size (.slice A4 m1 c4) _ rfl HO2.out _ D2 m3 f2 y3 rfl HM3.out HR2.out (by have h1 := HLE.out; (try simp only [List.length_append]); omega) ?_ ?_)
      · exact HB2.out.size
      intro v3 w3 ho3 hg3 _
      have HB3 := keepd (app_below HB2.out HO2.out hg3)
      have HO3 := keepd ho3
      clear ho3 hg3
      cases ov
      case false =>
        cases li
        case false =>
          obtain ⟨q0, q1⟩ := TB.facts (show TB w3 w.heap.size X from SR.call HT.out HB3.out (SR.lt HT.out))
          obtain ⟨k0, k1, k2', k3, _, _, _, _, kt⟩ := st_facts (show SR 32 w3 (w.heap.size + 1) _ from SR.call HS.out HB3.out HS.out.lt)
          go_wp2_with fail
          have ho9 := own_congr HO3.out (show _ = L by simpa [homeL_zero] using HFIN.out.symm)
          obtain ⟨A9, c9, he9, _⟩ := ho9.rd
          rw [show L.length = m from HM.out] at he9
          replace ho9 := ho9.base HB0.out.size
          rw [he9] at ho9
          have HR9 := keepd ho9
          have HE9 := keepd he9
          clear ho9 he9 q0 q1 k0 k1 k2' k3 kt
          go_ret
          exact ⟨⟨A9, c9, congrArg Ending.returned HE9.out, HR9.out⟩, bCall HB0.out HB3.out⟩
        case true =>
          obtain ⟨q0, q1⟩ := TB.facts (show TB w3 w.heap.size X from SR.call HT.out HB3.out (SR.lt HT.out))
          obtain ⟨k0, k1, k2', k3, _, _, _, _, kt⟩ := st_facts (show SR 32 w3 (w.heap.size + 1) _ from SR.call HS.out HB3.out HS.out.lt)
          go_wp2_with fail
          with_reducible refine (C14.out _).mono ?_
          rintro e w4 ⟨⟨D4, f4, rfl, hr4⟩, hb4⟩
          have HB4 := keepd (bCall HB3.out hb4)
          have HR4 := keepd hr4
          have HO4 := keepd (HO3.out.below hb4)
          clear hr4 hb4 q0 q1 k0 k1 k2' k3 kt
          go_wp2_with (at_builtin; refine wpList_app _ rfl (.tmp 64) (.tmp 66) rfl V.heap.size v3 _ rfl HO4.out _ D4 e14 f4 (kN X 14 1) rfl HE14.out HR4.out (by have h1 := HLE.out; (try simp only [List.length_append]); omega) ?_ ?_)
          · exact HB4.out.size
          intro v5 w5 ho5 hg5 _
          have HB5 := keepd (app_below HB4.out HO4.out hg5)
          have HO5 := keepd ho5
          clear ho5 hg5
          obtain ⟨q0, q1⟩ := TB.facts (show TB w5 w.heap.size X from SR.call HT.out HB5.out (SR.lt HT.out))
          obtain ⟨k0, k1, k2', k3, _, _, _, _, kt⟩ := st_facts (show SR 32 w5 (w.heap.size + 1) _ from SR.call HS.out HB5.out HS.out.lt)
          go_wp2_with fail
          have ho9 := own_congr HO5.out (show _ = L by simpa [homeL_zero] using HFIN.out.symm)
          obtain ⟨A9, c9, he9, _⟩ := ho9.rd
          rw [show L.length = m from HM.out] at he9
          replace ho9 := ho9.base HB0.out.size
          rw [he9] at ho9
          have HR9 := keepd ho9
          have HE9 := keepd he9
          clear ho9 he9 q0 q1 k0 k1 k2' k3 kt
          go_ret
          exact ⟨⟨A9, c9, congrArg Ending.returned HE9.out, HR9.out⟩, bCall HB0.out HB5.out⟩
      case true =>
        obtain ⟨q0, q1⟩ := TB.facts (show TB w3 w.heap.size X from SR.call HT.out HB3.out (SR.lt HT.out))
        obtain ⟨k0, k1, k2', k3, _, _, _, _, kt⟩ := st_facts (show SR 32 w3 (w.heap.size + 1) _ from SR.call HS.out HB3.out HS.out.lt)
        go_wp2_with fail
        with_reducible refine (C26.out _).mono ?_
        rintro e w6 ⟨⟨D6, f6, rfl, hr6⟩, hb6⟩
        have HB6 := keepd (bCall HB3.out hb6)
        have HR6 := keepd hr6
        have HO6 := keepd (HO3.out.below hb6)
        clear hr6 hb6 q0 q1 k0 k1 k2' k3 kt
        go_wp2_with (at_builtin; refine wpList_app _ rfl (.tmp 58) (.tmp 60) rfl V.heap.size v3 _ rfl HO6.out _ D6 e26 f6 (kN X 26 1) rfl HE26.out HR6.out (by have h1 := HLE.out; (try simp only [List.length_append]); omega) ?_ ?_)
        · exact HB6.out.size
        intro v7 w7 ho7 hg7 _
        have HB7 := keepd (app_below HB6.out HO6.out hg7)
        have HO7 := keepd ho7
        clear ho7 hg7
        cases li
        case false =>
          obtain ⟨q0, q1⟩ := TB.facts (show TB w7 w.heap.size X from SR.call HT.out HB7.out (SR.lt HT.out))
          obtain ⟨k0, k1, k2', k3, _, _, _, _, kt⟩ := st_facts (show SR 32 w7 (w.heap.size + 1) _ from SR.call HS.out HB7.out HS.out.lt)
          go_wp2_with fail
          have ho9 := own_congr HO7.out (show _ = L by simpa [homeL_zero] using HFIN.out.symm)
          obtain ⟨A9, c9, he9, _⟩ := ho9.rd
          rw [show L.length = m from HM.out] at he9
          replace ho9 := ho9.base HB0.out.size
          rw [he9] at ho9
          have HR9 := keepd ho9
          have HE9 := keepd he9
          clear ho9 he9 q0 q1 k0 k1 k2' k3 kt
          go_ret
          exact ⟨⟨A9, c9, congrArg Ending.returned HE9.out, HR9.out⟩, bCall HB0.out HB7.out⟩
        case true =>
          obtain ⟨q0, q1⟩ := TB.facts (show TB w7 w.heap.size X from SR.call HT.out HB7.out (SR.lt HT.out))
          obtain ⟨k0, k1, k2', k3, _, _, _, _, kt⟩ := st_facts (show SR 32 w7 (w.heap.size + 1) _ from SR.call HS.out HB7.out HS.out.lt)
          go_wp2_with fail
          with_reducible refine (C14.out _).mono ?_
          rintro e w8 ⟨⟨D8, f8, rfl, hr8⟩, hb8⟩
          have HB8 := keepd (bCall HB7.out hb8)
          have HR8 := keepd hr8
          have HO8 := keepd (HO7.out.below hb8)
          clear hr8 hb8 q0 q1 k0 k1 k2' k3 kt
          go_wp2_with (at_builtin; refine wpList_app _ rfl (.tmp 64) (.tmp 66) rfl V.heap.size v7 _ rfl HO8.out _ D8 e14 f8 (kN X 14 1) rfl HE14.out HR8.out (by have h1 := HLE.out; (try simp only [List.length_append]); omega) ?_ ?_)
          · exact HB8.out.size
          intro v9 w9 ho9 hg9 _
          have HB9 := keepd (app_below HB8.out HO8.out hg9)
          have HO9 := keepd ho9
          clear ho9 hg9
          obtain ⟨q0, q1⟩ := TB.facts (show TB w9 w.heap.size X from SR.call HT.out HB9.out (SR.lt HT.out))
          obtain ⟨k0, k1, k2', k3, _, _, _, _, kt⟩ := st_facts (show SR 32 w9 (w.heap.size + 1) _ from SR.call HS.out HB9.out HS.out.lt)
          go_wp2_with fail
          have ho9 := own_congr HO9.out (show _ = L by simpa [homeL_zero] using HFIN.out.symm)
          obtain ⟨A9, c9, he9, _⟩ := ho9.rd
          rw [show L.length = m from HM.out] at he9
          replace ho9 := ho9.base HB0.out.size
          rw [he9] at ho9
          have HR9 := keepd ho9
          have HE9 := keepd he9
          clear ho9 he9 q0 q1 k0 k1 k2' k3 kt
          go_ret
          exact ⟨⟨A9, c9, congrArg Ending.returned HE9.out, HR9.out⟩, bCall HB0.out HB9.out⟩
    · have ik : (0 : Int) < (k2 : Int) := by omega
      have HKP := keepd hk0
      have ehl := keepd (home_i (by rw [show (kN X 23 1).length = e23 from HE23.out.symm]; exact he1) HKP.out)
      clear hk0
      go_wp2_with (at_builtin; refine wpList_app _ rfl (.tmp 48) (.tmp 49) rfl V.heap.size (.slice A4 m1 c4) _ rfl HO1.out _ D1 e23 f1 (kN X 23 1) rfl HE23.out HR1.out (by have h1 := HLE.out; (try simp only [List.length_append]); omega) ?_ ?_)
      · exact HB1.out.size
      intro v10 w10 ho10 hg10 _
      have HB10 := keepd (app_below HB1.out HO1.out hg10)
      have HO10 := keepd ho10
      clear ho10 hg10
      obtain ⟨q0, q1⟩ := TB.facts (show TB w10 w.heap.size X from SR.call HT.out HB10.out (SR.lt HT.out))
      obtain ⟨k0, k1, k2', k3, _, _, _, _, kt⟩ := st_facts (show SR 32 w10 (w.heap.size + 1) _ from SR.call HS.out HB10.out HS.out.lt)
      go_wp2_with fail
      with_reducible refine (C3.out w10 HB10.out).mono ?_
      rintro e w11 ⟨⟨D11, f11, rfl, hr11⟩, hb11⟩
      have HB11 := keepd (bCall HB10.out hb11)
      have HR11 := keepd hr11
      have HO11 := keepd (HO10.out.below hb11)
      clear hr11 hb11 q0 q1 k0 k1 k2' k3 kt
      go_wp2_with (at_builtin; refine wpList_app _ rfl (.tmp 51) (.tmp 54) rfl V.heap.size v10 _ rfl HO11.out _ D11 m3 f11 y3 rfl HM3.out HR11.out (by have h1 := HLE.out; (try simp only [List.length_append]); omega) ?_ ?_)
      · exact HB11.out.size
      intro v12 w12 ho12 hg12 _
      have HB12 := keepd (app_below HB11.out HO11.out hg12)
      have HO12 := keepd ho12
      clear ho12 hg12
      cases ov
      case false =>
        cases li
        case false =>
          obtain ⟨q0, q1⟩ := TB.facts (show TB w12 w.heap.size X from SR.call HT.out HB12.out (SR.lt HT.out))
          obtain ⟨k0, k1, k2', k3, _, _, _, _, kt⟩ := st_facts (show SR 32 w12 (w.heap.size + 1) _ from SR.call HS.out HB12.out HS.out.lt)
          go_wp2_with fail
          have ho9 := own_congr HO12.out (show _ = L by rw [← ehl.out]; simpa using HFIN.out.symm)
          obtain ⟨A9, c9, he9, _⟩ := ho9.rd
          rw [show L.length = m from HM.out] at he9
          replace ho9 := ho9.base HB0.out.size
          rw [he9] at ho9
          have HR9 := keepd ho9
          have HE9 := keepd he9
          clear ho9 he9 q0 q1 k0 k1 k2' k3 kt
          go_ret
          exact ⟨⟨A9, c9, congrArg Ending.returned HE9.out, HR9.out⟩, bCall HB0.out HB12.out⟩
        case true =>
          obtain ⟨q0, q1⟩ := TB.facts (show TB w12 w.heap.size X from SR.call HT.out HB12.out (SR.lt HT.out))
          obtain ⟨k0, k1, k2', k3, _, _, _, _, kt⟩ := st_facts (show SR 32 w12 (w.heap.size + 1) _ from SR.call HS.out HB12.out HS.out.lt)
          go_wp2_with fail
          with_reducible refine (C14.out _).mono ?_
          rintro e w13 ⟨⟨D13, f13, rfl, hr13⟩, hb13⟩
          have HB13 := keepd (bCall HB12.out hb13)
          have HR13 := keepd hr13
          have HO13 := keepd (HO12.out.below hb13)
          clear hr13 hb13 q0 q1 k0 k1 k2' k3 kt
          go_wp2_with (at_builtin; refine wpList_app _ rfl (.tmp 64) (.tmp 66) rfl V.heap.size v12 _ rfl HO13.out _ D13 e14 f13 (kN X 14 1) rfl HE14.out HR13.out (by have h1 := HLE.out; (try simp only [List.length_append]); omega) ?_ ?_)
          · exact HB13.out.size
          intro v14 w14 ho14 hg14 _
          have HB14 := keepd (app_below HB13.out HO13.out hg14)
          have HO14 := keepd ho14
          clear ho14 hg14
          obtain ⟨q0, q1⟩ := TB.facts (show TB w14 w.heap.size X from SR.call HT.out HB14.out (SR.lt HT.out))
          obtain ⟨k0, k1, k2', k3, _, _, _, _, kt⟩ := st_facts (show SR 32 w14 (w.heap.size + 1) _ from SR.call HS.out HB14.out HS.out.lt)
          go_wp2_with fail
          have ho9 := own_congr HO14.out (show _ = L by rw [← ehl.out]; simpa using HFIN.out.symm)
          obtain ⟨A9, c9, he9, _⟩ := ho9.rd
          rw [show L.length = m from HM.out] at he9
          replace ho9 := ho9.base HB0.out.size
          rw [he9] at ho9
          have HR9 := keepd ho9
          have HE9 := keepd he9
          clear ho9 he9 q0 q1 k0 k1 k2' k3 kt
          go_ret
          exact ⟨⟨A9, c9, congrArg Ending.returned HE9.out, HR9.out⟩, bCall HB0.out HB14.out⟩
      case true =>
        obtain ⟨q0, q1⟩ := TB.facts (show TB w12 w.heap.size X from SR.call HT.out HB12.out (SR.lt HT.out))
        obtain ⟨k0, k1, k2', k3, _, _, _, _, kt⟩ := st_facts (show SR 32 w12 (w.heap.size + 1) _ from SR.call HS.out HB12.out HS.out.lt)
        go_wp2_with fail
        with_reducible refine (C26.out _).mono ?_
        rintro e w15 ⟨⟨D15, f15, rfl, hr15⟩, hb15⟩
        have HB15 := keepd (bCall HB12.out hb15)
        have HR15 := keepd hr15
        have HO15 := keepd (HO12.out.below hb15)
        clear hr15 hb15 q0 q1 k0 k1 k2' k3 kt
        go_wp2_with (at_builtin; refine wpList_app _ rfl (.tmp 58) (.tmp 60) rfl V.heap.size v12 _ rfl HO15.out _ D15 e26 f15 (kN X 26 1) rfl HE26.out HR15.out (by have h1 := HLE.out; (try simp only [List.length_append]); omega) ?_ ?_)
        · exact HB15.out.size
        intro v16 w16 ho16 hg16 _
        have HB16 := keepd (app_below HB15.out HO15.out hg16)
        have HO16 := keepd ho16
        clear ho16 hg16
        cases li
        case false =>
          obtain ⟨q0, q1⟩ := TB.facts (show TB w16 w.heap.size X from SR.call HT.out HB16.out (SR.lt HT.out))
          obtain ⟨k0, k1, k2', k3, _, _, _, _, kt⟩ := st_facts (show SR 32 w16 (w.heap.size + 1) _ from SR.call HS.out HB16.out HS.out.lt)
          go_wp2_with fail
          have ho9 := own_congr HO16.out (show _ = L by rw [← ehl.out]; simpa using HFIN.out.symm)
          obtain ⟨A9, c9, he9, _⟩ := ho9.rd
          rw [show L.length = m from HM.out] at he9
          replace ho9 := ho9.base HB0.out.size
          rw [he9] at ho9
          have HR9 := keepd ho9
          have HE9 := keepd he9
          clear ho9 he9 q0 q1 k0 k1 k2' k3 kt
          go_ret
          exact ⟨⟨A9, c9, congrArg Ending.returned HE9.out, HR9.out⟩, bCall HB0.out HB16.out⟩
        case true =>
          obtain ⟨q0, q1⟩ := TB.facts (show TB w16 w.heap.size X from SR.call HT.out HB16.out (SR.lt HT.out))
          obtain ⟨k0, k1, k2', k3, _, _, _, _, kt⟩ := st_facts (show SR 32 w16 (w.heap.size + 1) _ from SR.call HS.out HB16.out HS.out.lt)
          go_wp2_with fail
          with_reducible refine (C14.out _).mono ?_
          rintro e w17 ⟨⟨D17, f17, rfl, hr17⟩, hb17⟩
          have HB17 := keepd (bCall HB16.out hb17)
          have HR17 := keepd hr17
          have HO17 := keepd (HO16.out.below hb17)
          clear hr17 hb17 q0 q1 k0 k1 k2' k3 kt
          go_wp2_with (at_builtin; refine wpList_app _ rfl (.tmp 64) (.tmp 66) rfl V.heap.size v16 _ rfl HO17.out _ D17 e14 f17 (kN X 14 1) rfl HE14.out HR17.out (by have h1 := HLE.out; (try simp only [List.length_append]); omega) ?_ ?_)
          · exact HB17.out.size
          intro v18 w18 ho18 hg18 _
          have HB18 := keepd (app_below HB17.out HO17.out hg18)
          have HO18 := keepd ho18
          clear ho18 hg18
          obtain ⟨q0, q1⟩ := TB.facts (show TB w18 w.heap.size X from SR.call HT.out HB18.out (SR.lt HT.out))
          obtain ⟨k0, k1, k2', k3, _, _, _, _, kt⟩ := st_facts (show SR 32 w18 (w.heap.size + 1) _ from SR.call HS.out HB18.out HS.out.lt)
          go_wp2_with fail
          have ho9 := own_congr HO18.out (show _ = L by rw [← ehl.out]; simpa using HFIN.out.symm)
          obtain ⟨A9, c9, he9, _⟩ := ho9.rd
          rw [show L.length = m from HM.out] at he9
          replace ho9 := ho9.base HB0.out.size
          rw [he9] at ho9
          have HR9 := keepd ho9
          have HE9 := keepd he9
          clear ho9 he9 q0 q1 k0 k1 k2' k3 kt
          go_ret
          exact ⟨⟨A9, c9, congrArg Ending.returned HE9.out, HR9.out⟩, bCall HB0.out HB18.out⟩
  subst he1
  obtain ⟨q0, q1⟩ := TB.facts (show TB w1 w.heap.size X from SR.call HT.out HB1.out (SR.lt HT.out))
  obtain ⟨k0, k1, k2', k3, _, _, _, _, kt⟩ := st_facts (show SR 32 w1 (w.heap.size + 1) _ from SR.call HS.out HB1.out HS.out.lt)
  go_wp2_with fail
  with_reducible refine (C19.out _).mono ?_
  rintro e w19 ⟨⟨D19, f19, rfl, hr19⟩, hb19⟩
  have HB19 := keepd (bCall HB1.out hb19)
  have HR19 := keepd hr19
  have HO19 := keepd (HO1.out.below hb19)
  clear hr19 hb19 q0 q1 k0 k1 k2' k3 kt
  by_cases he2 : e19 = 0
  case neg =>
    have z1 : ¬ (e19 : Int) = 0 := by omega
    have z2 : ((e19 : Int) == 0) = false := by simp; omega
    rcases Nat.eq_zero_or_pos k2 with hk0 | hk0
    · subst hk0
      obtain ⟨q0, q1⟩ := TB.facts (show TB w19 w.heap.size X from SR.call HT.out HB19.out (SR.lt HT.out))
      obtain ⟨k0, k1, k2', k3, _, _, _, _, kt⟩ := st_facts (show SR 32 w19 (w.heap.size + 1) _ from SR.call HS.out HB19.out HS.out.lt)
      go_wp2_with fail
      with_reducible refine (C3.out w19 HB19.out).mono ?_
      rintro e w20 ⟨⟨D20, f20, rfl, hr20⟩, hb20⟩
      have HB20 := keepd (bCall HB19.out hb20)
      have HR20 := keepd hr20
      have HO20 := keepd (HO19.out.below hb20)
      clear hr20 hb20 q0 q1 k0 k1 k2' k3 kt
      go_wp2_with (at_builtin; refine wpList_app _ rfl (.tmp 51) (.tmp 54) rfl V.heap.size (.slice A4 m1 c4) _ rfl HO20.out _ D20 m3 f20 y3 rfl HM3.out HR20.out (by have h1 := HLE.out; (try simp only [List.length_append]); omega) ?_ ?_)
      · exact HB20.out.size
      intro v21 w21 ho21 hg21 _
      have HB21 := keepd (app_below HB20.out HO20.out hg21)
      have HO21 := keepd ho21
      clear ho21 hg21
      cases ov
      case false =>
        cases li
        case false =>
          obtain ⟨q0, q1⟩ := TB.facts (show TB w21 w.heap.size X from SR.call HT.out HB21.out (SR.lt HT.out))
          obtain ⟨k0, k1, k2', k3, _, _, _, _, kt⟩ := st_facts (show SR 32 w21 (w.heap.size + 1) _ from SR.call HS.out HB21.out HS.out.lt)
          go_wp2_with fail
          have ho9 := own_congr HO21.out (show _ = L by simpa [homeL_zero] using HFIN.out.symm)
          obtain ⟨A9, c9, he9, _⟩ := ho9.rd
          rw [show L.length = m from HM.out] at he9
          replace ho9 := ho9.base HB0.out.size
          rw [he9] at ho9
          have HR9 := keepd ho9
          have HE9 := keepd he9
          clear ho9 he9 q0 q1 k0 k1 k2' k3 kt
          go_ret
          exact ⟨⟨A9, c9, congrArg Ending.returned HE9.out, HR9.out⟩, bCall HB0.out HB21.out⟩
        case true =>
          obtain ⟨q0, q1⟩ := TB.facts (show TB w21 w.heap.size X from SR.call HT.out HB21.out (SR.lt HT.out))
          obtain ⟨k0, k1, k2', k3, _, _, _, _, kt⟩ := st_facts (show SR 32 w21 (w.heap.size + 1) _ from SR.call HS.out HB21.out HS.out.lt)
          go_wp2_with fail
          with_reducible refine (C14.out _).mono ?_
          rintro e w22 ⟨⟨D22, f22, rfl, hr22⟩, hb22⟩
          have HB22 := keepd (bCall HB21.out hb22)
          have HR22 := keepd hr22
          have HO22 := keepd (HO21.out.below hb22)
          clear hr22 hb22 q0 q1 k0 k1 k2' k3 kt
          go_wp2_with (at_builtin; refine wpList_app _ rfl (.tmp 64) (.tmp 66) rfl V.heap.size v21 _ rfl HO22.out _ D22 e14 f22 (kN X 14 1) rfl HE14.out HR22.out (by have h1 := HLE.out; (try simp only [List.length_append]); omega) ?_ ?_)
          · exact HB22.out.size
          intro v23 w23 ho23 hg23 _
          have HB23 := keepd (app_below HB22.out HO22.out hg23)
          have HO23 := keepd ho23
          clear ho23 hg23
          obtain ⟨q0, q1⟩ := TB.facts (show TB w23 w.heap.size X from SR.call HT.out HB23.out (SR.lt HT.out))
          obtain ⟨k0, k1, k2', k3, _, _, _, _, kt⟩ := st_facts (show SR 32 w23 (w.heap.size + 1) _ from SR.call HS.out HB23.out HS.out.lt)
          go_wp2_with fail
          have ho9 := own_congr HO23.out (show _ = L by simpa [homeL_zero] using HFIN.out.symm)
          obtain ⟨A9, c9, he9, _⟩ := ho9.rd
          rw [show L.length = m from HM.out] at he9
          replace ho9 := ho9.base HB0.out.size
          rw [he9] at ho9
          have HR9 := keepd ho9
          have HE9 := keepd he9
          clear ho9 he9 q0 q1 k0 k1 k2' k3 kt
          go_ret
          exact ⟨⟨A9, c9, congrArg Ending.returned HE9.out, HR9.out⟩, bCall HB0.out HB23.out⟩
      case true =>
        obtain ⟨q0, q1⟩ := TB.facts (show TB w21 w.heap.size X from SR.call HT.out HB21.out (SR.lt HT.out))
        obtain ⟨k0, k1, k2', k3, _, _, _, _, kt⟩ := st_facts (show SR 32 w21 (w.heap.size + 1) _ from SR.call HS.out HB21.out HS.out.lt)
        go_wp2_with fail
        with_reducible refine (C26.out _).mono ?_
        rintro e w24 ⟨⟨D24, f24, rfl, hr24⟩, hb24⟩
        have HB24 := keepd (bCall HB21.out hb24)
        have HR24 := keepd hr24
        have HO24 := keepd (HO21.out.below hb24)
        clear hr24 hb24 q0 q1 k0 k1 k2' k3 kt
        go_wp2_with (at_builtin; refine wpList_app _ rfl (.tmp 58) (.tmp 60) rfl V.heap.size v21 _ rfl HO24.out _ D24 e26 f24 (kN X 26 1) rfl HE26.out HR24.out (by have h1 := HLE.out; (try simp only [List.length_append]); omega) ?_ ?_)
        · exact HB24.out.size
        intro v25 w25 ho25 hg25 _
        have HB25 := keepd (app_below HB24.out HO24.out hg25)
        have HO25 := keepd ho25
        clear ho25 hg25
        cases li
        case false =>
          obtain ⟨q0, q1⟩ := TB.facts (show TB w25 w.heap.size X from SR.call HT.out HB25.out (SR.lt HT.out))
          obtain ⟨k0, k1, k2', k3, _, _, _, _, kt⟩ := st_facts (show SR 32 w25 (w.heap.size + 1) _ from SR.call HS.out HB25.out HS.out.lt)
          go_wp2_with fail
          have ho9 := own_congr HO25.out (show _ = L by simpa [homeL_zero] using HFIN.out.symm)
          obtain ⟨A9, c9, he9, _⟩ := ho9.rd
          rw [show L.length = m from HM.out] at he9
          replace ho9 := ho9.base HB0.out.size
          rw [he9] at ho9
          have HR9 := keepd ho9
          have HE9 := keepd he9
          clear ho9 he9 q0 q1 k0 k1 k2' k3 kt
          go_ret
          exact ⟨⟨A9, c9, congrArg Ending.returned HE9.out, HR9.out⟩, bCall HB0.out HB25.out⟩
        case true =>
          obtain ⟨q0, q1⟩ := TB.facts (show TB w25 w.heap.size X from SR.call HT.out HB25.out (SR.lt HT.out))
          obtain ⟨k0, k1, k2', k3, _, _, _, _, kt⟩ := st_facts (show SR 32 w25 (w.heap.size + 1) _ from SR.call HS.out HB25.out HS.out.lt)
          go_wp2_with fail
          with_reducible refine (C14.out _).mono ?_
          rintro e w26 ⟨⟨D26, f26, rfl, hr26⟩, hb26⟩
          have HB26 := keepd (bCall HB25.out hb26)
          have HR26 := keepd hr26
          have HO26 := keepd (HO25.out.below hb26)
          clear hr26 hb26 q0 q1 k0 k1 k2' k3 kt
          go_wp2_with (at_builtin; refine wpList_app _ rfl (.tmp 64) (.tmp 66) rfl V.heap.size v25 _ rfl HO26.out _ D26 e14 f26 (kN X 14 1) rfl HE14.out HR26.out (by have h1 := HLE.out; (try simp only [List.length_append]); omega) ?_ ?_)
          · exact HB26.out.size
          intro v27 w27 ho27 hg27 _
          have HB27 := keepd (app_below HB26.out HO26.out hg27)
          have HO27 := keepd ho27
          clear ho27 hg27
          obtain ⟨q0, q1⟩ := TB.facts (show TB w27 w.heap.size X from SR.call HT.out HB27.out (SR.lt HT.out))
          obtain ⟨k0, k1, k2', k3, _, _, _, _, kt⟩ := st_facts (show SR 32 w27 (w.heap.size + 1) _ from SR.call HS.out HB27.out HS.out.lt)
          go_wp2_with fail
          have ho9 := own_congr HO27.out (show _ = L by simpa [homeL_zero] using HFIN.out.symm)
          obtain ⟨A9, c9, he9, _⟩ := ho9.rd
          rw [show L.length = m from HM.out] at he9
          replace ho9 := ho9.base HB0.out.size
          rw [he9] at ho9
          have HR9 := keepd ho9
          have HE9 := keepd he9
          clear ho9 he9 q0 q1 k0 k1 k2' k3 kt
          go_ret
          exact ⟨⟨A9, c9, congrArg Ending.returned HE9.out, HR9.out⟩, bCall HB0.out HB27.out⟩
    · have ik : (0 : Int) < (k2 : Int) := by omega
      have HKP := keepd hk0
      have ehl := keepd (home_ii HE23.out.symm (by rw [show (kN X 19 k2).length = e19 from HE19.out.symm]; exact he2) HKP.out)
      clear hk0
      go_wp2_with (at_builtin; refine wpList_app _ rfl (.tmp 48) (.tmp 49) rfl V.heap.size (.slice A4 m1 c4) _ rfl HO19.out _ D19 e19 f19 (kN X 19 k2) rfl HE19.out HR19.out (by have h1 := HLE.out; (try simp only [List.length_append]); omega) ?_ ?_)
      · exact HB19.out.size
      intro v28 w28 ho28 hg28 _
      have HB28 := keepd (app_below HB19.out HO19.out hg28)
      have HO28 := keepd ho28
      clear ho28 hg28
      obtain ⟨q0, q1⟩ := TB.facts (show TB w28 w.heap.size X from SR.call HT.out HB28.out (SR.lt HT.out))
      obtain ⟨k0, k1, k2', k3, _, _, _, _, kt⟩ := st_facts (show SR 32 w28 (w.heap.size + 1) _ from SR.call HS.out HB28.out HS.out.lt)
      go_wp2_with fail
      with_reducible refine (C3.out w28 HB28.out).mono ?_
      rintro e w29 ⟨⟨D29, f29, rfl, hr29⟩, hb29⟩
      have HB29 := keepd (bCall HB28.out hb29)
      have HR29 := keepd hr29
      have HO29 := keepd (HO28.out.below hb29)
      clear hr29 hb29 q0 q1 k0 k1 k2' k3 kt
      go_wp2_with (at_builtin; refine wpList_app _ rfl (.tmp 51) (.tmp 54) rfl V.heap.size v28 _ rfl HO29.out _ D29 m3 f29 y3 rfl HM3.out HR29.out (by have h1 := HLE.out; (try simp only [List.length_append]); omega) ?_ ?_)
      · exact HB29.out.size
      intro v30 w30 ho30 hg30 _
      have HB30 := keepd (app_below HB29.out HO29.out hg30)
      have HO30 := keepd ho30
      clear ho30 hg30
      cases ov
      case false =>
        cases li
        case false =>
          obtain ⟨q0, q1⟩ := TB.facts (show TB w30 w.heap.size X from SR.call HT.out HB30.out (SR.lt HT.out))
          obtain ⟨k0, k1, k2', k3, _, _, _, _, kt⟩ := st_facts (show SR 32 w30 (w.heap.size + 1) _ from SR.call HS.out HB30.out HS.out.lt)
          go_wp2_with fail
          have ho9 := own_congr HO30.out (show _ = L by rw [← ehl.out]; simpa using HFIN.out.symm)
          obtain ⟨A9, c9, he9, _⟩ := ho9.rd
          rw [show L.length = m from HM.out] at he9
          replace ho9 := ho9.base HB0.out.size
          rw [he9] at ho9
          have HR9 := keepd ho9
          have HE9 := keepd he9
          clear ho9 he9 q0 q1 k0 k1 k2' k3 kt
          go_ret
          exact ⟨⟨A9, c9, congrArg Ending.returned HE9.out, HR9.out⟩, bCall HB0.out HB30.out⟩
        case true =>
          obtain ⟨q0, q1⟩ := TB.facts (show TB w30 w.heap.size X from SR.call HT.out HB30.out (SR.lt HT.out))
          obtain ⟨k0, k1, k2', k3, _, _, _, _, kt⟩ := st_facts (show SR 32 w30 (w.heap.size + 1) _ from SR.call HS.out HB30.out HS.out.lt)
          go_wp2_with fail
          with_reducible refine (C14.out _).mono ?_
          rintro e w31 ⟨⟨D31, f31, rfl, hr31⟩, hb31⟩
          have HB31 := keepd (bCall HB30.out hb31)
          have HR31 := keepd hr31
          have HO31 := keepd (HO30.out.below hb31)
          clear hr31 hb31 q0 q1 k0 k1 k2' k3 kt
          go_wp2_with (at_builtin; refine wpList_app _ rfl (.tmp 64) (.tmp 66) rfl V.heap.size v30 _ rfl HO31.out _ D31 e14 f31 (kN X 14 1) rfl HE14.out HR31.out (by have h1 := HLE.out; (try simp only [List.length_append]); omega) ?_ ?_)
          · exact HB31.out.size
          intro v32 w32 ho32 hg32 _
          have HB32 := keepd (app_below HB31.out HO31.out hg32)
          have HO32 := keepd ho32
          clear ho32 hg32
          obtain ⟨q0, q1⟩ := TB.facts (show TB w32 w.heap.size X from SR.call HT.out HB32.out (SR.lt HT.out))
          obtain ⟨k0, k1, k2', k3, _, _, _, _, kt⟩ := st_facts (show SR 32 w32 (w.heap.size + 1) _ from SR.call HS.out HB32.out HS.out.lt)
          go_wp2_with fail
          have ho9 := own_congr HO32.out (show _ = L by rw [← ehl.out]; simpa using HFIN.out.symm)
          obtain ⟨A9, c9, he9, _⟩ := ho9.rd
          rw [show L.length = m from HM.out] at he9
          replace ho9 := ho9.base HB0.out.size
          rw [he9] at ho9
          have HR9 := keepd ho9
          have HE9 := keepd he9
          clear ho9 he9 q0 q1 k0 k1 k2' k3 kt
          go_ret
          exact ⟨⟨A9, c9, congrArg Ending.returned HE9.out, HR9.out⟩, bCall HB0.out HB32.out⟩
      case true =>
        obtain ⟨q0, q1⟩ := TB.facts (show TB w30 w.heap.size X from SR.call HT.out HB30.out (SR.lt HT.out))
        obtain ⟨k0, k1, k2', k3, _, _, _, _, kt⟩ := st_facts (show SR 32 w30 (w.heap.size + 1) _ from SR.call HS.out HB30.out HS.out.lt)
        go_wp2_with fail
        with_reducible refine (C26.out _).mono ?_
        rintro e w33 ⟨⟨D33, f33, rfl, hr33⟩, hb33⟩
        have HB33 := keepd (bCall HB30.out hb33)
        have HR33 := keepd hr33
        have HO33 := keepd (HO30.out.below hb33)
        clear hr33 hb33 q0 q1 k0 k1 k2' k3 kt
        go_wp2_with (at_builtin; refine wpList_app _ rfl (.tmp 58) (.tmp 60) rfl V.heap.size v30 _ rfl HO33.out _ D33 e26 f33 (kN X 26 1) rfl HE26.out HR33.out (by have h1 := HLE.out; (try simp only [List.length_append]); omega) ?_ ?_)
        · exact HB33.out.size
        intro v34 w34 ho34 hg34 _
        have HB34 := keepd (app_below HB33.out HO33.out hg34)
        have HO34 := keepd ho34
        clear ho34 hg34
        cases li
        case false =>
          obtain ⟨q0, q1⟩ := TB.facts (show TB w34 w.heap.size X from SR.call HT.out HB34.out (SR.lt HT.out))
          obtain ⟨k0, k1, k2', k3, _, _, _, _, kt⟩ := st_facts (show SR 32 w34 (w.heap.size + 1) _ from SR.call HS.out HB34.out HS.out.lt)
          go_wp2_with fail
          have ho9 := own_congr HO34.out (show _ = L by rw [← ehl.out]; simpa using HFIN.out.symm)
          obtain ⟨A9, c9, he9, _⟩ := ho9.rd
          rw [show L.length = m from HM.out] at he9
          replace ho9 := ho9.base HB0.out.size
          rw [he9] at ho9
          have HR9 := keepd ho9
          have HE9 := keepd he9
          clear ho9 he9 q0 q1 k0 k1 k2' k3 kt
          go_ret
          exact ⟨⟨A9, c9, congrArg Ending.returned HE9.out, HR9.out⟩, bCall HB0.out HB34.out⟩
        case true =>
          obtain ⟨q0, q1⟩ := TB.facts (show TB w34 w.heap.size X from SR.call HT.out HB34.out (SR.lt HT.out))
          obtain ⟨k0, k1, k2', k3, _, _, _, _, kt⟩ := st_facts (show SR 32 w34 (w.heap.size + 1) _ from SR.call HS.out HB34.out HS.out.lt)
          go_wp2_with fail
          with_reducible refine (C14.out _).mono ?_
          rintro e w35 ⟨⟨D35, f35, rfl, hr35⟩, hb35⟩
          have HB35 := keepd (bCall HB34.out hb35)
          have HR35 := keepd hr35
          have HO35 := keepd (HO34.out.below hb35)
          clear hr35 hb35 q0 q1 k0 k1 k2' k3 kt
          go_wp2_with (at_builtin; refine wpList_app _ rfl (.tmp 64) (.tmp 66) rfl V.heap.size v34 _ rfl HO35.out _ D35 e14 f35 (kN X 14 1) rfl HE14.out HR35.out (by have h1 := HLE.out; (try simp only [List.length_append]); omega) ?_ ?_)
          · exact HB35.out.size
          intro v36 w36 ho36 hg36 _
          have HB36 := keepd (app_below HB35.out HO35.out hg36)
          have HO36 := keepd ho36
          clear ho36 hg36
          obtain ⟨q0, q1⟩ := TB.facts (show TB w36 w.heap.size X from SR.call HT.out HB36.out (SR.lt HT.out))
          obtain ⟨k0, k1, k2', k3, _, _, _, _, kt⟩ := st_facts (show SR 32 w36 (w.heap.size + 1) _ from SR.call HS.out HB36.out HS.out.lt)
          go_wp2_with fail
          have ho9 := own_congr HO36.out (show _ = L by rw [← ehl.out]; simpa using HFIN.out.symm)
          obtain ⟨A9, c9, he9, _⟩ := ho9.rd
          rw [show L.length = m from HM.out] at he9
          replace ho9 := ho9.base HB0.out.size
          rw [he9] at ho9
          have HR9 := keepd ho9
          have HE9 := keepd he9
          clear ho9 he9 q0 q1 k0 k1 k2' k3 kt
          go_ret
          exact ⟨⟨A9, c9, congrArg Ending.returned HE9.out, HR9.out⟩, bCall HB0.out HB36.out⟩
  subst he2
  obtain ⟨q0, q1⟩ := TB.facts (show TB w19 w.heap.size X from SR.call HT.out HB19.out (SR.lt HT.out))
  obtain ⟨k0, k1, k2', k3, _, _, _, _, kt⟩ := st_facts (show SR 32 w19 (w.heap.size + 1) _ from SR.call HS.out HB19.out HS.out.lt)
  go_wp2_with fail
  with_reducible refine (C21.out _).mono ?_
  rintro e w37 ⟨⟨D37, f37, rfl, hr37⟩, hb37⟩
  have HB37 := keepd (bCall HB19.out hb37)
  have HR37 := keepd hr37
  have HO37 := keepd (HO19.out.below hb37)
  clear hr37 hb37 q0 q1 k0 k1 k2' k3 kt
  rcases Nat.eq_zero_or_pos k2 with hk0 | hk0
  · subst hk0
    obtain ⟨q0, q1⟩ := TB.facts (show TB w37 w.heap.size X from SR.call HT.out HB37.out (SR.lt HT.out))
    obtain ⟨k0, k1, k2', k3, _, _, _, _, kt⟩ := st_facts (show SR 32 w37 (w.heap.size + 1) _ from SR.call HS.out HB37.out HS.out.lt)
    go_wp2_with fail
    with_reducible refine (C3.out w37 HB37.out).mono ?_
    rintro e w38 ⟨⟨D38, f38, rfl, hr38⟩, hb38⟩
    have HB38 := keepd (bCall HB37.out hb38)
    have HR38 := keepd hr38
    have HO38 := keepd (HO37.out.below hb38)
    clear hr38 hb38 q0 q1 k0 k1 k2' k3 kt
    go_wp2_with (at_builtin; refine wpList_app _ rfl (.tmp 51) (.tmp 54) rfl V.heap.size (.slice A4 m1 c4) _ rfl HO38.out _ D38 m3 f38 y3 rfl HM3.out HR38.out (by have h1 := HLE.out; (try simp only [List.length_append]); omega) ?_ ?_)
    · exact HB38.out.size
    intro v39 w39 ho39 hg39 _
    have HB39 := keepd (app_below HB38.out HO38.out hg39)
    have HO39 := keepd ho39
    clear ho39 hg39
    cases ov
    case false =>
      cases li
      case false =>
        obtain ⟨q0, q1⟩ := TB.facts (show TB w39 w.heap.size X from SR.call HT.out HB39.out (SR.lt HT.out))
        obtain ⟨k0, k1, k2', k3, _, _, _, _, kt⟩ := st_facts (show SR 32 w39 (w.heap.size + 1) _ from SR.call HS.out HB39.out HS.out.lt)
        go_wp2_with fail
        have ho9 := own_congr HO39.out (show _ = L by simpa [homeL_zero] using HFIN.out.symm)
        obtain ⟨A9, c9, he9, _⟩ := ho9.rd
        rw [show L.length = m from HM.out] at he9
        replace ho9 := ho9.base HB0.out.size
        rw [he9] at ho9
        have HR9 := keepd ho9
        have HE9 := keepd he9
        clear ho9 he9 q0 q1 k0 k1 k2' k3 kt
        go_ret
        exact ⟨⟨A9, c9, congrArg Ending.returned HE9.out, HR9.out⟩, bCall HB0.out HB39.out⟩
      case true =>
        obtain ⟨q0, q1⟩ := TB.facts (show TB w39 w.heap.size X from SR.call HT.out HB39.out (SR.lt HT.out))
        obtain ⟨k0, k1, k2', k3, _, _, _, _, kt⟩ := st_facts (show SR 32 w39 (w.heap.size + 1) _ from SR.call HS.out HB39.out HS.out.lt)
        go_wp2_with fail
        with_reducible refine (C14.out _).mono ?_
        rintro e w40 ⟨⟨D40, f40, rfl, hr40⟩, hb40⟩
        have HB40 := keepd (bCall HB39.out hb40)
        have HR40 := keepd hr40
        have HO40 := keepd (HO39.out.below hb40)
        clear hr40 hb40 q0 q1 k0 k1 k2' k3 kt
        go_wp2_with (at_builtin; refine wpList_app _ rfl (.tmp 64) (.tmp 66) rfl V.heap.size v39 _ rfl HO40.out _ D40 e14 f40 (kN X 14 1) rfl HE14.out HR40.out (by have h1 := HLE.out; (try simp only [List.length_append]); omega) ?_ ?_)
        · exact HB40.out.size
        intro v41 w41 ho41 hg41 _
        have HB41 := keepd (app_below HB40.out HO40.out hg41)
        have HO41 := keepd ho41
        clear ho41 hg41
        obtain ⟨q0, q1⟩ := TB.facts (show TB w41 w.heap.size X from SR.call HT.out HB41.out (SR.lt HT.out))
        obtain ⟨k0, k1, k2', k3, _, _, _, _, kt⟩ := st_facts (show SR 32 w41 (w.heap.size + 1) _ from SR.call HS.out HB41.out HS.out.lt)
        go_wp2_with fail
        have ho9 := own_congr HO41.out (show _ = L by simpa [homeL_zero] using HFIN.out.symm)
        obtain ⟨A9, c9, he9, _⟩ := ho9.rd
        rw [show L.length = m from HM.out] at he9
        replace ho9 := ho9.base HB0.out.size
        rw [he9] at ho9
        have HR9 := keepd ho9
        have HE9 := keepd he9
        clear ho9 he9 q0 q1 k0 k1 k2' k3 kt
        go_ret
        exact ⟨⟨A9, c9, congrArg Ending.returned HE9.out, HR9.out⟩, bCall HB0.out HB41.out⟩
    case true =>
      obtain ⟨q0, q1⟩ := TB.facts (show TB w39 w.heap.size X from SR.call HT.out HB39.out (SR.lt HT.out))
      obtain ⟨k0, k1, k2', k3, _, _, _, _, kt⟩ := st_facts (show SR 32 w39 (w.heap.size + 1) _ from SR.call HS.out HB39.out HS.out.lt)
      go_wp2_with fail
      with_reducible refine (C26.out _).mono ?_
      rintro e w42 ⟨⟨D42, f42, rfl, hr42⟩, hb42⟩
      have HB42 := keepd (bCall HB39.out hb42)
      have HR42 := keepd hr42
      have HO42 := keepd (HO39.out.below hb42)
      clear hr42 hb42 q0 q1 k0 k1 k2' k3 kt
      go_wp2_with (at_builtin; refine wpList_app _ rfl (.tmp 58) (.tmp 60) rfl V.heap.size v39 _ rfl HO42.out _ D42 e26 f42 (kN X 26 1) rfl HE26.out HR42.out (by have h1 := HLE.out; (try simp only [List.length_append]); omega) ?_ ?_)
      · exact HB42.out.size
      intro v43 w43 ho43 hg43 _
      have HB43 := keepd (app_below HB42.out HO42.out hg43)
      have HO43 := keepd ho43
      clear ho43 hg43
      cases li
      case false =>
        obtain ⟨q0, q1⟩ := TB.facts (show TB w43 w.heap.size X from SR.call HT.out HB43.out (SR.lt HT.out))
        obtain ⟨k0, k1, k2', k3, _, _, _, _, kt⟩ := st_facts (show SR 32 w43 (w.heap.size + 1) _ from SR.call HS.out HB43.out HS.out.lt)
        go_wp2_with fail
        have ho9 := own_congr HO43.out (show _ = L by simpa [homeL_zero] using HFIN.out.symm)
        obtain ⟨A9, c9, he9, _⟩ := ho9.rd
        rw [show L.length = m from HM.out] at he9
        replace ho9 := ho9.base HB0.out.size
        rw [he9] at ho9
        have HR9 := keepd ho9
        have HE9 := keepd he9
        clear ho9 he9 q0 q1 k0 k1 k2' k3 kt
        go_ret
        exact ⟨⟨A9, c9, congrArg Ending.returned HE9.out, HR9.out⟩, bCall HB0.out HB43.out⟩
      case true =>
        obtain ⟨q0, q1⟩ := TB.facts (show TB w43 w.heap.size X from SR.call HT.out HB43.out (SR.lt HT.out))
        obtain ⟨k0, k1, k2', k3, _, _, _, _, kt⟩ := st_facts (show SR 32 w43 (w.heap.size + 1) _ from SR.call HS.out HB43.out HS.out.lt)
        go_wp2_with fail
        with_reducible refine (C14.out _).mono ?_
        rintro e w44 ⟨⟨D44, f44, rfl, hr44⟩, hb44⟩
        have HB44 := keepd (bCall HB43.out hb44)
        have HR44 := keepd hr44
        have HO44 := keepd (HO43.out.below hb44)
        clear hr44 hb44 q0 q1 k0 k1 k2' k3 kt
        go_wp2_with (at_builtin; refine wpList_app _ rfl (.tmp 64) (.tmp 66) rfl V.heap.size v43 _ rfl HO44.out _ D44 e14 f44 (kN X 14 1) rfl HE14.out HR44.out (by have h1 := HLE.out; (try simp only [List.length_append]); omega) ?_ ?_)
        · exact HB44.out.size
        intro v45 w45 ho45 hg45 _
        have HB45 := keepd (app_below HB44.out HO44.out hg45)
        have HO45 := keepd ho45
        clear ho45 hg45
        obtain ⟨q0, q1⟩ := TB.facts (show TB w45 w.heap.size X from SR.call HT.out HB45.out (SR.lt HT.out))
        obtain ⟨k0, k1, k2', k3, _, _, _, _, kt⟩ := st_facts (show SR 32 w45 (w.heap.size + 1) _ from SR.call HS.out HB45.out HS.out.lt)
        go_wp2_with fail
        have ho9 := own_congr HO45.out (show _ = L by simpa [homeL_zero] using HFIN.out.symm)
        obtain ⟨A9, c9, he9, _⟩ := ho9.rd
        rw [show L.length = m from HM.out] at he9
        replace ho9 := ho9.base HB0.out.size
        rw [he9] at ho9
        have HR9 := keepd ho9
        have HE9 := keepd he9
        clear ho9 he9 q0 q1 k0 k1 k2' k3 kt
        go_ret
        exact ⟨⟨A9, c9, congrArg Ending.returned HE9.out, HR9.out⟩, bCall HB0.out HB45.out⟩
  · have ik : (0 : Int) < (k2 : Int) := by omega
    have HKP := keepd hk0
    have ehl := keepd (home_iii HE23.out.symm HE19.out.symm HKP.out)
    clear hk0
    go_wp2_with (at_builtin; refine wpList_app _ rfl (.tmp 48) (.tmp 49) rfl V.heap.size (.slice A4 m1 c4) _ rfl HO37.out _ D37 e21 f37 (kN X 21 k2) rfl HE21.out HR37.out (by have h1 := HLE.out; (try simp only [List.length_append]); omega) ?_ ?_)
    · exact HB37.out.size
    intro v46 w46 ho46 hg46 _
    have HB46 := keepd (app_below HB37.out HO37.out hg46)
    have HO46 := keepd ho46
    clear ho46 hg46
    obtain ⟨q0, q1⟩ := TB.facts (show TB w46 w.heap.size X from SR.call HT.out HB46.out (SR.lt HT.out))
    obtain ⟨k0, k1, k2', k3, _, _, _, _, kt⟩ := st_facts (show SR 32 w46 (w.heap.size + 1) _ from SR.call HS.out HB46.out HS.out.lt)
    go_wp2_with fail
    with_reducible refine (C3.out w46 HB46.out).mono ?_
    rintro e w47 ⟨⟨D47, f47, rfl, hr47⟩, hb47⟩
    have HB47 := keepd (bCall HB46.out hb47)
    have HR47 := keepd hr47
    have HO47 := keepd (HO46.out.below hb47)
    clear hr47 hb47 q0 q1 k0 k1 k2' k3 kt
    go_wp2_with (at_builtin; refine wpList_app _ rfl (.tmp 51) (.tmp 54) rfl V.heap.size v46 _ rfl HO47.out _ D47 m3 f47 y3 rfl HM3.out HR47.out (by have h1 := HLE.out; (try simp only [List.length_append]); omega) ?_ ?_)
    · exact HB47.out.size
    intro v48 w48 ho48 hg48 _
    have HB48 := keepd (app_below HB47.out HO47.out hg48)
    have HO48 := keepd ho48
    clear ho48 hg48
    cases ov
    case false =>
      cases li
      case false =>
        obtain ⟨q0, q1⟩ := TB.facts (show TB w48 w.heap.size X from SR.call HT.out HB48.out (SR.lt HT.out))
        obtain ⟨k0, k1, k2', k3, _, _, _, _, kt⟩ := st_facts (show SR 32 w48 (w.heap.size + 1) _ from SR.call HS.out HB48.out HS.out.lt)
        go_wp2_with fail
        have ho9 := own_congr HO48.out (show _ = L by rw [← ehl.out]; simpa using HFIN.out.symm)
        obtain ⟨A9, c9, he9, _⟩ := ho9.rd
        rw [show L.length = m from HM.out] at he9
        replace ho9 := ho9.base HB0.out.size
        rw [he9] at ho9
        have HR9 := keepd ho9
        have HE9 := keepd he9
        clear ho9 he9 q0 q1 k0 k1 k2' k3 kt
        go_ret
        exact ⟨⟨A9, c9, congrArg Ending.returned HE9.out, HR9.out⟩, bCall HB0.out HB48.out⟩
      case true =>
        obtain ⟨q0, q1⟩ := TB.facts (show TB w48 w.heap.size X from SR.call HT.out HB48.out (SR.lt HT.out))
        obtain ⟨k0, k1, k2', k3, _, _, _, _, kt⟩ := st_facts (show SR 32 w48 (w.heap.size + 1) _ from SR.call HS.out HB48.out HS.out.lt)
        go_wp2_with fail
        with_reducible refine (C14.out _).mono ?_
        rintro e w49 ⟨⟨D49, f49, rfl, hr49⟩, hb49⟩
        have HB49 := keepd (bCall HB48.out hb49)
        have HR49 := keepd hr49
        have HO49 := keepd (HO48.out.below hb49)
        clear hr49 hb49 q0 q1 k0 k1 k2' k3 kt
        go_wp2_with (at_builtin; refine wpList_app _ rfl (.tmp 64) (.tmp 66) rfl V.heap.size v48 _ rfl HO49.out _ D49 e14 f49 (kN X 14 1) rfl HE14.out HR49.out (by have h1 := HLE.out; (try simp only [List.length_append]); omega) ?_ ?_)
        · exact HB49.out.size
        intro v50 w50 ho50 hg50 _
        have HB50 := keepd (app_below HB49.out HO49.out hg50)
        have HO50 := keepd ho50
        clear ho50 hg50
        obtain ⟨q0, q1⟩ := TB.facts (show TB w50 w.heap.size X from SR.call HT.out HB50.out (SR.lt HT.out))
        obtain ⟨k0, k1, k2', k3, _, _, _, _, kt⟩ := st_facts (show SR 32 w50 (w.heap.size + 1) _ from SR.call HS.out HB50.out HS.out.lt)
        go_wp2_with fail
        have ho9 := own_congr HO50.out (show _ = L by rw [← ehl.out]; simpa using HFIN.out.symm)
        obtain ⟨A9, c9, he9, _⟩ := ho9.rd
        rw [show L.length = m from HM.out] at he9
        replace ho9 := ho9.base HB0.out.size
        rw [he9] at ho9
        have HR9 := keepd ho9
        have HE9 := keepd he9
        clear ho9 he9 q0 q1 k0 k1 k2' k3 kt
        go_ret
        exact ⟨⟨A9, c9, congrArg Ending.returned HE9.out, HR9.out⟩, bCall HB0.out HB50.out⟩
    case true =>
      obtain ⟨q0, q1⟩ := TB.facts (show TB w48 w.heap.size X from SR.call HT.out HB48.out (SR.lt HT.out))
      obtain ⟨k0, k1, k2', k3, _, _, _, _, kt⟩ := st_facts (show SR 32 w48 (w.heap.size + 1) _ from SR.call HS.out HB48.out HS.out.lt)
      go_wp2_with fail
      with_reducible refine (C26.out _).mono ?_
      rintro e w51 ⟨⟨D51, f51, rfl, hr51⟩, hb51⟩
      have HB51 := keepd (bCall HB48.out hb51)
      have HR51 := keepd hr51
      have HO51 := keepd (HO48.out.below hb51)
      clear hr51 hb51 q0 q1 k0 k1 k2' k3 kt
      go_wp2_with (at_builtin; refine wpList_app _ rfl (.tmp 58) (.tmp 60) rfl V.heap.size v48 _ rfl HO51.out _ D51 e26 f51 (kN X 26 1) rfl HE26.out HR51.out (by have h1 := HLE.out; (try simp only [List.length_append]); omega) ?_ ?_)
      · exact HB51.out.size
      intro v52 w52 ho52 hg52 _
      have HB52 := keepd (app_below HB51.out HO51.out hg52)
      have HO52 := keepd ho52
      clear ho52 hg52
      cases li
      case false =>
        obtain ⟨q0, q1⟩ := TB.facts (show TB w52 w.heap.size X from SR.call HT.out HB52.out (SR.lt HT.out))
        obtain ⟨k0, k1, k2', k3, _, _, _, _, kt⟩ := st_facts (show SR 32 w52 (w.heap.size + 1) _ from SR.call HS.out HB52.out HS.out.lt)
        go_wp2_with fail
        have ho9 := own_congr HO52.out (show _ = L by rw [← ehl.out]; simpa using HFIN.out.symm)
        obtain ⟨A9, c9, he9, _⟩ := ho9.rd
        rw [show L.length = m from HM.out] at he9
        replace ho9 := ho9.base HB0.out.size
        rw [he9] at ho9
        have HR9 := keepd ho9
        have HE9 := keepd he9
        clear ho9 he9 q0 q1 k0 k1 k2' k3 kt
        go_ret
        exact ⟨⟨A9, c9, congrArg Ending.returned HE9.out, HR9.out⟩, bCall HB0.out HB52.out⟩
      case true =>
        obtain ⟨q0, q1⟩ := TB.facts (show TB w52 w.heap.size X from SR.call HT.out HB52.out (SR.lt HT.out))
        obtain ⟨k0, k1, k2', k3, _, _, _, _, kt⟩ := st_facts (show SR 32 w52 (w.heap.size + 1) _ from SR.call HS.out HB52.out HS.out.lt)
        go_wp2_with fail
        with_reducible refine (C14.out _).mono ?_
        rintro e w53 ⟨⟨D53, f53, rfl, hr53⟩, hb53⟩
        have HB53 := keepd (bCall HB52.out hb53)
        have HR53 := keepd hr53
        have HO53 := keepd (HO52.out.below hb53)
        clear hr53 hb53 q0 q1 k0 k1 k2' k3 kt
        go_wp2_with (at_builtin; refine wpList_app _ rfl (.tmp 64) (.tmp 66) rfl V.heap.size v52 _ rfl HO53.out _ D53 e14 f53 (kN X 14 1) rfl HE14.out HR53.out (by have h1 := HLE.out; (try simp only [List.length_append]); omega) ?_ ?_)
        · exact HB53.out.size
        intro v54 w54 ho54 hg54 _
        have HB54 := keepd (app_below HB53.out HO53.out hg54)
        have HO54 := keepd ho54
        clear ho54 hg54
        obtain ⟨q0, q1⟩ := TB.facts (show TB w54 w.heap.size X from SR.call HT.out HB54.out (SR.lt HT.out))
        obtain ⟨k0, k1, k2', k3, _, _, _, _, kt⟩ := st_facts (show SR 32 w54 (w.heap.size + 1) _ from SR.call HS.out HB54.out HS.out.lt)
        go_wp2_with fail
        have ho9 := own_congr HO54.out (show _ = L by rw [← ehl.out]; simpa using HFIN.out.symm)
        obtain ⟨A9, c9, he9, _⟩ := ho9.rd
        rw [show L.length = m from HM.out] at he9
        replace ho9 := ho9.base HB0.out.size
        rw [he9] at ho9
        have HR9 := keepd ho9
        have HE9 := keepd he9
        clear ho9 he9 q0 q1 k0 k1 k2' k3 kt
        go_ret
        exact ⟨⟨A9, c9, congrArg Ending.returned HE9.out, HR9.out⟩, bCall HB0.out HB54.out⟩

end Go.Proofs.YtlfmbfecajhffaaDoor
