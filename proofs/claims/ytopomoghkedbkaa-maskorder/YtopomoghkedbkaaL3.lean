/-
  The law MaskOrder. No conditions beyond those each theorem states.
-/
import Derived.Test.YtopomoghkedbkaaT7
namespace Go.Proofs.Ytopomoghkedbkaa
open Go.RowKit
set_option maxRecDepth 100000

attribute [local go_sem ↓] ex_ld23 ex_st23 ex_al23 ex_bu23 ex_eq23 ex_ne23 ex_ld45 ex_st45 ex_al45 ex_bu45
attribute [local go_sem] ptrB_at okPtr_at aggC_at agg32 agg256 isM_at eqV_m isRow_new isRow_newr World.setRow_alloc_new

theorem step_appG (w : World) {ops : Array Oper} {o : Oper} {a : Act} {K : Act → World → Prop} {Q : Exit → Act → World → Prop} {E : Prop} (hw : Region.wanted o (yielded ops a.tmps) = true) (s x : Operand)
    (ho : o.op = .call { callee := .builtin .append, args := #[s, x], argTypes := #[26, 26] })
    (base : Nat) (v : Value) (l : List UInt8) (hs : a.eval s = v) (hown : Own w base v l) (B : Nat) (A : Option Addr) (m c : Nat) (l' : List UInt8) (hx : a.eval x = .slice A m c) (hm : m = l'.length) (hr : Rd w B A l' c)
    (hlen : l.length + l'.length ≤ 1000000) (hbase : base ≤ w.heap.size)
    (h : ∀ v' w', Own w' base v' (l ++ l') → w.grownBy w' v.ownBlock → (v'.ownBlock = v.ownBlock ∨ v'.ownBlock = some w.heap.size) → K (a.put o.dst v') w') :
    if Region.wanted o (yielded ops a.tmps) = true then Oper.wp Try.prog o a w K Q else E := by
  rw [if_pos hw]
  exact wp_app w s x ho base v l hs hown B A m c l' hx hm hr hlen hbase h

set_option maxHeartbeats 8000000 in
theorem order_law (A : Option Addr) (l : List UInt8) (c : Nat) (A' : Option Addr) (l' : List UInt8) (c' : Nat) (n : Nat) (hn : n < 256) (w : World) (hr : Rd w w.heap.size A l c) (hr' : Rd w w.heap.size A' l' c') :
    Calls Try.prog 6 #[.slice A l.length c, .slice A' l'.length c', .int .u8 (n : Int)] w fun e w' => e = .returned (.bool true) ∧ Below w.heap.size w w' := by
  have HA := keepd awake_any
  have CF1 := keepd (few_any A l c w w hr)
  have CF2 := keepd (few_any A' l' c' w w hr')
  have la := few_len l
  have lb := few_len l'
  obtain ⟨a, ha⟩ : ∃ a, few l = a := ⟨_, rfl⟩
  obtain ⟨b, hb⟩ : ∃ b, few l' = b := ⟨_, rfl⟩
  rw [ha] at CF1 la
  rw [hb] at CF2 lb
  clear ha hb hr hr'
  obtain ⟨XC, hXC⟩ : ∃ X, ofM (a ++ b) = X := ⟨_, rfl⟩
  obtain ⟨ab, hab⟩ : ∃ x, a ++ b = x := ⟨_, rfl⟩
  have hab4 : ab.length ≤ 400 := by rw [← hab, List.length_append]; omega
  have COc : Hid (∀ A c w, Rd w w.heap.size A ab c → Calls Try.prog 12 #[.slice A ab.length c] w fun e w' => e = .returned (mv XC) ∧ Below w.heap.size w w') := fun A c w h => of_any A _ _ c rfl (by omega) w h XC (by rw [← hab]; exact hXC)
  have HAB := keepd hab
  clear hab
  go_enter Try.func6, Try.ntmps6
  go_upto_region 2 with (first | ((with_reducible refine CF1.out.mono ?_); rintro e w ⟨⟨c1, rfl, hr1⟩, rfl⟩) | ((with_reducible refine CF2.out.mono ?_); rintro e w ⟨⟨c2, rfl, hr2⟩, rfl⟩))
  have HR1 := keepd hr1
  have HR2 := keepd hr2
  clear CF1 CF2 hr1 hr2
  go_wp2_with fail
  go_loopw [7, 8, 9] (fun vp vt vi wy => ∃ (k : Nat) (z : Int) (T : List UInt8) (Av : Option Addr) (cv : Nat), k ≤ b.length ∧ vi = .int .i64 z ∧ vp = .bool (memB T n) ∧ vt = .slice Av T.length cv ∧ Hid (z + 1 = k) ∧ Hid (T = ([] : List UInt8) ++ (b.drop k).reverse) ∧ Hid (Own wy w.heap.size (.slice Av T.length cv) T) ∧ Hid (Below w.heap.size w wy)) (fun _ _ vi _ => (intOf vi + 1).toNat)
  case atStart => exact ⟨b.length, (b.length : Int) - 1, [], none, 0, Nat.le_refl _, rfl, rfl, rfl, (show (b.length : Int) - 1 + 1 = b.length by omega), (show [] = [] ++ (b.drop b.length).reverse by simp), Own.nil _ _, Below.refl _ _⟩
  case round =>
    obtain ⟨k, z, T, Av, cv, hk, rfl, rfl, rfl, HZ, HT, HO, HB⟩ := hrel
    have hT400 : T.length ≤ 400 := by
      have := HT.out
      have := congrArg List.length this
      simp at this
      omega
    by_cases h0 : 0 ≤ z
    · obtain ⟨j, rfl⟩ : ∃ j : Nat, z = j := ⟨z.toNat, by omega⟩
      have hkj : k = j + 1 := by
        have := HZ.out
        omega
      have hjx : j < b.length := by omega
      obtain ⟨b', off', hA', hbl, hce⟩ := (HR2.out.at_ HB.out).form hjx
      subst hA'
      have HS : Hid (T ++ [b[j]] = ([] : List UInt8) ++ (b.drop j).reverse) := by
        show _ = _
        rw [HT.out, hkj, List.drop_eq_getElem_cons hjx, List.reverse_cons, List.append_assoc]
      have HM : Hid (memB (T ++ [b[j]]) n = (memB T n || (b[j].toNat == n))) := by
        show _ = _
        rw [memB_append, memB_one]
      have hu256 := UInt8.toNat_lt b[j]
      obtain ⟨u, hu⟩ : ∃ u, b[j] = u := ⟨_, rfl⟩
      have HU := keepd hu
      rw [hu] at hce HS HM hu256
      have gz : decide ((0 : Int) ≤ (j : Int)) = true := decide_eq_true h0
      have i2 : (j : Int) < (b.length : Int) := by omega
      have HKJ := keepd hkj
      have HJX := keepd hjx
      obtain ⟨p, hp⟩ : ∃ p, memB T n = p := ⟨_, rfl⟩
      rw [hp] at HM ⊢
      clear hu hp HT HZ hkj
      have HB2 := keepd (bAlloc HB.out (.cells #[.int .u8 (u.toNat : Int)] 5))
      have HO2 := keepd (HO.out.alloc (.cells #[.int .u8 (u.toNat : Int)] 5))
      have HRu := keepd (one_rdb wr u)
      have HN2 := keepd HB2.out.size
      clear HO
      go_wp2_with (at_builtin; refine wpList_app _ rfl (.tmp 24) (.tmp 29) rfl w.heap.size _ T rfl HO2.out _ (some ⟨wr.heap.size, 0, none⟩) 1 1 [u] rfl rfl HRu.out ?_ HN2.out ?_)
      · simp
        omega
      intro vb wb ho hg hat
      have hgb := grown_below HO2.out hg HN2.out
      have HB3 := keepd (HB2.out.trans hgb)
      obtain ⟨Bv, dv, rfl, _⟩ := ho.rd
      have HO3 := keepd ho
      obtain ⟨b'', off'', hA2, hbl2, hce2⟩ := (HR2.out.at_ HB3.out).form HJX.out
      obtain ⟨e1, e2⟩ : b'' = b' ∧ off'' = off' := by
        injection hA2 with hA2
        injection hA2 with e1 e2
        exact ⟨e1.symm, e2.symm⟩
      rw [e1, e2] at hce2
      have hce3 : wb.cell? ⟨b', off' + j, none⟩ = some (.int .u8 (u.toNat : Int)) := by
        rw [hce2, HU.out]
      clear ho hg hat hgb HB2 HO2 HRu HN2 hbl hbl2 hA2 e1 e2 hce hce2
      obtain ⟨T2, hT2⟩ : ∃ x, T ++ [u] = x := ⟨_, rfl⟩
      rw [hT2] at HO3 HS HM ⊢
      cases p
      · obtain ⟨v, hv⟩ : ∃ v, u.toNat = v := ⟨_, rfl⟩
        rw [hv] at hce3 HM
        by_cases huv : v = n
        · have hM : memB T2 n = true := by rw [HM.out, huv]; simp
          have gu : ((v : Int) == (n : Int)) = true := by rw [huv]; simp
          clear hv HM huv hT2
          go_wp2_with fail
          go_roundw
          case rel => exact ⟨j, (j : Int) - 1, T2, Bv, dv, by omega, by go_num, by rw [hM], rfl, (show (j : Int) - 1 + 1 = j by omega), HS, HO3, HB3⟩
          case measure => simp [intOf] <;> omega
        · have hM : memB T2 n = false := by rw [HM.out]; simpa using huv
          have gu : ((v : Int) == (n : Int)) = false := by simp; omega
          clear hv HM huv hT2
          go_wp2_with fail
          go_roundw
          case rel => exact ⟨j, (j : Int) - 1, T2, Bv, dv, by omega, by go_num, by rw [hM], rfl, (show (j : Int) - 1 + 1 = j by omega), HS, HO3, HB3⟩
          case measure => simp [intOf] <;> omega
      · have hM : memB T2 n = true := by rw [HM.out, Bool.true_or]
        clear HM hT2
        go_wp2_with fail
        go_roundw
        case rel => exact ⟨j, (j : Int) - 1, T2, Bv, dv, by omega, by go_num, by rw [hM], rfl, (show (j : Int) - 1 + 1 = j by omega), HS, HO3, HB3⟩
        case measure => simp [intOf] <;> omega
    · have gz : decide ((0 : Int) ≤ z) = false := decide_eq_false h0
      have hk0 : k = 0 := by
        have := HZ.out
        omega
      have hT : T = ([] : List UInt8) ++ b.reverse := by
        rw [HT.out, hk0, List.drop_zero]
      clear h0 HZ HT hk hk0
      obtain ⟨wp, rfl⟩ : ∃ v, v = wr := ⟨_, rfl⟩
      rw [List.nil_append] at hT
      subst hT
      obtain ⟨R, hR⟩ : ∃ x, b.reverse = x := ⟨_, rfl⟩
      have hRl : R.length ≤ 200 := by rw [← hR, List.length_reverse]; exact lb
      rw [hR] at HO ⊢
      go_wp2_with fail
      go_loopw [7, 8, 10] (fun vp vt vi wy => ∃ (k : Nat) (z : Int) (T : List UInt8) (Av : Option Addr) (cv : Nat), k ≤ a.length ∧ vi = .int .i64 z ∧ vp = .bool (memB T n) ∧ vt = .slice Av T.length cv ∧ Hid (z + 1 = k) ∧ Hid (T = R ++ (a.drop k).reverse) ∧ Hid (Own wy w.heap.size (.slice Av T.length cv) T) ∧ Hid (Below w.heap.size w wy)) (fun _ _ vi _ => (intOf vi + 1).toNat)
      case atStart => exact ⟨a.length, (a.length : Int) - 1, R, Av, cv, Nat.le_refl _, rfl, rfl, rfl, (show (a.length : Int) - 1 + 1 = a.length by omega), (show R = R ++ (a.drop a.length).reverse by simp), HO, HB⟩
      case round =>
        obtain ⟨k, z, T, Av, cv, hk, rfl, rfl, rfl, HZ, HT, HO, HB⟩ := hrel
        have hT400 : T.length ≤ 400 := by
          have := HT.out
          have := congrArg List.length this
          simp at this
          omega
        by_cases h0 : 0 ≤ z
        · obtain ⟨j, rfl⟩ : ∃ j : Nat, z = j := ⟨z.toNat, by omega⟩
          have hkj : k = j + 1 := by
            have := HZ.out
            omega
          have hjx : j < a.length := by omega
          obtain ⟨b', off', hA', hbl, hce⟩ := (HR1.out.at_ HB.out).form hjx
          subst hA'
          have HS : Hid (T ++ [a[j]] = R ++ (a.drop j).reverse) := by
            show _ = _
            rw [HT.out, hkj, List.drop_eq_getElem_cons hjx, List.reverse_cons, List.append_assoc]
          have HM : Hid (memB (T ++ [a[j]]) n = (memB T n || (a[j].toNat == n))) := by
            show _ = _
            rw [memB_append, memB_one]
          have hu256 := UInt8.toNat_lt a[j]
          obtain ⟨u, hu⟩ : ∃ u, a[j] = u := ⟨_, rfl⟩
          have HU := keepd hu
          rw [hu] at hce HS HM hu256
          have gz : decide ((0 : Int) ≤ (j : Int)) = true := decide_eq_true h0
          have i2 : (j : Int) < (a.length : Int) := by omega
          have HKJ := keepd hkj
          have HJX := keepd hjx
          obtain ⟨p, hp⟩ : ∃ p, memB T n = p := ⟨_, rfl⟩
          rw [hp] at HM ⊢
          clear hu hp HT HZ hkj
          have HB2 := keepd (bAlloc HB.out (.cells #[.int .u8 (u.toNat : Int)] 5))
          have HO2 := keepd (HO.out.alloc (.cells #[.int .u8 (u.toNat : Int)] 5))
          have HRu := keepd (one_rdb wr u)
          have HN2 := keepd HB2.out.size
          clear HO
          go_wp2_with (at_builtin; refine wpList_app _ rfl (.tmp 47) (.tmp 52) rfl w.heap.size _ T rfl HO2.out _ (some ⟨wr.heap.size, 0, none⟩) 1 1 [u] rfl rfl HRu.out ?_ HN2.out ?_)
          · simp
            omega
          intro vb wb ho hg hat
          have hgb := grown_below HO2.out hg HN2.out
          have HB3 := keepd (HB2.out.trans hgb)
          obtain ⟨Bv, dv, rfl, _⟩ := ho.rd
          have HO3 := keepd ho
          obtain ⟨b'', off'', hA2, hbl2, hce2⟩ := (HR1.out.at_ HB3.out).form HJX.out
          obtain ⟨e1, e2⟩ : b'' = b' ∧ off'' = off' := by
            injection hA2 with hA2
            injection hA2 with e1 e2
            exact ⟨e1.symm, e2.symm⟩
          rw [e1, e2] at hce2
          have hce3 : wb.cell? ⟨b', off' + j, none⟩ = some (.int .u8 (u.toNat : Int)) := by
            rw [hce2, HU.out]
          clear ho hg hat hgb HB2 HO2 HRu HN2 hbl hbl2 hA2 e1 e2 hce hce2
          obtain ⟨T2, hT2⟩ : ∃ x, T ++ [u] = x := ⟨_, rfl⟩
          rw [hT2] at HO3 HS HM ⊢
          cases p
          · obtain ⟨v, hv⟩ : ∃ v, u.toNat = v := ⟨_, rfl⟩
            rw [hv] at hce3 HM
            by_cases huv : v = n
            · have hM : memB T2 n = true := by rw [HM.out, huv]; simp
              have gu : ((v : Int) == (n : Int)) = true := by rw [huv]; simp
              clear hv HM huv hT2
              go_wp2_with fail
              go_roundw
              case rel => exact ⟨j, (j : Int) - 1, T2, Bv, dv, by omega, by go_num, by rw [hM], rfl, (show (j : Int) - 1 + 1 = j by omega), HS, HO3, HB3⟩
              case measure => simp [intOf] <;> omega
            · have hM : memB T2 n = false := by rw [HM.out]; simpa using huv
              have gu : ((v : Int) == (n : Int)) = false := by simp; omega
              clear hv HM huv hT2
              go_wp2_with fail
              go_roundw
              case rel => exact ⟨j, (j : Int) - 1, T2, Bv, dv, by omega, by go_num, by rw [hM], rfl, (show (j : Int) - 1 + 1 = j by omega), HS, HO3, HB3⟩
              case measure => simp [intOf] <;> omega
          · have hM : memB T2 n = true := by rw [HM.out, Bool.true_or]
            clear HM hT2
            go_wp2_with fail
            go_roundw
            case rel => exact ⟨j, (j : Int) - 1, T2, Bv, dv, by omega, by go_num, by rw [hM], rfl, (show (j : Int) - 1 + 1 = j by omega), HS, HO3, HB3⟩
            case measure => simp [intOf] <;> omega
        · have gz : decide ((0 : Int) ≤ z) = false := decide_eq_false h0
          have hk0 : k = 0 := by
            have := HZ.out
            omega
          have hT : T = R ++ a.reverse := by
            rw [HT.out, hk0, List.drop_zero]
          clear h0 HZ HT hk hk0
          obtain ⟨wz, rfl⟩ : ∃ v, v = wr := ⟨_, rfl⟩
          have e1 : ofM T = XC := by rw [← hXC]; exact ofM_eq fun q => by rw [hT, ← hR, memB_append, memB_append, memB_reverse, memB_reverse, Bool.or_comm]
          have e2 : ofM (T ++ ab) = XC := by
            rw [← e1]
            refine ofM_eq fun q => ?_
            have h1 : memB ab q = memB T q := by rw [hT, ← HAB.out, ← hR, memB_append, memB_append, memB_reverse, memB_reverse, Bool.or_comm]
            rw [memB_append, h1, Bool.or_self]
          have e3 : has XC n = memB T n := by rw [← e1, has_ofM hn]
          have COT : Hid (∀ A c w, Rd w w.heap.size A T c → Calls Try.prog 12 #[.slice A T.length c] w fun e w' => e = .returned (mv XC) ∧ Below w.heap.size w w') := fun A c w h => of_any A _ _ c rfl (by omega) w h XC e1
          obtain ⟨TC, hTC⟩ : ∃ x, T ++ ab = x := ⟨_, rfl⟩
          have COTC : Hid (∀ A c w, Rd w w.heap.size A TC c → Calls Try.prog 12 #[.slice A TC.length c] w fun e w' => e = .returned (mv XC) ∧ Below w.heap.size w w') := fun A c w h => of_any A _ _ c rfl (by rw [← hTC, List.length_append]; omega) w h XC (by rw [← hTC]; exact e2)
          have HTC := keepd hTC
          obtain ⟨r, hr⟩ : ∃ r, memB T n = r := ⟨_, rfl⟩
          rw [hr] at e3 ⊢
          have CH := keepd (has_any XC n hn r e3)
          obtain ⟨base, hbase⟩ : ∃ x, w.heap.size = x := ⟨_, rfl⟩
          have HBase : Hid (w.heap.size ≤ base) := by
            show _ ≤ _
            omega
          have HBz : Hid (base ≤ wz.heap.size) := by
            show _ ≤ _
            rw [← hbase]
            exact HB.out.size
          rw [hbase] at HO
          clear hT e1 e2 e3 hTC hr hR hXC hbase
          have HR1V := keepd (HR1.out.at_ HB.out)
          have HR2V := keepd (HR2.out.at_ HB.out)
          have HO0 := keepd (empty_own wz wz.heap.size (Nat.le_refl _))
          have HZ0 := keepd (bAlloc (Below.refl wz.heap.size wz) (.cells #[] 5))
          have HS0 := keepd HZ0.out.size
          have HR1A := keepd (HR1V.out.at_ HZ0.out)
          go_wp2_with (at_builtin; refine wpList_app _ rfl (.tmp 63) (.tmp 64) rfl wz.heap.size _ [] rfl HO0.out _ A a.length c1 a rfl rfl HR1A.out ?_ HS0.out ?_)
          · simp
            omega
          intro va wa ho hg hat
          have hgb := grown_below HO0.out hg HS0.out
          have HZ1 := keepd (HZ0.out.trans hgb)
          try rw [List.nil_append] at ho
          obtain ⟨A2, d2, rfl, _⟩ := ho.rd
          have HO1 := keepd ho
          have HS1 := keepd HZ1.out.size
          have HR2A := keepd (HR2V.out.at_ HZ1.out)
          clear ho hg hat hgb HO0 HZ0 HS0 HR1A
          go_wp2_with (at_builtin; refine wpList_app _ rfl (.tmp 65) (.tmp 66) rfl wz.heap.size _ a rfl HO1.out _ A' b.length c2 b rfl rfl HR2A.out ?_ HS1.out ?_)
          · omega
          intro va wb ho hg hat
          have hgb := grown_below HO1.out hg HS1.out
          have HZ2 := keepd (HZ1.out.trans hgb)
          rw [HAB.out] at ho
          obtain ⟨AC, cC, rfl, hr3⟩ := ho.rd
          have HR3 := keepd hr3
          clear ho hg hat hgb HO1 HZ1 HS1 HR2A hr3
          go_upto_region 16 with ((with_reducible refine (COc.out _ _ _ HR3.out).mono ?_); rintro e w4 ⟨rfl, hb4⟩)
          obtain ⟨V4, hV⟩ : ∃ V, w4.alloc (.cells (ms XC).toArray 23) = V := ⟨_, rfl⟩
          obtain ⟨m12, q12⟩ := new_m _ _ _ hV
          rw [hV]
          have hbV2 := bCall hb4 q12
          have hbV := bCall HZ2.out hbV2
          have HB4 := keepd (bCall HB.out hbV)
          have HOT := keepd (HO.out.below hbV)
          have HRC := keepd (HR3.out.at_ hbV2)
          have HN := keepd (Nat.le_trans HBz.out hbV.size)
          have HOlt : Hid (∀ k, (Value.slice Av T.length cv).ownBlock = some k → k < w4.heap.size) := fun k hk => Nat.lt_of_lt_of_le (HO.out.ge k hk).2 (bCall HZ2.out hb4).size
          have M12 := keepd m12
          obtain ⟨b12, hp⟩ : ∃ b, w4.heap.size = b := ⟨_, rfl⟩
          rw [hp] at M12 HOlt ⊢
          clear hp hV m12 q12 hbV hbV2 hb4 HZ2 HR3 HB HR1V HR2V HO HBz COc
          have HRT := keepd HOT.out.rdOf
          have HB := HB4
          clear HB4
          obtain ⟨AT, hAT⟩ : ∃ x, Av = x := ⟨_, rfl⟩
          obtain ⟨cT, hcT⟩ : ∃ x, cv = x := ⟨_, rfl⟩
          rw [hAT, hcT] at HOT HRT HOlt ⊢
          clear hAT hcT
          refine wp_region_held_drew (S := fun V => rowOf V b12 = (ms XC).toArray ∧ isRow V 23 b12 32 = true) (by kernel_rfl) (MB.facts M12.out) (fun hHeld => ?_)
          refine wpAnyH_take (i := 0) (oi := { dst := some 70, op := Op.load 23 (Operand.tmp 12), type := 23, pos := "law.go:82", after := #[], guard := none }) (v := mv XC) rfl (by kernel_rfl) (by kernel_rfl) (by kernel_rfl) (fun _ _ _ h => h) (Or.inl ⟨by rfl, fun W hW => ?_⟩) hHeld ?_
          · obtain ⟨q1, q2⟩ := hW
            go_simp
          simp only [Act.put, List.setIfInBounds_toArray, List.set_cons_zero, List.set_cons_succ]
          refine wpAnyH_take (i := 1) (oi := { dst := some 71, op := Op.move (Operand.tmp 8), type := 26, pos := "law.go:82", after := #[], guard := none }) (v := .slice AT T.length cT) rfl (by kernel_rfl) (by kernel_rfl) (by kernel_rfl) (fun _ _ _ h => h) (Or.inl ⟨by rfl, fun W hW => ?_⟩) hHeld ?_
          · obtain ⟨q1, q2⟩ := hW
            go_simp
          simp only [Act.put, List.setIfInBounds_toArray, List.set_cons_zero, List.set_cons_succ]
          refine wpAnyH_ready (rs := [2]) (by kernel_rfl) (by simp) ?_
          refine AllReadyH.cons (o := { dst := some 72, op := Op.call { callee := Callee.value (Operand.func 12), args := #[Operand.tmp 71], argTypes := #[26] }, type := 23, pos := "law.go:82", after := #[{ on := 1, ground := Ground.data }], guard := none }) rfl (fun K hK => ?_) AllReadyH.nil
          go_simp
          have HRTd : Rd V4.drew V4.drew.heap.size AT T cT := HRT.out
          (with_reducible refine (COT.out AT cT _ HRTd).mono ?_)
          rintro e w6 ⟨rfl, hb⟩
          have z1 := noDrew hb
          have M1 := keepd (SR.call M12.out z1 (SR.lt M12.out))
          have HB1 := keepd (bCall HB.out z1)
          have HO1 := keepd (HOT.out.below z1)
          have HRC1 := keepd (HRC.out.at_ z1)
          have HN1 := keepd (Nat.le_trans HN.out z1.size)
          clear hb z1 M12 HB HOT HRT HRTd
          go_wp2_with fail
          refine hK.out _ _ (MB.facts M1.out) (fun hHeld2 => ?_)
          clear hK K hHeld
          have hHeld := hHeld2
          clear hHeld2
          try simp only [Act.put, List.setIfInBounds_toArray, List.set_cons_zero, List.set_cons_succ]
          refine wpAnyH_take (i := 3) (oi := { dst := some 73, op := Op.binOp BinOp.eql 23 (Operand.tmp 70) (Operand.tmp 72) 23, type := 4, pos := "law.go:82", after := #[{ on := 0, ground := Ground.data }, { on := 2, ground := Ground.data }], guard := none }) (v := .bool true) rfl (by kernel_rfl) (by kernel_rfl) (by kernel_rfl) (fun _ _ _ h => h) (Or.inl ⟨by rfl, fun W hW => ?_⟩) hHeld ?_
          · obtain ⟨q1, q2⟩ := hW
            go_simp
          simp only [Act.put, List.setIfInBounds_toArray, List.set_cons_zero, List.set_cons_succ]
          refine wpAnyH_take (i := 4) (oi := { dst := some 74, op := Op.move (Operand.tmp 73), type := 4, pos := "law.go:82", after := #[{ on := 3, ground := Ground.data }, { on := 2, ground := Ground.chain }], guard := none }) (v := .bool true) rfl (by kernel_rfl) (by kernel_rfl) (by kernel_rfl) (fun _ _ _ h => h) (Or.inl ⟨by rfl, fun W hW => ?_⟩) hHeld ?_
          · obtain ⟨q1, q2⟩ := hW
            go_simp
          simp only [Act.put, List.setIfInBounds_toArray, List.set_cons_zero, List.set_cons_succ]
          refine wpAnyH_take (i := 5) (oi := { dst := some 75, op := Op.load 23 (Operand.tmp 12), type := 23, pos := "law.go:82", after := #[{ on := 4, ground := Ground.guard }], guard := some (4, true) }) (v := mv XC) rfl (by kernel_rfl) (by kernel_rfl) (by kernel_rfl) (fun _ _ _ h => h) (Or.inl ⟨by rfl, fun W hW => ?_⟩) hHeld ?_
          · obtain ⟨q1, q2⟩ := hW
            go_simp
          simp only [Act.put, List.setIfInBounds_toArray, List.set_cons_zero, List.set_cons_succ]
          refine wpAnyH_take (i := 6) (oi := { dst := some 76, op := Op.move (Operand.tmp 8), type := 26, pos := "law.go:82", after := #[{ on := 4, ground := Ground.guard }], guard := some (4, true) }) (v := .slice AT T.length cT) rfl (by kernel_rfl) (by kernel_rfl) (by kernel_rfl) (fun _ _ _ h => h) (Or.inl ⟨by rfl, fun W hW => ?_⟩) hHeld ?_
          · obtain ⟨q1, q2⟩ := hW
            go_simp
          simp only [Act.put, List.setIfInBounds_toArray, List.set_cons_zero, List.set_cons_succ]
          refine wpAnyH_take (i := 7) (oi := { dst := some 77, op := Op.move (Operand.tmp 11), type := 26, pos := "law.go:82", after := #[{ on := 4, ground := Ground.guard }], guard := some (4, true) }) (v := .slice AC ab.length cC) rfl (by kernel_rfl) (by kernel_rfl) (by kernel_rfl) (fun _ _ _ h => h) (Or.inl ⟨by rfl, fun W hW => ?_⟩) hHeld ?_
          · obtain ⟨q1, q2⟩ := hW
            go_simp
          simp only [Act.put, List.setIfInBounds_toArray, List.set_cons_zero, List.set_cons_succ]
          refine wpAnyH_ready (rs := [8]) (by kernel_rfl) (by simp) ?_
          refine AllReadyH.cons (o := { dst := some 78, op := Op.call { callee := Callee.builtin Builtin.append, args := #[Operand.tmp 76, Operand.tmp 77], argTypes := #[26, 26] }, type := 26, pos := "law.go:82", after := #[{ on := 6, ground := Ground.data }, { on := 7, ground := Ground.data }, { on := 4, ground := Ground.chain }, { on := 4, ground := Ground.guard }], guard := some (4, true) }) rfl (fun K hK => ?_) AllReadyH.nil
          refine step_appG _ (by rfl) (.tmp 76) (.tmp 77) rfl base _ T rfl HO1.out _ AC ab.length cC ab rfl rfl HRC1.out ?_ HN1.out ?_
          · omega
          intro vt wt ho hg hat
          have hgb := grown_below HO1.out hg HN1.out
          have HB2 := keepd (HB1.out.trans (hgb.mono HBase.out))
          have hne : some b12 ≠ Value.ownBlock (.slice AT T.length cT) := fun e => by
            have := HOlt.out _ e.symm
            omega
          have M2 := keepd ((hg.block b12 (SR.lt M1.out) hne).trans M1.out)
          rw [HTC.out] at ho
          obtain ⟨A3, d3, rfl, hr3⟩ := ho.rd
          have HR3 := keepd hr3
          clear ho hg hat hgb hne HO1 HRC1 HN1 HB1 M1
          refine hK.out _ _ (MB.facts (X := XC) M2.out) (fun hHeld2 => ?_)
          clear hK K hHeld
          have hHeld := hHeld2
          clear hHeld2
          try simp only [Act.put, List.setIfInBounds_toArray, List.set_cons_zero, List.set_cons_succ]
          refine wpAnyH_ready (rs := [9]) (by kernel_rfl) (by simp) ?_
          refine AllReadyH.cons (o := { dst := some 79, op := Op.call { callee := Callee.value (Operand.func 12), args := #[Operand.tmp 78], argTypes := #[26] }, type := 23, pos := "law.go:82", after := #[{ on := 8, ground := Ground.data }, { on := 8, ground := Ground.chain }, { on := 4, ground := Ground.guard }], guard := some (4, true) }) rfl (fun K hK => ?_) AllReadyH.nil
          go_simp
          (with_reducible refine (COTC.out A3 d3 _ HR3.out).mono ?_)
          rintro e w9 ⟨rfl, hb⟩
          have M3 := keepd (SR.call (t := 23) (cs := ms XC) M2.out hb (SR.lt (t := 23) (cs := ms XC) M2.out))
          have HB3 := keepd (bCall HB2.out hb)
          clear hb M2 HB2 HR3
          go_wp2_with fail
          refine hK.out _ _ (MB.facts M3.out) (fun hHeld2 => ?_)
          clear hK K hHeld
          have hHeld := hHeld2
          clear hHeld2
          try simp only [Act.put, List.setIfInBounds_toArray, List.set_cons_zero, List.set_cons_succ]
          refine wpAnyH_take (i := 10) (oi := { dst := some 80, op := Op.binOp BinOp.eql 23 (Operand.tmp 75) (Operand.tmp 79) 23, type := 4, pos := "law.go:82", after := #[{ on := 5, ground := Ground.data }, { on := 9, ground := Ground.data }, { on := 4, ground := Ground.guard }], guard := some (4, true) }) (v := .bool true) rfl (by kernel_rfl) (by kernel_rfl) (by kernel_rfl) (fun _ _ _ h => h) (Or.inl ⟨by rfl, fun W hW => ?_⟩) hHeld ?_
          · obtain ⟨q1, q2⟩ := hW
            go_simp
          simp only [Act.put, List.setIfInBounds_toArray, List.set_cons_zero, List.set_cons_succ]
          refine wpAnyH_take (i := 11) (oi := { dst := some 81, op := Op.pick (Operand.tmp 74) (Operand.tmp 80) (Operand.const (Value.bool false)), type := 4, pos := "law.go:82", after := #[{ on := 4, ground := Ground.data }, { on := 10, ground := Ground.data }], guard := none }) (v := .bool true) rfl (by kernel_rfl) (by kernel_rfl) (by kernel_rfl) (fun _ _ _ h => h) (Or.inl ⟨by rfl, fun W hW => ?_⟩) hHeld ?_
          · obtain ⟨q1, q2⟩ := hW
            go_simp
          simp only [Act.put, List.setIfInBounds_toArray, List.set_cons_zero, List.set_cons_succ]
          refine wpAnyH_take (i := 12) (oi := { dst := some 82, op := Op.move (Operand.tmp 81), type := 4, pos := "law.go:82", after := #[{ on := 11, ground := Ground.data }, { on := 9, ground := Ground.chain }], guard := none }) (v := .bool true) rfl (by kernel_rfl) (by kernel_rfl) (by kernel_rfl) (fun _ _ _ h => h) (Or.inl ⟨by rfl, fun W hW => ?_⟩) hHeld ?_
          · obtain ⟨q1, q2⟩ := hW
            go_simp
          simp only [Act.put, List.setIfInBounds_toArray, List.set_cons_zero, List.set_cons_succ]
          refine wpAnyH_take (i := 13) (oi := { dst := some 83, op := Op.load 23 (Operand.tmp 12), type := 23, pos := "law.go:82", after := #[{ on := 12, ground := Ground.guard }], guard := some (12, true) }) (v := mv XC) rfl (by kernel_rfl) (by kernel_rfl) (by kernel_rfl) (fun _ _ _ h => h) (Or.inl ⟨by rfl, fun W hW => ?_⟩) hHeld ?_
          · obtain ⟨q1, q2⟩ := hW
            go_simp
          simp only [Act.put, List.setIfInBounds_toArray, List.set_cons_zero, List.set_cons_succ]
          refine wpAnyH_take (i := 14) (oi := { dst := some 84, op := Op.move (Operand.tmp 2), type := 5, pos := "law.go:82", after := #[{ on := 12, ground := Ground.guard }], guard := some (12, true) }) (v := .int .u8 (n : Int)) rfl (by kernel_rfl) (by kernel_rfl) (by kernel_rfl) (fun _ _ _ h => h) (Or.inl ⟨by rfl, fun W hW => ?_⟩) hHeld ?_
          · obtain ⟨q1, q2⟩ := hW
            go_simp
          simp only [Act.put, List.setIfInBounds_toArray, List.set_cons_zero, List.set_cons_succ]
          refine wpAnyH_take (i := 16) (oi := { dst := some 86, op := Op.move (Operand.tmp 7), type := 4, pos := "law.go:82", after := #[{ on := 12, ground := Ground.guard }], guard := some (12, true) }) (v := .bool r) rfl (by kernel_rfl) (by kernel_rfl) (by kernel_rfl) (fun _ _ _ h => h) (Or.inl ⟨by rfl, fun W hW => ?_⟩) hHeld ?_
          · obtain ⟨q1, q2⟩ := hW
            go_simp
          simp only [Act.put, List.setIfInBounds_toArray, List.set_cons_zero, List.set_cons_succ]
          refine wpAnyH_ready (rs := [15]) (by kernel_rfl) (by simp) ?_
          refine AllReadyH.cons (o := { dst := some 85, op := Op.call { callee := Callee.value (Operand.func 14), args := #[Operand.tmp 83, Operand.tmp 84], argTypes := #[23, 5] }, type := 4, pos := "law.go:82", after := #[{ on := 13, ground := Ground.data }, { on := 14, ground := Ground.data }, { on := 12, ground := Ground.chain }, { on := 12, ground := Ground.guard }], guard := some (12, true) }) rfl (fun K hK => ?_) AllReadyH.nil
          go_simp
          (with_reducible refine (CH.out _).mono ?_)
          rintro e w10 ⟨rfl, hb⟩
          have M4 := keepd (SR.call M3.out hb (SR.lt M3.out))
          have HB4 := keepd (bCall HB3.out hb)
          clear hb M3 HB3
          go_wp2_with fail
          refine hK.out _ _ (MB.facts M4.out) (fun hHeld2 => ?_)
          clear hK K hHeld
          have hHeld := hHeld2
          clear hHeld2
          try simp only [Act.put, List.setIfInBounds_toArray, List.set_cons_zero, List.set_cons_succ]
          refine wpAnyH_take (i := 17) (oi := { dst := some 87, op := Op.binOp BinOp.eql 4 (Operand.tmp 85) (Operand.tmp 86) 4, type := 4, pos := "law.go:82", after := #[{ on := 15, ground := Ground.data }, { on := 16, ground := Ground.data }, { on := 12, ground := Ground.guard }], guard := some (12, true) }) (v := .bool true) rfl (by kernel_rfl) (by kernel_rfl) (by kernel_rfl) (fun _ _ _ h => h) (Or.inl ⟨by rfl, fun W hW => ?_⟩) hHeld ?_
          · obtain ⟨q1, q2⟩ := hW
            go_simp
          simp only [Act.put, List.setIfInBounds_toArray, List.set_cons_zero, List.set_cons_succ]
          refine wpAnyH_take (i := 18) (oi := { dst := some 88, op := Op.pick (Operand.tmp 82) (Operand.tmp 87) (Operand.const (Value.bool false)), type := 4, pos := "law.go:82", after := #[{ on := 12, ground := Ground.data }, { on := 17, ground := Ground.data }], guard := none }) (v := .bool true) rfl (by kernel_rfl) (by kernel_rfl) (by kernel_rfl) (fun _ _ _ h => h) (Or.inl ⟨by rfl, fun W hW => ?_⟩) hHeld ?_
          · obtain ⟨q1, q2⟩ := hW
            go_simp
          simp only [Act.put, List.setIfInBounds_toArray, List.set_cons_zero, List.set_cons_succ]
          refine wpAnyH_take (i := 19) (oi := { dst := some 89, op := Op.move (Operand.tmp 88), type := 4, pos := "law.go:82", after := #[{ on := 18, ground := Ground.data }, { on := 15, ground := Ground.chain }], guard := none }) (v := .bool true) rfl (by kernel_rfl) (by kernel_rfl) (by kernel_rfl) (fun _ _ _ h => h) (Or.inl ⟨by rfl, fun W hW => ?_⟩) hHeld ?_
          · obtain ⟨q1, q2⟩ := hW
            go_simp
          simp only [Act.put, List.setIfInBounds_toArray, List.set_cons_zero, List.set_cons_succ]
          refine wpAnyH_ready (rs := [20]) (by kernel_rfl) (by simp) ?_
          refine AllReadyH.cons (o := { dst := some 90, op := Op.call { callee := Callee.value (Operand.func 23), args := #[], argTypes := #[] }, type := 4, pos := "law.go:82", after := #[{ on := 19, ground := Ground.chain }, { on := 19, ground := Ground.guard }], guard := some (19, true) }) rfl (fun K hK => ?_) AllReadyH.nil
          go_simp
          (with_reducible refine (HA.out _).mono ?_)
          rintro e w11 ⟨rfl, hb⟩
          have M5 := keepd (SR.call M4.out hb (SR.lt M4.out))
          have HB5 := keepd (bCall HB4.out hb)
          clear hb M4 HB4
          go_wp2_with fail
          refine hK.out _ _ (MB.facts M5.out) (fun hHeld2 => ?_)
          clear hK K hHeld
          have hHeld := hHeld2
          clear hHeld2
          try simp only [Act.put, List.setIfInBounds_toArray, List.set_cons_zero, List.set_cons_succ]
          refine wpAnyH_take (i := 21) (oi := { dst := some 91, op := Op.pick (Operand.tmp 89) (Operand.tmp 90) (Operand.const (Value.bool false)), type := 4, pos := "law.go:82", after := #[{ on := 19, ground := Ground.data }, { on := 20, ground := Ground.data }], guard := none }) (v := .bool true) rfl (by kernel_rfl) (by kernel_rfl) (by kernel_rfl) (fun _ _ _ h => h) (Or.inl ⟨by rfl, fun W hW => ?_⟩) hHeld ?_
          · obtain ⟨q1, q2⟩ := hW
            go_simp
          simp only [Act.put, List.setIfInBounds_toArray, List.set_cons_zero, List.set_cons_succ]
          refine wpAnyH_take (i := 22) (oi := { dst := some 6, op := Op.assign (Operand.tmp 91), type := 4, pos := "law.go:82", after := #[{ on := 21, ground := Ground.data }, { on := 20, ground := Ground.chain }, { on := 0, ground := Ground.phase }, { on := 1, ground := Ground.phase }, { on := 2, ground := Ground.phase }, { on := 3, ground := Ground.phase }, { on := 4, ground := Ground.phase }, { on := 5, ground := Ground.phase }, { on := 6, ground := Ground.phase }, { on := 7, ground := Ground.phase }, { on := 8, ground := Ground.phase }, { on := 9, ground := Ground.phase }, { on := 10, ground := Ground.phase }, { on := 11, ground := Ground.phase }, { on := 12, ground := Ground.phase }, { on := 13, ground := Ground.phase }, { on := 14, ground := Ground.phase }, { on := 15, ground := Ground.phase }, { on := 16, ground := Ground.phase }, { on := 17, ground := Ground.phase }, { on := 18, ground := Ground.phase }, { on := 19, ground := Ground.phase }, { on := 20, ground := Ground.phase }, { on := 21, ground := Ground.phase }], guard := none }) (v := .bool true) rfl (by kernel_rfl) (by kernel_rfl) (by kernel_rfl) (fun _ _ _ h => h) (Or.inl ⟨by rfl, fun W hW => ?_⟩) hHeld ?_
          · obtain ⟨q1, q2⟩ := hW
            go_simp
          simp only [Act.put, List.setIfInBounds_toArray, List.set_cons_zero, List.set_cons_succ]
          refine wpAnyH_done (by kernel_rfl) ?_ _
          go_wp2_with fail
          go_returns
          exact ⟨rfl, HB5.out⟩

end Go.Proofs.Ytopomoghkedbkaa
