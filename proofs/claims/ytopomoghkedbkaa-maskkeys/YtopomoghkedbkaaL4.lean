/-
  The law MaskKeys. No conditions beyond those each theorem states.
-/
import Derived.Test.YtopomoghkedbkaaT7
namespace Go.Proofs.Ytopomoghkedbkaa
open Go.RowKit
set_option maxRecDepth 100000

attribute [local go_sem ↓] ex_ld23 ex_st23 ex_al23 ex_bu23 ex_eq23 ex_ne23 ex_ld45 ex_st45 ex_al45 ex_bu45
attribute [local go_sem] ptrB_at okPtr_at aggC_at agg32 agg256 isM_at eqV_m isRow_new isRow_newr World.setRow_alloc_new

theorem cnt_le (X : Mk) (i : Nat) : cnt X i ≤ 8 * i := by
  rw [← cnt_eq]
  exact Nat.le_trans (List.length_filter_le _ _) (by simp)

/-- What the law reads: a mask, a key, the key before it. -/
def SK1 (b1 : Nat) (X : Mk) (bk o : Nat) (u : Nat) (V : World) : Prop := (rowOf V b1 = (ms X).toArray ∧ isRow V 23 b1 32 = true) ∧ V.cell? ⟨bk, o, none⟩ = some (.int .u8 (u : Int))
def SK2 (b1 : Nat) (X : Mk) (bk o : Nat) (u : Nat) (o2 : Nat) (u2 : Nat) (V : World) : Prop := SK1 b1 X bk o u V ∧ V.cell? ⟨bk, o2, none⟩ = some (.int .u8 (u2 : Int))
def Kc (w : World) (bk o u : Nat) : Prop := bk < w.heap.size ∧ w.cell? ⟨bk, o, none⟩ = some (.int .u8 (u : Int))
theorem Kc.call {w V : World} {bk o u : Nat} (h : Kc w bk o u) (hb : Below w.heap.size w V) : Kc V bk o u := ⟨Nat.lt_of_lt_of_le h.1 hb.size, (hb.cell (p := ⟨bk, o, none⟩) h.1).trans h.2⟩
theorem SK1.of {b1 : Nat} {X : Mk} {bk o u : Nat} {w V : World} (h : MB w b1 X) (hk : Kc w bk o u) (hb : Below w.heap.size w V) : SK1 b1 X bk o u V := ⟨MB.facts (SR.call h hb (SR.lt h)), (hk.call hb).2⟩
theorem SK2.of {b1 : Nat} {X : Mk} {bk o u o2 u2 : Nat} {w V : World} (h : MB w b1 X) (hk : Kc w bk o u) (hj : Kc w bk o2 u2) (hb : Below w.heap.size w V) : SK2 b1 X bk o u o2 u2 V := ⟨SK1.of h hk hb, (hj.call hb).2⟩

set_option maxHeartbeats 4000000 in
theorem keys_law (X : Mk) (w : World) : Calls Try.prog 7 #[mv X] w fun e w' => e = .returned (.bool true) ∧ Below w.heap.size w w' := by
  have HA := keepd awake_any
  have CP := keepd (put_any X)
  have HCL := keepd (cnt_le X)
  have ht : (trimM X).length = trimN X := trimM_len X
  obtain ⟨T, hT⟩ : ∃ T, trimM X = T := ⟨_, rfl⟩
  rw [hT] at CP ht
  obtain ⟨K, CK, HQ, HRise, HHas, hv⟩ : ∃ K : List UInt8, Hid (∀ w, Calls Try.prog 19 #[mv X] w (GotL w K)) ∧ Hid (K.length = cnt X 32) ∧ Hid (∀ i (h : i + 1 < K.length), K[i].toNat < K[i + 1].toNat) ∧ Hid (∀ i (h : i < K.length), has X K[i].toNat = true) ∧ (trimN X = 0 ↔ K.length = 0) :=
    ⟨keysM X, keys_any X, keys_cnt X, fun i h => keys_rise X h, fun i h => keys_has X h, keys_none X⟩
  obtain ⟨v, hv1, hv2⟩ : ∃ v : Bool, ((T.length : Int) == 0) = v ∧ ((K.length : Int) == 0) = v := by
    refine ⟨decide (trimN X = 0), ?_, ?_⟩
    · rw [ht, Bool.eq_iff_iff, beq_iff_eq, decide_eq_true_eq]
      omega
    · rw [Bool.eq_iff_iff, decide_eq_true_eq, hv, beq_iff_eq]
      omega
  have HV1 := keepd hv1
  have HV2 := keepd hv2
  clear hv1 hv2 hv ht hT
  go_enter Try.func7, Try.ntmps7
  go_upto_region 1 with fail
  obtain ⟨W, hW⟩ : ∃ W, w.alloc (.cells (ms X).toArray 23) = W := ⟨_, rfl⟩
  obtain ⟨h1, h2, h3⟩ := one_new _ _ _ _ hW
  rw [hW]
  have M0 := keepd h1
  have HB0 := keepd h2
  obtain ⟨b1, hp⟩ : ∃ b, w.heap.size = b := ⟨_, rfl⟩
  rw [hp] at M0 ⊢
  clear hW h1 h2 h3 hp
  obtain ⟨r1, k1⟩ := MB.facts M0.out
  go_upto_region 2 with ((with_reducible refine (CK.out _).mono ?_); rintro e w2 ⟨A, c, rfl, hr, hb⟩)
  have M1 := keepd (SR.call M0.out hb (SR.lt M0.out))
  have HB := keepd (bCall HB0.out hb)
  obtain ⟨d1, d2⟩ := hr.len
  unfold maxLen at d2
  obtain ⟨q, hq⟩ : ∃ q, K.length = q := ⟨_, rfl⟩
  rw [hq] at HQ HV2 d1 ⊢
  have HKL := keepd hq
  have HR := keepd hr
  have hq256 : q ≤ 256 := by
    rw [HQ.out]
    exact HCL.out 32
  clear hq hr hb r1 k1 M0 HB0 CK
  go_wp2_with fail
  go_loopw [4, 5] (fun vn vi wr => ∃ i : Nat, i ≤ 32 ∧ vi = .int .i64 i ∧ vn = .int .i64 (cnt X i : Nat) ∧ Hid (wr = w2)) (fun _ vi _ => 32 - (intOf vi).toNat)
  case atStart => exact ⟨0, by omega, rfl, rfl, rfl⟩
  case round =>
    obtain ⟨i, hi, rfl, rfl, HW⟩ := hrel
    obtain rfl := HW.out
    clear HW
    by_cases hlt : i < 32
    · have hc := MB.at M1.out hlt
      have HN : Hid (cnt X i + popF 8 (X.at i).toNat = cnt X (i + 1)) := rfl
      have hcl := HCL.out (i + 1)
      obtain ⟨x, hx⟩ : ∃ x, (X.at i).toNat = x := ⟨_, rfl⟩
      have hx256 : x < 256 := by
        rw [← hx]
        exact UInt8.toNat_lt _
      rw [hx] at hc HN
      have hwx : wrap64 (x : Int) = (x : Int) := by unfold wrap64; omega
      have i1 : (0 : Int) ≤ (i : Int) := by omega
      have i2 : (i : Int) < 32 := by omega
      obtain ⟨n0, hn0⟩ : ∃ n, cnt X i = n := ⟨_, rfl⟩
      obtain ⟨n1, hn1⟩ : ∃ n, cnt X (i + 1) = n := ⟨_, rfl⟩
      rw [hn0, hn1] at HN
      rw [hn1] at hcl
      have HN1 := keepd hn1
      clear hx hn1
      simp only [hn0]
      clear hn0
      go_wp2_with fail
      clear hc hwx
      go_loopw [4, 6] (fun vn vx wi => ∃ (m n y : Nat), m ≤ 8 ∧ vn = .int .i64 n ∧ vx = .int .i64 y ∧ Hid (y < 2 ^ m) ∧ Hid (n + popF m y = n1) ∧ Hid (wi = wr)) (fun _ vx _ => (intOf vx).toNat)
      case atStart => exact ⟨8, n0, x, by omega, rfl, rfl, hx256, HN, rfl⟩
      case round =>
        obtain ⟨m, n, y, hm, rfl, rfl, HY, HS, HW⟩ := hrel
        obtain rfl := HW.out
        clear HW
        have hn256 : n ≤ 256 := by
          have := HS.out
          omega
        have hy256 : y < 256 := Nat.lt_of_lt_of_le HY.out (Nat.pow_le_pow_right (by omega) hm)
        rcases Nat.eq_zero_or_pos y with h0 | h0
        · have e : n = n1 := by
            have := HS.out
            rw [h0, popF_zero] at this
            exact this
          have gy : decide ((0 : Int) < (y : Int)) = false := decide_eq_false (by omega)
          have gq : decide (0 < y) = false := decide_eq_false (by omega)
          subst e
          clear h0 HS HY
          go_wp2_with fail
          go_roundw
          case rel => exact ⟨i + 1, by omega, by go_num, by rw [HN1.out], by first | exact keepd trivial | rfl⟩
          case measure => simp [intOf]; omega
        · obtain ⟨m1, rfl⟩ : ∃ m1, m = m1 + 1 := by
            rcases Nat.eq_zero_or_pos m with h | h
            · subst h
              have := HY.out
              omega
            · exact ⟨m - 1, by omega⟩
          have gy : decide ((0 : Int) < (y : Int)) = true := decide_eq_true (by omega)
          have gq : decide (0 < y) = true := decide_eq_true (by omega)
          have HY2 : Hid (y / 2 < 2 ^ m1) := by
            have := HY.out
            rw [Nat.pow_succ] at this
            show _ < _
            omega
          have HS2 : Hid (n + y % 2 + popF m1 (y / 2) = n1) := by
            have := HS.out
            unfold popF at this
            show _ = _
            omega
          obtain ⟨r, hr⟩ : ∃ r, y % 2 = r := ⟨_, rfl⟩
          have hr2 : r < 2 := by omega
          have e1 : (y : Int) % 2 = (r : Int) := by omega
          rw [hr] at HS2
          clear hr
          have HPos := keepd h0
          clear h0 HS HY
          go_wp2_with fail
          go_roundw
          case rel => exact ⟨m1, n + r, y / 2, by omega, int_eq (by omega), int_eq (by omega), HY2, HS2, by first | exact keepd trivial | rfl⟩
          case measure =>
            have := HPos.out
            simp [intOf]
            omega
    · have he : cnt X i = q := by
        rw [HQ.out, show i = 32 by omega]
      rw [he]
      have gi : decide ((i : Int) < 32) = false := decide_eq_false (by omega)
      have gi2 : decide (i < 32) = false := decide_eq_false (by omega)
      clear he hlt hi
      obtain ⟨w3, rfl⟩ : ∃ v, v = wr := ⟨_, rfl⟩
      go_wp2_with fail
      go_loopw [7] (fun vi wz => ∃ k : Nat, k ≤ q ∧ vi = .int .i64 k ∧ Hid (Below w3.heap.size w3 wz)) (fun vi _ => q - (intOf vi).toNat)
      case atStart => exact ⟨0, by omega, rfl, Below.refl _ _⟩
      case round =>
        obtain ⟨k, hk, rfl, HV⟩ := hrel
        by_cases hlt : k < q
        · have hkl : k < K.length := by rw [HKL.out]; exact hlt
          obtain ⟨bk, off, hA', hbl, hce⟩ := HR.out.form hkl
          subst hA'
          have CH := keepd (has_any X K[k].toNat (UInt8.toNat_lt _) true (HHas.out k hkl))
          have HK0 : Hid (Kc w3 bk (off + k) K[k].toNat) := ⟨hbl, hce⟩
          have i1 : (0 : Int) ≤ (k : Int) := by omega
          have i2 : (k : Int) < (q : Int) := by omega
          rcases Nat.eq_zero_or_pos k with h0 | h0
          · have gp : decide ((0 : Int) < (k : Int)) = false := decide_eq_false (by omega)
            have gq : decide (0 < k) = false := decide_eq_false (by omega)
            obtain ⟨u, hu⟩ : ∃ u, K[k].toNat = u := ⟨_, rfl⟩
            rw [hu] at CH HK0
            have HK := keepd (HK0.out.call HV.out)
            have M2 := keepd (SR.call M1.out HV.out (SR.lt M1.out))
            clear hce hbl h0 hu
            go_upto_region 13 with fail
            refine wp_region_held_drew (S := SK1 b1 X bk (off + k) u) (by kernel_rfl) (SK1.of M2.out HK.out (Below.refl _ _).drew) (fun hHeld => ?_)
            refine wpAnyH_take (i := 0) (oi := { dst := some 32, op := Op.load 23 (Operand.tmp 1), type := 23, pos := "law.go:95", after := #[], guard := none }) (v := mv X) rfl (by kernel_rfl) (by kernel_rfl) (by kernel_rfl) (fun _ _ _ h => h) (Or.inl ⟨by rfl, fun W hW => ?_⟩) hHeld ?_
            · obtain ⟨⟨q1, q2⟩, q3⟩ := hW
              go_simp
            simp only [Act.put, List.setIfInBounds_toArray, List.set_cons_zero, List.set_cons_succ]
            refine wpAnyH_take (i := 1) (oi := { dst := some 33, op := Op.move (Operand.tmp 3), type := 26, pos := "law.go:95", after := #[], guard := none }) (v := .slice (some ⟨bk, off, none⟩) q c) rfl (by kernel_rfl) (by kernel_rfl) (by kernel_rfl) (fun _ _ _ h => h) (Or.inl ⟨by rfl, fun W hW => ?_⟩) hHeld ?_
            · obtain ⟨⟨q1, q2⟩, q3⟩ := hW
              go_simp
            simp only [Act.put, List.setIfInBounds_toArray, List.set_cons_zero, List.set_cons_succ]
            refine wpAnyH_take (i := 2) (oi := { dst := some 34, op := Op.move (Operand.tmp 7), type := 3, pos := "law.go:95", after := #[], guard := none }) (v := .int .i64 (k : Int)) rfl (by kernel_rfl) (by kernel_rfl) (by kernel_rfl) (fun _ _ _ h => h) (Or.inl ⟨by rfl, fun W hW => ?_⟩) hHeld ?_
            · obtain ⟨⟨q1, q2⟩, q3⟩ := hW
              go_simp
            simp only [Act.put, List.setIfInBounds_toArray, List.set_cons_zero, List.set_cons_succ]
            refine wpAnyH_take (i := 3) (oi := { dst := some 35, op := Op.indexAddr 26 (Operand.tmp 33) (Operand.tmp 34), type := 0, pos := "law.go:95", after := #[{ on := 1, ground := Ground.data }, { on := 2, ground := Ground.data }], guard := none }) (v := .pointer (some ⟨bk, off + k, none⟩)) rfl (by kernel_rfl) (by kernel_rfl) (by kernel_rfl) (fun _ _ _ h => h) (Or.inl ⟨by rfl, fun W hW => ?_⟩) hHeld ?_
            · obtain ⟨⟨q1, q2⟩, q3⟩ := hW
              go_simp
            simp only [Act.put, List.setIfInBounds_toArray, List.set_cons_zero, List.set_cons_succ]
            refine wpAnyH_take (i := 4) (oi := { dst := some 36, op := Op.load 5 (Operand.tmp 35), type := 5, pos := "law.go:95", after := #[{ on := 3, ground := Ground.data }], guard := none }) (v := .int .u8 (u : Int)) rfl (by kernel_rfl) (by kernel_rfl) (by kernel_rfl) (fun _ _ _ h => h) (Or.inl ⟨by rfl, fun W hW => ?_⟩) hHeld ?_
            · obtain ⟨⟨q1, q2⟩, q3⟩ := hW
              go_simp
            simp only [Act.put, List.setIfInBounds_toArray, List.set_cons_zero, List.set_cons_succ]
            refine wpAnyH_ready (rs := [5]) (by kernel_rfl) (by simp) ?_
            refine AllReadyH.cons (o := { dst := some 37, op := Op.call { callee := Callee.value (Operand.func 14), args := #[Operand.tmp 32, Operand.tmp 36], argTypes := #[23, 5] }, type := 4, pos := "law.go:95", after := #[{ on := 0, ground := Ground.data }, { on := 4, ground := Ground.data }], guard := none }) rfl (fun K hK => ?_) AllReadyH.nil
            go_simp
            with_reducible refine (CH.out _).mono ?_
            rintro e w4 ⟨rfl, hb4⟩
            have z4 := noDrew hb4
            go_wp2_with fail
            refine hK.out _ _ (SK1.of M2.out HK.out z4) (fun hHeld2 => ?_)
            clear hK K hHeld
            have hHeld := hHeld2
            clear hHeld2
            try simp only [Act.put, List.setIfInBounds_toArray, List.set_cons_zero, List.set_cons_succ]
            refine wpAnyH_take (i := 6) (oi := { dst := some 38, op := Op.unOp UnOp.not 4 (Operand.tmp 37), type := 4, pos := "law.go:95", after := #[{ on := 5, ground := Ground.data }], guard := none }) (v := .bool false) rfl (by kernel_rfl) (by kernel_rfl) (by kernel_rfl) (fun _ _ _ h => h) (Or.inl ⟨by rfl, fun W hW => ?_⟩) hHeld ?_
            · obtain ⟨⟨q1, q2⟩, q3⟩ := hW
              go_simp
            simp only [Act.put, List.setIfInBounds_toArray, List.set_cons_zero, List.set_cons_succ]
            refine wpAnyH_take (i := 7) (oi := { dst := some 39, op := Op.move (Operand.tmp 38), type := 4, pos := "law.go:95", after := #[{ on := 6, ground := Ground.data }, { on := 5, ground := Ground.chain }], guard := none }) (v := .bool false) rfl (by kernel_rfl) (by kernel_rfl) (by kernel_rfl) (fun _ _ _ h => h) (Or.inl ⟨by rfl, fun W hW => ?_⟩) hHeld ?_
            · obtain ⟨⟨q1, q2⟩, q3⟩ := hW
              go_simp
            simp only [Act.put, List.setIfInBounds_toArray, List.set_cons_zero, List.set_cons_succ]
            refine wpAnyH_take (i := 8) (oi := { dst := some 40, op := Op.move (Operand.tmp 7), type := 3, pos := "law.go:95", after := #[{ on := 7, ground := Ground.guard }], guard := some (7, false) }) (v := .int .i64 (k : Int)) rfl (by kernel_rfl) (by kernel_rfl) (by kernel_rfl) (fun _ _ _ h => h) (Or.inl ⟨by rfl, fun W hW => ?_⟩) hHeld ?_
            · obtain ⟨⟨q1, q2⟩, q3⟩ := hW
              go_simp
            simp only [Act.put, List.setIfInBounds_toArray, List.set_cons_zero, List.set_cons_succ]
            refine wpAnyH_take (i := 9) (oi := { dst := some 41, op := Op.binOp BinOp.gtr 3 (Operand.tmp 40) (Operand.const (Value.int IntKind.i64 0)) 3, type := 4, pos := "law.go:95", after := #[{ on := 8, ground := Ground.data }, { on := 7, ground := Ground.guard }], guard := some (7, false) }) (v := .bool false) rfl (by kernel_rfl) (by kernel_rfl) (by kernel_rfl) (fun _ _ _ h => h) (Or.inl ⟨by rfl, fun W hW => ?_⟩) hHeld ?_
            · obtain ⟨⟨q1, q2⟩, q3⟩ := hW
              go_simp
            simp only [Act.put, List.setIfInBounds_toArray, List.set_cons_zero, List.set_cons_succ]
            refine wpAnyH_take (i := 10) (oi := { dst := some 42, op := Op.move (Operand.tmp 41), type := 4, pos := "law.go:95", after := #[{ on := 9, ground := Ground.data }, { on := 7, ground := Ground.chain }, { on := 7, ground := Ground.guard }], guard := some (7, false) }) (v := .bool false) rfl (by kernel_rfl) (by kernel_rfl) (by kernel_rfl) (fun _ _ _ h => h) (Or.inl ⟨by rfl, fun W hW => ?_⟩) hHeld ?_
            · obtain ⟨⟨q1, q2⟩, q3⟩ := hW
              go_simp
            simp only [Act.put, List.setIfInBounds_toArray, List.set_cons_zero, List.set_cons_succ]
            refine wpAnyH_take (i := 11) (oi := { dst := some 43, op := Op.move (Operand.tmp 3), type := 26, pos := "law.go:95", after := #[{ on := 10, ground := Ground.guard }], guard := some (10, true) }) (v := undef) rfl (by kernel_rfl) (by kernel_rfl) (by kernel_rfl) (fun _ _ _ h => h) (Or.inr ⟨by rfl, rfl⟩) hHeld ?_
            simp only [Act.put, List.setIfInBounds_toArray, List.set_cons_zero, List.set_cons_succ]
            refine wpAnyH_take (i := 12) (oi := { dst := some 44, op := Op.move (Operand.tmp 7), type := 3, pos := "law.go:95", after := #[{ on := 10, ground := Ground.guard }], guard := some (10, true) }) (v := undef) rfl (by kernel_rfl) (by kernel_rfl) (by kernel_rfl) (fun _ _ _ h => h) (Or.inr ⟨by rfl, rfl⟩) hHeld ?_
            simp only [Act.put, List.setIfInBounds_toArray, List.set_cons_zero, List.set_cons_succ]
            refine wpAnyH_take (i := 13) (oi := { dst := some 45, op := Op.binOp BinOp.sub 3 (Operand.tmp 44) (Operand.const (Value.int IntKind.i64 1)) 3, type := 3, pos := "law.go:95", after := #[{ on := 12, ground := Ground.data }, { on := 10, ground := Ground.guard }], guard := some (10, true) }) (v := undef) rfl (by kernel_rfl) (by kernel_rfl) (by kernel_rfl) (fun _ _ _ h => h) (Or.inr ⟨by rfl, rfl⟩) hHeld ?_
            simp only [Act.put, List.setIfInBounds_toArray, List.set_cons_zero, List.set_cons_succ]
            refine wpAnyH_take (i := 14) (oi := { dst := some 46, op := Op.indexAddr 26 (Operand.tmp 43) (Operand.tmp 45), type := 0, pos := "law.go:95", after := #[{ on := 11, ground := Ground.data }, { on := 13, ground := Ground.data }, { on := 10, ground := Ground.guard }], guard := some (10, true) }) (v := undef) rfl (by kernel_rfl) (by kernel_rfl) (by kernel_rfl) (fun _ _ _ h => h) (Or.inr ⟨by rfl, rfl⟩) hHeld ?_
            simp only [Act.put, List.setIfInBounds_toArray, List.set_cons_zero, List.set_cons_succ]
            refine wpAnyH_take (i := 15) (oi := { dst := some 47, op := Op.load 5 (Operand.tmp 46), type := 5, pos := "law.go:95", after := #[{ on := 14, ground := Ground.data }, { on := 10, ground := Ground.guard }], guard := some (10, true) }) (v := undef) rfl (by kernel_rfl) (by kernel_rfl) (by kernel_rfl) (fun _ _ _ h => h) (Or.inr ⟨by rfl, rfl⟩) hHeld ?_
            simp only [Act.put, List.setIfInBounds_toArray, List.set_cons_zero, List.set_cons_succ]
            refine wpAnyH_take (i := 16) (oi := { dst := some 48, op := Op.move (Operand.tmp 3), type := 26, pos := "law.go:95", after := #[{ on := 10, ground := Ground.guard }], guard := some (10, true) }) (v := undef) rfl (by kernel_rfl) (by kernel_rfl) (by kernel_rfl) (fun _ _ _ h => h) (Or.inr ⟨by rfl, rfl⟩) hHeld ?_
            simp only [Act.put, List.setIfInBounds_toArray, List.set_cons_zero, List.set_cons_succ]
            refine wpAnyH_take (i := 17) (oi := { dst := some 49, op := Op.move (Operand.tmp 7), type := 3, pos := "law.go:95", after := #[{ on := 10, ground := Ground.guard }], guard := some (10, true) }) (v := undef) rfl (by kernel_rfl) (by kernel_rfl) (by kernel_rfl) (fun _ _ _ h => h) (Or.inr ⟨by rfl, rfl⟩) hHeld ?_
            simp only [Act.put, List.setIfInBounds_toArray, List.set_cons_zero, List.set_cons_succ]
            refine wpAnyH_take (i := 18) (oi := { dst := some 50, op := Op.indexAddr 26 (Operand.tmp 48) (Operand.tmp 49), type := 0, pos := "law.go:95", after := #[{ on := 16, ground := Ground.data }, { on := 17, ground := Ground.data }, { on := 10, ground := Ground.guard }], guard := some (10, true) }) (v := undef) rfl (by kernel_rfl) (by kernel_rfl) (by kernel_rfl) (fun _ _ _ h => h) (Or.inr ⟨by rfl, rfl⟩) hHeld ?_
            simp only [Act.put, List.setIfInBounds_toArray, List.set_cons_zero, List.set_cons_succ]
            refine wpAnyH_take (i := 19) (oi := { dst := some 51, op := Op.load 5 (Operand.tmp 50), type := 5, pos := "law.go:95", after := #[{ on := 18, ground := Ground.data }, { on := 10, ground := Ground.guard }], guard := some (10, true) }) (v := undef) rfl (by kernel_rfl) (by kernel_rfl) (by kernel_rfl) (fun _ _ _ h => h) (Or.inr ⟨by rfl, rfl⟩) hHeld ?_
            simp only [Act.put, List.setIfInBounds_toArray, List.set_cons_zero, List.set_cons_succ]
            refine wpAnyH_take (i := 20) (oi := { dst := some 52, op := Op.binOp BinOp.geq 5 (Operand.tmp 47) (Operand.tmp 51) 5, type := 4, pos := "law.go:95", after := #[{ on := 15, ground := Ground.data }, { on := 19, ground := Ground.data }, { on := 10, ground := Ground.guard }], guard := some (10, true) }) (v := undef) rfl (by kernel_rfl) (by kernel_rfl) (by kernel_rfl) (fun _ _ _ h => h) (Or.inr ⟨by rfl, rfl⟩) hHeld ?_
            simp only [Act.put, List.setIfInBounds_toArray, List.set_cons_zero, List.set_cons_succ]
            refine wpAnyH_take (i := 21) (oi := { dst := some 53, op := Op.pick (Operand.tmp 42) (Operand.tmp 52) (Operand.const (Value.bool false)), type := 4, pos := "law.go:95", after := #[{ on := 10, ground := Ground.data }, { on := 20, ground := Ground.data }, { on := 7, ground := Ground.guard }], guard := some (7, false) }) (v := .bool false) rfl (by kernel_rfl) (by kernel_rfl) (by kernel_rfl) (fun _ _ _ h => h) (Or.inl ⟨by rfl, fun W hW => ?_⟩) hHeld ?_
            · obtain ⟨⟨q1, q2⟩, q3⟩ := hW
              go_simp
            simp only [Act.put, List.setIfInBounds_toArray, List.set_cons_zero, List.set_cons_succ]
            refine wpAnyH_take (i := 22) (oi := { dst := some 54, op := Op.pick (Operand.tmp 39) (Operand.const (Value.bool true)) (Operand.tmp 53), type := 4, pos := "law.go:95", after := #[{ on := 7, ground := Ground.data }, { on := 21, ground := Ground.data }], guard := none }) (v := .bool false) rfl (by kernel_rfl) (by kernel_rfl) (by kernel_rfl) (fun _ _ _ h => h) (Or.inl ⟨by rfl, fun W hW => ?_⟩) hHeld ?_
            · obtain ⟨⟨q1, q2⟩, q3⟩ := hW
              go_simp
            simp only [Act.put, List.setIfInBounds_toArray, List.set_cons_zero, List.set_cons_succ]
            refine wpAnyH_done (by kernel_rfl) ?_ _
            go_wp2_with fail
            have HV2 := keepd (bCall HV.out z4)
            go_roundw
            case rel => exact ⟨k + 1, by omega, by go_num, HV2⟩
            case measure => simp [intOf]; omega

          · obtain ⟨j, hj⟩ : ∃ j, k = j + 1 := ⟨k - 1, by omega⟩
            have hjl : j < K.length := by omega
            have hcj : w3.cell? ⟨bk, off + j, none⟩ = some (.int .u8 (K[j].toNat : Int)) := by
              obtain ⟨bk', off', hA2, _, hcj⟩ := HR.out.form hjl
              injection hA2 with hA2
              injection hA2 with e1 e2
              subst e1 e2
              exact hcj
            have HJ0 : Hid (Kc w3 bk (off + j) K[j].toNat) := ⟨hbl, hcj⟩
            have hrise : K[j].toNat < K[k].toNat := by
              subst hj
              exact HRise.out j hkl
            have gp : decide ((0 : Int) < (k : Int)) = true := decide_eq_true (by omega)
            have gq : decide (0 < k) = true := decide_eq_true (by omega)
            have hki : (k : Int) - 1 = (j : Int) := by omega
            have i3 : (0 : Int) ≤ (j : Int) := by omega
            have hwj : IntKind.i64.wrap (j : Int) = (j : Int) := wrap_small _ (by omega) (by omega)
            have i4 : (j : Int) < (q : Int) := by omega
            obtain ⟨u, hu⟩ : ∃ u, K[k].toNat = u := ⟨_, rfl⟩
            obtain ⟨u2, hu2⟩ : ∃ u, K[j].toNat = u := ⟨_, rfl⟩
            rw [hu] at CH HK0 hrise
            rw [hu2] at HJ0 hrise
            have gr : decide ((u : Int) ≤ (u2 : Int)) = false := decide_eq_false (by omega)
            have gr2 : decide (u ≤ u2) = false := decide_eq_false (by omega)
            have HK := keepd (HK0.out.call HV.out)
            have HJ := keepd (HJ0.out.call HV.out)
            have M2 := keepd (SR.call M1.out HV.out (SR.lt M1.out))
            clear hce hbl hcj hu hu2 hjl h0 hj hrise
            go_upto_region 13 with fail
            refine wp_region_held_drew (S := SK2 b1 X bk (off + k) u (off + j) u2) (by kernel_rfl) (SK2.of M2.out HK.out HJ.out (Below.refl _ _).drew) (fun hHeld => ?_)
            refine wpAnyH_take (i := 0) (oi := { dst := some 32, op := Op.load 23 (Operand.tmp 1), type := 23, pos := "law.go:95", after := #[], guard := none }) (v := mv X) rfl (by kernel_rfl) (by kernel_rfl) (by kernel_rfl) (fun _ _ _ h => h) (Or.inl ⟨by rfl, fun W hW => ?_⟩) hHeld ?_
            · obtain ⟨⟨⟨q1, q2⟩, q3⟩, q4⟩ := hW
              go_simp
            simp only [Act.put, List.setIfInBounds_toArray, List.set_cons_zero, List.set_cons_succ]
            refine wpAnyH_take (i := 1) (oi := { dst := some 33, op := Op.move (Operand.tmp 3), type := 26, pos := "law.go:95", after := #[], guard := none }) (v := .slice (some ⟨bk, off, none⟩) q c) rfl (by kernel_rfl) (by kernel_rfl) (by kernel_rfl) (fun _ _ _ h => h) (Or.inl ⟨by rfl, fun W hW => ?_⟩) hHeld ?_
            · obtain ⟨⟨⟨q1, q2⟩, q3⟩, q4⟩ := hW
              go_simp
            simp only [Act.put, List.setIfInBounds_toArray, List.set_cons_zero, List.set_cons_succ]
            refine wpAnyH_take (i := 2) (oi := { dst := some 34, op := Op.move (Operand.tmp 7), type := 3, pos := "law.go:95", after := #[], guard := none }) (v := .int .i64 (k : Int)) rfl (by kernel_rfl) (by kernel_rfl) (by kernel_rfl) (fun _ _ _ h => h) (Or.inl ⟨by rfl, fun W hW => ?_⟩) hHeld ?_
            · obtain ⟨⟨⟨q1, q2⟩, q3⟩, q4⟩ := hW
              go_simp
            simp only [Act.put, List.setIfInBounds_toArray, List.set_cons_zero, List.set_cons_succ]
            refine wpAnyH_take (i := 3) (oi := { dst := some 35, op := Op.indexAddr 26 (Operand.tmp 33) (Operand.tmp 34), type := 0, pos := "law.go:95", after := #[{ on := 1, ground := Ground.data }, { on := 2, ground := Ground.data }], guard := none }) (v := .pointer (some ⟨bk, off + k, none⟩)) rfl (by kernel_rfl) (by kernel_rfl) (by kernel_rfl) (fun _ _ _ h => h) (Or.inl ⟨by rfl, fun W hW => ?_⟩) hHeld ?_
            · obtain ⟨⟨⟨q1, q2⟩, q3⟩, q4⟩ := hW
              go_simp
            simp only [Act.put, List.setIfInBounds_toArray, List.set_cons_zero, List.set_cons_succ]
            refine wpAnyH_take (i := 4) (oi := { dst := some 36, op := Op.load 5 (Operand.tmp 35), type := 5, pos := "law.go:95", after := #[{ on := 3, ground := Ground.data }], guard := none }) (v := .int .u8 (u : Int)) rfl (by kernel_rfl) (by kernel_rfl) (by kernel_rfl) (fun _ _ _ h => h) (Or.inl ⟨by rfl, fun W hW => ?_⟩) hHeld ?_
            · obtain ⟨⟨⟨q1, q2⟩, q3⟩, q4⟩ := hW
              go_simp
            simp only [Act.put, List.setIfInBounds_toArray, List.set_cons_zero, List.set_cons_succ]
            refine wpAnyH_ready (rs := [5]) (by kernel_rfl) (by simp) ?_
            refine AllReadyH.cons (o := { dst := some 37, op := Op.call { callee := Callee.value (Operand.func 14), args := #[Operand.tmp 32, Operand.tmp 36], argTypes := #[23, 5] }, type := 4, pos := "law.go:95", after := #[{ on := 0, ground := Ground.data }, { on := 4, ground := Ground.data }], guard := none }) rfl (fun K hK => ?_) AllReadyH.nil
            go_simp
            with_reducible refine (CH.out _).mono ?_
            rintro e w4 ⟨rfl, hb4⟩
            have z4 := noDrew hb4
            go_wp2_with fail
            refine hK.out _ _ (SK2.of M2.out HK.out HJ.out z4) (fun hHeld2 => ?_)
            clear hK K hHeld
            have hHeld := hHeld2
            clear hHeld2
            try simp only [Act.put, List.setIfInBounds_toArray, List.set_cons_zero, List.set_cons_succ]
            refine wpAnyH_take (i := 6) (oi := { dst := some 38, op := Op.unOp UnOp.not 4 (Operand.tmp 37), type := 4, pos := "law.go:95", after := #[{ on := 5, ground := Ground.data }], guard := none }) (v := .bool false) rfl (by kernel_rfl) (by kernel_rfl) (by kernel_rfl) (fun _ _ _ h => h) (Or.inl ⟨by rfl, fun W hW => ?_⟩) hHeld ?_
            · obtain ⟨⟨⟨q1, q2⟩, q3⟩, q4⟩ := hW
              go_simp
            simp only [Act.put, List.setIfInBounds_toArray, List.set_cons_zero, List.set_cons_succ]
            refine wpAnyH_take (i := 7) (oi := { dst := some 39, op := Op.move (Operand.tmp 38), type := 4, pos := "law.go:95", after := #[{ on := 6, ground := Ground.data }, { on := 5, ground := Ground.chain }], guard := none }) (v := .bool false) rfl (by kernel_rfl) (by kernel_rfl) (by kernel_rfl) (fun _ _ _ h => h) (Or.inl ⟨by rfl, fun W hW => ?_⟩) hHeld ?_
            · obtain ⟨⟨⟨q1, q2⟩, q3⟩, q4⟩ := hW
              go_simp
            simp only [Act.put, List.setIfInBounds_toArray, List.set_cons_zero, List.set_cons_succ]
            refine wpAnyH_take (i := 8) (oi := { dst := some 40, op := Op.move (Operand.tmp 7), type := 3, pos := "law.go:95", after := #[{ on := 7, ground := Ground.guard }], guard := some (7, false) }) (v := .int .i64 (k : Int)) rfl (by kernel_rfl) (by kernel_rfl) (by kernel_rfl) (fun _ _ _ h => h) (Or.inl ⟨by rfl, fun W hW => ?_⟩) hHeld ?_
            · obtain ⟨⟨⟨q1, q2⟩, q3⟩, q4⟩ := hW
              go_simp
            simp only [Act.put, List.setIfInBounds_toArray, List.set_cons_zero, List.set_cons_succ]
            refine wpAnyH_take (i := 9) (oi := { dst := some 41, op := Op.binOp BinOp.gtr 3 (Operand.tmp 40) (Operand.const (Value.int IntKind.i64 0)) 3, type := 4, pos := "law.go:95", after := #[{ on := 8, ground := Ground.data }, { on := 7, ground := Ground.guard }], guard := some (7, false) }) (v := .bool true) rfl (by kernel_rfl) (by kernel_rfl) (by kernel_rfl) (fun _ _ _ h => h) (Or.inl ⟨by rfl, fun W hW => ?_⟩) hHeld ?_
            · obtain ⟨⟨⟨q1, q2⟩, q3⟩, q4⟩ := hW
              go_simp
            simp only [Act.put, List.setIfInBounds_toArray, List.set_cons_zero, List.set_cons_succ]
            refine wpAnyH_take (i := 10) (oi := { dst := some 42, op := Op.move (Operand.tmp 41), type := 4, pos := "law.go:95", after := #[{ on := 9, ground := Ground.data }, { on := 7, ground := Ground.chain }, { on := 7, ground := Ground.guard }], guard := some (7, false) }) (v := .bool true) rfl (by kernel_rfl) (by kernel_rfl) (by kernel_rfl) (fun _ _ _ h => h) (Or.inl ⟨by rfl, fun W hW => ?_⟩) hHeld ?_
            · obtain ⟨⟨⟨q1, q2⟩, q3⟩, q4⟩ := hW
              go_simp
            simp only [Act.put, List.setIfInBounds_toArray, List.set_cons_zero, List.set_cons_succ]
            refine wpAnyH_take (i := 11) (oi := { dst := some 43, op := Op.move (Operand.tmp 3), type := 26, pos := "law.go:95", after := #[{ on := 10, ground := Ground.guard }], guard := some (10, true) }) (v := .slice (some ⟨bk, off, none⟩) q c) rfl (by kernel_rfl) (by kernel_rfl) (by kernel_rfl) (fun _ _ _ h => h) (Or.inl ⟨by rfl, fun W hW => ?_⟩) hHeld ?_
            · obtain ⟨⟨⟨q1, q2⟩, q3⟩, q4⟩ := hW
              go_simp
            simp only [Act.put, List.setIfInBounds_toArray, List.set_cons_zero, List.set_cons_succ]
            refine wpAnyH_take (i := 12) (oi := { dst := some 44, op := Op.move (Operand.tmp 7), type := 3, pos := "law.go:95", after := #[{ on := 10, ground := Ground.guard }], guard := some (10, true) }) (v := .int .i64 (k : Int)) rfl (by kernel_rfl) (by kernel_rfl) (by kernel_rfl) (fun _ _ _ h => h) (Or.inl ⟨by rfl, fun W hW => ?_⟩) hHeld ?_
            · obtain ⟨⟨⟨q1, q2⟩, q3⟩, q4⟩ := hW
              go_simp
            simp only [Act.put, List.setIfInBounds_toArray, List.set_cons_zero, List.set_cons_succ]
            refine wpAnyH_take (i := 13) (oi := { dst := some 45, op := Op.binOp BinOp.sub 3 (Operand.tmp 44) (Operand.const (Value.int IntKind.i64 1)) 3, type := 3, pos := "law.go:95", after := #[{ on := 12, ground := Ground.data }, { on := 10, ground := Ground.guard }], guard := some (10, true) }) (v := .int .i64 (j : Int)) rfl (by kernel_rfl) (by kernel_rfl) (by kernel_rfl) (fun _ _ _ h => h) (Or.inl ⟨by rfl, fun W hW => ?_⟩) hHeld ?_
            · obtain ⟨⟨⟨q1, q2⟩, q3⟩, q4⟩ := hW
              go_simp
            simp only [Act.put, List.setIfInBounds_toArray, List.set_cons_zero, List.set_cons_succ]
            refine wpAnyH_take (i := 14) (oi := { dst := some 46, op := Op.indexAddr 26 (Operand.tmp 43) (Operand.tmp 45), type := 0, pos := "law.go:95", after := #[{ on := 11, ground := Ground.data }, { on := 13, ground := Ground.data }, { on := 10, ground := Ground.guard }], guard := some (10, true) }) (v := .pointer (some ⟨bk, off + j, none⟩)) rfl (by kernel_rfl) (by kernel_rfl) (by kernel_rfl) (fun _ _ _ h => h) (Or.inl ⟨by rfl, fun W hW => ?_⟩) hHeld ?_
            · obtain ⟨⟨⟨q1, q2⟩, q3⟩, q4⟩ := hW
              go_simp
            simp only [Act.put, List.setIfInBounds_toArray, List.set_cons_zero, List.set_cons_succ]
            refine wpAnyH_take (i := 15) (oi := { dst := some 47, op := Op.load 5 (Operand.tmp 46), type := 5, pos := "law.go:95", after := #[{ on := 14, ground := Ground.data }, { on := 10, ground := Ground.guard }], guard := some (10, true) }) (v := .int .u8 (u2 : Int)) rfl (by kernel_rfl) (by kernel_rfl) (by kernel_rfl) (fun _ _ _ h => h) (Or.inl ⟨by rfl, fun W hW => ?_⟩) hHeld ?_
            · obtain ⟨⟨⟨q1, q2⟩, q3⟩, q4⟩ := hW
              go_simp
            simp only [Act.put, List.setIfInBounds_toArray, List.set_cons_zero, List.set_cons_succ]
            refine wpAnyH_take (i := 16) (oi := { dst := some 48, op := Op.move (Operand.tmp 3), type := 26, pos := "law.go:95", after := #[{ on := 10, ground := Ground.guard }], guard := some (10, true) }) (v := .slice (some ⟨bk, off, none⟩) q c) rfl (by kernel_rfl) (by kernel_rfl) (by kernel_rfl) (fun _ _ _ h => h) (Or.inl ⟨by rfl, fun W hW => ?_⟩) hHeld ?_
            · obtain ⟨⟨⟨q1, q2⟩, q3⟩, q4⟩ := hW
              go_simp
            simp only [Act.put, List.setIfInBounds_toArray, List.set_cons_zero, List.set_cons_succ]
            refine wpAnyH_take (i := 17) (oi := { dst := some 49, op := Op.move (Operand.tmp 7), type := 3, pos := "law.go:95", after := #[{ on := 10, ground := Ground.guard }], guard := some (10, true) }) (v := .int .i64 (k : Int)) rfl (by kernel_rfl) (by kernel_rfl) (by kernel_rfl) (fun _ _ _ h => h) (Or.inl ⟨by rfl, fun W hW => ?_⟩) hHeld ?_
            · obtain ⟨⟨⟨q1, q2⟩, q3⟩, q4⟩ := hW
              go_simp
            simp only [Act.put, List.setIfInBounds_toArray, List.set_cons_zero, List.set_cons_succ]
            refine wpAnyH_take (i := 18) (oi := { dst := some 50, op := Op.indexAddr 26 (Operand.tmp 48) (Operand.tmp 49), type := 0, pos := "law.go:95", after := #[{ on := 16, ground := Ground.data }, { on := 17, ground := Ground.data }, { on := 10, ground := Ground.guard }], guard := some (10, true) }) (v := .pointer (some ⟨bk, off + k, none⟩)) rfl (by kernel_rfl) (by kernel_rfl) (by kernel_rfl) (fun _ _ _ h => h) (Or.inl ⟨by rfl, fun W hW => ?_⟩) hHeld ?_
            · obtain ⟨⟨⟨q1, q2⟩, q3⟩, q4⟩ := hW
              go_simp
            simp only [Act.put, List.setIfInBounds_toArray, List.set_cons_zero, List.set_cons_succ]
            refine wpAnyH_take (i := 19) (oi := { dst := some 51, op := Op.load 5 (Operand.tmp 50), type := 5, pos := "law.go:95", after := #[{ on := 18, ground := Ground.data }, { on := 10, ground := Ground.guard }], guard := some (10, true) }) (v := .int .u8 (u : Int)) rfl (by kernel_rfl) (by kernel_rfl) (by kernel_rfl) (fun _ _ _ h => h) (Or.inl ⟨by rfl, fun W hW => ?_⟩) hHeld ?_
            · obtain ⟨⟨⟨q1, q2⟩, q3⟩, q4⟩ := hW
              go_simp
            simp only [Act.put, List.setIfInBounds_toArray, List.set_cons_zero, List.set_cons_succ]
            refine wpAnyH_take (i := 20) (oi := { dst := some 52, op := Op.binOp BinOp.geq 5 (Operand.tmp 47) (Operand.tmp 51) 5, type := 4, pos := "law.go:95", after := #[{ on := 15, ground := Ground.data }, { on := 19, ground := Ground.data }, { on := 10, ground := Ground.guard }], guard := some (10, true) }) (v := .bool false) rfl (by kernel_rfl) (by kernel_rfl) (by kernel_rfl) (fun _ _ _ h => h) (Or.inl ⟨by rfl, fun W hW => ?_⟩) hHeld ?_
            · obtain ⟨⟨⟨q1, q2⟩, q3⟩, q4⟩ := hW
              go_simp
            simp only [Act.put, List.setIfInBounds_toArray, List.set_cons_zero, List.set_cons_succ]
            refine wpAnyH_take (i := 21) (oi := { dst := some 53, op := Op.pick (Operand.tmp 42) (Operand.tmp 52) (Operand.const (Value.bool false)), type := 4, pos := "law.go:95", after := #[{ on := 10, ground := Ground.data }, { on := 20, ground := Ground.data }, { on := 7, ground := Ground.guard }], guard := some (7, false) }) (v := .bool false) rfl (by kernel_rfl) (by kernel_rfl) (by kernel_rfl) (fun _ _ _ h => h) (Or.inl ⟨by rfl, fun W hW => ?_⟩) hHeld ?_
            · obtain ⟨⟨⟨q1, q2⟩, q3⟩, q4⟩ := hW
              go_simp
            simp only [Act.put, List.setIfInBounds_toArray, List.set_cons_zero, List.set_cons_succ]
            refine wpAnyH_take (i := 22) (oi := { dst := some 54, op := Op.pick (Operand.tmp 39) (Operand.const (Value.bool true)) (Operand.tmp 53), type := 4, pos := "law.go:95", after := #[{ on := 7, ground := Ground.data }, { on := 21, ground := Ground.data }], guard := none }) (v := .bool false) rfl (by kernel_rfl) (by kernel_rfl) (by kernel_rfl) (fun _ _ _ h => h) (Or.inl ⟨by rfl, fun W hW => ?_⟩) hHeld ?_
            · obtain ⟨⟨⟨q1, q2⟩, q3⟩, q4⟩ := hW
              go_simp
            simp only [Act.put, List.setIfInBounds_toArray, List.set_cons_zero, List.set_cons_succ]
            refine wpAnyH_done (by kernel_rfl) ?_ _
            go_wp2_with fail
            have HV2 := keepd (bCall HV.out z4)
            go_roundw
            case rel => exact ⟨k + 1, by omega, by go_num, HV2⟩
            case measure => simp [intOf]; omega

        · obtain rfl : k = q := by omega
          obtain ⟨r1, k1⟩ := MB.facts (SR.call M1.out HV.out (SR.lt M1.out))
          have v1 := HV1.out
          have v2 := HV2.out
          go_wp2_with (first | ((with_reducible refine (CP.out _).mono ?_); rintro e w4 ⟨A4, c4, rfl, hr4, hb4⟩) | ((with_reducible refine (HA.out _).mono ?_); rintro e w5 ⟨rfl, hb5⟩))
          go_returns
          exact ⟨rfl, bCall HB.out (bCall (bCall HV.out hb4) hb5)⟩

end Go.Proofs.Ytopomoghkedbkaa
