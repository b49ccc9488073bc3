/-
  The law MaskBack. No conditions beyond those each theorem states.
-/
import Derived.Test.YtopomoghkedbkaaT7
import Derived.Test.YtopomoghkedbkaaR5
namespace Go.Proofs.Ytopomoghkedbkaa
open Go.RowKit
set_option maxRecDepth 100000

attribute [local go_sem ↓] ex_ld23 ex_st23 ex_al23 ex_bu23 ex_eq23 ex_ne23 ex_ld45 ex_st45 ex_al45 ex_bu45
attribute [local go_sem] ptrB_at okPtr_at aggC_at agg32 agg256 isM_at eqV_m isRow_new isRow_newr World.setRow_alloc_new

/-- What the law reads: a mask in two blocks. -/
def SB (b2 b5 : Nat) (X : Mk) (V : World) : Prop := (rowOf V b2 = (ms X).toArray ∧ isRow V 23 b2 32 = true) ∧ rowOf V b5 = (ms X).toArray ∧ isRow V 23 b5 32 = true
theorem SB.of {b2 b5 : Nat} {X : Mk} {w V : World} (h2 : MB w b2 X) (h5 : MB w b5 X) (hb : Below w.heap.size w V) : SB b2 b5 X V := ⟨MB.facts (SR.call h2 hb (SR.lt h2)), MB.facts (SR.call h5 hb (SR.lt h5))⟩
theorem get_trim (X : Mk) : getF (trimM X) = (X, 0) := by
  unfold getF
  rw [if_pos (by rw [trimM_len]; exact trimN_le X), padM_trim]

set_option maxHeartbeats 4000000 in
theorem back_law (X : Mk) (A : Option Addr) (l : List UInt8) (c : Nat) (w : World) (hr : Rd w w.heap.size A l c) : Calls Try.prog 4 #[mv X, .slice A l.length c] w fun e w' => e = .returned (.bool true) ∧ Below w.heap.size w w' := by
  have HA := keepd awake_any
  have CP := keepd (put_any X)
  have CG : Hid (∀ A c w, Rd w w.heap.size A (trimM X) c → Calls Try.prog 10 #[.slice A (trimM X).length c] w fun e w' => e = .returned (.tuple #[mv X, .int .i64 0]) ∧ Below w.heap.size w w') := fun A c w h => get_any A _ _ c rfl w h X 0 (get_trim X)
  have CK := keepd (keys_any X)
  have CO : Hid (∀ A c w, Rd w w.heap.size A (keysM X) c → Calls Try.prog 12 #[.slice A (keysM X).length c] w fun e w' => e = .returned (mv X) ∧ Below w.heap.size w w') := fun A c w h => of_any A _ _ c rfl (Nat.le_trans (keysU_len X 256) (by omega)) w h X (ofM_keys X)
  generalize trimM X = T0 at *
  generalize keysM X = K0 at *
  go_enter Try.func4, Try.ntmps4
  go_upto_region 1 with fail
  obtain ⟨W, hW⟩ : ∃ W, w.alloc (.cells (ms X).toArray 23) = W := ⟨_, rfl⟩
  obtain ⟨h1, h2, h3⟩ := one_new _ _ _ _ hW
  rw [hW]
  have CF := keepd (few_any A l c W W (hr.at_ h2))
  have M2 := keepd h1
  have HB := keepd h2
  obtain ⟨b2, hp⟩ : ∃ b, w.heap.size = b := ⟨_, rfl⟩
  rw [hp] at M2 ⊢
  clear hW h1 h2 h3 hr hp
  go_upto_region 2 with ((with_reducible refine CF.out.mono ?_); rintro e w1 ⟨⟨c', rfl, hr1⟩, rfl⟩)
  have hl := few_len l
  obtain ⟨L, hL⟩ : ∃ L, few l = L := ⟨_, rfl⟩
  rw [hL] at hr1 hl ⊢
  obtain ⟨d1, d2⟩ := hr1.len
  unfold maxLen at d2
  obtain ⟨n, hn⟩ : ∃ n, L.length = n := ⟨_, rfl⟩
  rw [hn] at hl d1 ⊢
  have HN := keepd hn
  have HR := keepd hr1
  clear CF hL hn hr1
  obtain ⟨r2, k2⟩ := MB.facts M2.out
  go_upto_region 3 with (first | ((with_reducible refine (CP.out _).mono ?_); rintro e w2 ⟨A2, c2, rfl, hr2, hb2⟩) | ((with_reducible refine (CG.out A2 c2 _ hr2).mono ?_); rintro e w3 ⟨rfl, hb3⟩))
  obtain ⟨V3, hV⟩ : ∃ V, w3.alloc (.cells (ms X).toArray 23) = V := ⟨_, rfl⟩
  obtain ⟨m5, q5⟩ := new_m _ _ _ hV
  rw [hV]
  have hb := bCall (bCall hb2 hb3) q5
  have M22 := keepd (SR.call M2.out hb (SR.lt M2.out))
  have HB3 := keepd (bCall HB.out hb)
  have HR3 := keepd (HR.out.at_ hb)
  have M5 := keepd m5
  obtain ⟨b5, hp⟩ : ∃ b, w3.heap.size = b := ⟨_, rfl⟩
  rw [hp] at M5 ⊢
  clear hV hp m5 q5 hb hb2 hb3 r2 k2 M2 HB HR CP CG hr2
  have M2 := M22
  clear M22
  refine wp_region_held_drew (S := SB b2 b5 X) (by kernel_rfl) (SB.of M2.out M5.out (Below.refl _ _).drew) (fun hHeld => ?_)
  refine wpAnyH_take (i := 0) (oi := { dst := some 19, op := Op.move (Operand.tmp 6), type := 28, pos := "law.go:38", after := #[], guard := none }) (v := .int .i64 0) rfl (by kernel_rfl) (by kernel_rfl) (by kernel_rfl) (fun _ _ _ h => h) (Or.inl ⟨by rfl, fun W hW => ?_⟩) hHeld ?_
  · obtain ⟨⟨q1, q2⟩, q3, q4⟩ := hW
    go_simp
  simp only [Act.put, List.setIfInBounds_toArray, List.set_cons_zero, List.set_cons_succ]
  refine wpAnyH_take (i := 1) (oi := { dst := some 20, op := Op.binOp BinOp.neq 28 (Operand.tmp 19) (Operand.const (Value.int IntKind.i64 0)) 28, type := 4, pos := "law.go:38", after := #[{ on := 0, ground := Ground.data }], guard := none }) (v := .bool false) rfl (by kernel_rfl) (by kernel_rfl) (by kernel_rfl) (fun _ _ _ h => h) (Or.inl ⟨by rfl, fun W hW => ?_⟩) hHeld ?_
  · obtain ⟨⟨q1, q2⟩, q3, q4⟩ := hW
    go_simp
  simp only [Act.put, List.setIfInBounds_toArray, List.set_cons_zero, List.set_cons_succ]
  refine wpAnyH_take (i := 2) (oi := { dst := some 21, op := Op.move (Operand.tmp 20), type := 4, pos := "law.go:38", after := #[{ on := 1, ground := Ground.data }], guard := none }) (v := .bool false) rfl (by kernel_rfl) (by kernel_rfl) (by kernel_rfl) (fun _ _ _ h => h) (Or.inl ⟨by rfl, fun W hW => ?_⟩) hHeld ?_
  · obtain ⟨⟨q1, q2⟩, q3, q4⟩ := hW
    go_simp
  simp only [Act.put, List.setIfInBounds_toArray, List.set_cons_zero, List.set_cons_succ]
  refine wpAnyH_take (i := 3) (oi := { dst := some 22, op := Op.load 23 (Operand.tmp 5), type := 23, pos := "law.go:38", after := #[{ on := 2, ground := Ground.guard }], guard := some (2, false) }) (v := mv X) rfl (by kernel_rfl) (by kernel_rfl) (by kernel_rfl) (fun _ _ _ h => h) (Or.inl ⟨by rfl, fun W hW => ?_⟩) hHeld ?_
  · obtain ⟨⟨q1, q2⟩, q3, q4⟩ := hW
    go_simp
  simp only [Act.put, List.setIfInBounds_toArray, List.set_cons_zero, List.set_cons_succ]
  refine wpAnyH_take (i := 4) (oi := { dst := some 23, op := Op.load 23 (Operand.tmp 2), type := 23, pos := "law.go:38", after := #[{ on := 2, ground := Ground.guard }], guard := some (2, false) }) (v := mv X) rfl (by kernel_rfl) (by kernel_rfl) (by kernel_rfl) (fun _ _ _ h => h) (Or.inl ⟨by rfl, fun W hW => ?_⟩) hHeld ?_
  · obtain ⟨⟨q1, q2⟩, q3, q4⟩ := hW
    go_simp
  simp only [Act.put, List.setIfInBounds_toArray, List.set_cons_zero, List.set_cons_succ]
  refine wpAnyH_take (i := 5) (oi := { dst := some 24, op := Op.binOp BinOp.neq 23 (Operand.tmp 22) (Operand.tmp 23) 23, type := 4, pos := "law.go:38", after := #[{ on := 3, ground := Ground.data }, { on := 4, ground := Ground.data }, { on := 2, ground := Ground.guard }], guard := some (2, false) }) (v := .bool false) rfl (by kernel_rfl) (by kernel_rfl) (by kernel_rfl) (fun _ _ _ h => h) (Or.inl ⟨by rfl, fun W hW => ?_⟩) hHeld ?_
  · obtain ⟨⟨q1, q2⟩, q3, q4⟩ := hW
    go_simp
  simp only [Act.put, List.setIfInBounds_toArray, List.set_cons_zero, List.set_cons_succ]
  refine wpAnyH_take (i := 6) (oi := { dst := some 25, op := Op.pick (Operand.tmp 21) (Operand.const (Value.bool true)) (Operand.tmp 24), type := 4, pos := "law.go:38", after := #[{ on := 2, ground := Ground.data }, { on := 5, ground := Ground.data }], guard := none }) (v := .bool false) rfl (by kernel_rfl) (by kernel_rfl) (by kernel_rfl) (fun _ _ _ h => h) (Or.inl ⟨by rfl, fun W hW => ?_⟩) hHeld ?_
  · obtain ⟨⟨q1, q2⟩, q3, q4⟩ := hW
    go_simp
  simp only [Act.put, List.setIfInBounds_toArray, List.set_cons_zero, List.set_cons_succ]
  refine wpAnyH_take (i := 7) (oi := { dst := some 26, op := Op.move (Operand.tmp 25), type := 4, pos := "law.go:38", after := #[{ on := 6, ground := Ground.data }, { on := 2, ground := Ground.chain }], guard := none }) (v := .bool false) rfl (by kernel_rfl) (by kernel_rfl) (by kernel_rfl) (fun _ _ _ h => h) (Or.inl ⟨by rfl, fun W hW => ?_⟩) hHeld ?_
  · obtain ⟨⟨q1, q2⟩, q3, q4⟩ := hW
    go_simp
  simp only [Act.put, List.setIfInBounds_toArray, List.set_cons_zero, List.set_cons_succ]
  refine wpAnyH_take (i := 8) (oi := { dst := some 27, op := Op.load 23 (Operand.tmp 2), type := 23, pos := "law.go:38", after := #[{ on := 7, ground := Ground.guard }], guard := some (7, false) }) (v := mv X) rfl (by kernel_rfl) (by kernel_rfl) (by kernel_rfl) (fun _ _ _ h => h) (Or.inl ⟨by rfl, fun W hW => ?_⟩) hHeld ?_
  · obtain ⟨⟨q1, q2⟩, q3, q4⟩ := hW
    go_simp
  simp only [Act.put, List.setIfInBounds_toArray, List.set_cons_zero, List.set_cons_succ]
  refine wpAnyH_take (i := 11) (oi := { dst := some 30, op := Op.load 23 (Operand.tmp 2), type := 23, pos := "law.go:38", after := #[{ on := 7, ground := Ground.guard }], guard := some (7, false) }) (v := mv X) rfl (by kernel_rfl) (by kernel_rfl) (by kernel_rfl) (fun _ _ _ h => h) (Or.inl ⟨by rfl, fun W hW => ?_⟩) hHeld ?_
  · obtain ⟨⟨q1, q2⟩, q3, q4⟩ := hW
    go_simp
  simp only [Act.put, List.setIfInBounds_toArray, List.set_cons_zero, List.set_cons_succ]
  refine wpAnyH_ready (rs := [9]) (by kernel_rfl) (by simp) ?_
  refine AllReadyH.cons (o := { dst := some 28, op := Op.call { callee := Callee.value (Operand.func 19), args := #[Operand.tmp 27], argTypes := #[23] }, type := 26, pos := "law.go:38", after := #[{ on := 8, ground := Ground.data }, { on := 7, ground := Ground.chain }, { on := 7, ground := Ground.guard }], guard := some (7, false) }) rfl (fun K hK => ?_) AllReadyH.nil
  go_simp
  with_reducible refine (CK.out _).mono ?_
  rintro e w4 ⟨A4, c4, rfl, hr4, hb4⟩
  have z4 := noDrew hb4
  go_wp2_with fail
  refine hK.out _ _ (SB.of M2.out M5.out z4) (fun hHeld2 => ?_)
  clear hK K hHeld
  have hHeld := hHeld2
  clear hHeld2
  try simp only [Act.put, List.setIfInBounds_toArray, List.set_cons_zero, List.set_cons_succ]
  refine wpAnyH_ready (rs := [10]) (by kernel_rfl) (by simp) ?_
  refine AllReadyH.cons (o := { dst := some 29, op := Op.call { callee := Callee.value (Operand.func 12), args := #[Operand.tmp 28], argTypes := #[26] }, type := 23, pos := "law.go:38", after := #[{ on := 9, ground := Ground.data }, { on := 9, ground := Ground.chain }, { on := 7, ground := Ground.guard }], guard := some (7, false) }) rfl (fun K hK => ?_) AllReadyH.nil
  go_simp
  with_reducible refine (CO.out A4 c4 _ hr4).mono ?_
  rintro e w5 ⟨rfl, hb5⟩
  have z5 := bCall z4 hb5
  go_wp2_with fail
  refine hK.out _ _ (SB.of M2.out M5.out z5) (fun hHeld2 => ?_)
  clear hK K hHeld
  have hHeld := hHeld2
  clear hHeld2
  try simp only [Act.put, List.setIfInBounds_toArray, List.set_cons_zero, List.set_cons_succ]
  refine wpAnyH_take (i := 12) (oi := { dst := some 31, op := Op.binOp BinOp.neq 23 (Operand.tmp 29) (Operand.tmp 30) 23, type := 4, pos := "law.go:38", after := #[{ on := 10, ground := Ground.data }, { on := 11, ground := Ground.data }, { on := 7, ground := Ground.guard }], guard := some (7, false) }) (v := .bool false) rfl (by kernel_rfl) (by kernel_rfl) (by kernel_rfl) (fun _ _ _ h => h) (Or.inl ⟨by rfl, fun W hW => ?_⟩) hHeld ?_
  · obtain ⟨⟨q1, q2⟩, q3, q4⟩ := hW
    go_simp
  simp only [Act.put, List.setIfInBounds_toArray, List.set_cons_zero, List.set_cons_succ]
  refine wpAnyH_take (i := 13) (oi := { dst := some 32, op := Op.pick (Operand.tmp 26) (Operand.const (Value.bool true)) (Operand.tmp 31), type := 4, pos := "law.go:38", after := #[{ on := 7, ground := Ground.data }, { on := 12, ground := Ground.data }], guard := none }) (v := .bool false) rfl (by kernel_rfl) (by kernel_rfl) (by kernel_rfl) (fun _ _ _ h => h) (Or.inl ⟨by rfl, fun W hW => ?_⟩) hHeld ?_
  · obtain ⟨⟨q1, q2⟩, q3, q4⟩ := hW
    go_simp
  simp only [Act.put, List.setIfInBounds_toArray, List.set_cons_zero, List.set_cons_succ]
  refine wpAnyH_done (by kernel_rfl) ?_ _
  go_wp2_with fail
  clear hHeld
  have HB5 := keepd (bCall HB3.out z5)
  have HR5 := keepd (HR3.out.at_ z5)
  clear HB3 HR3 z4 z5 hb4 hb5 hr4 CK CO M2 M5
  have HNW := keepd HB5.out.size
  by_cases h32 : n ≤ 32
  case neg =>
    have CB := keepd (get_any A L n c' HN.out.symm w5 HR5.out zM 3 (by unfold getF; rw [if_neg (by rw [HN.out]; exact h32)]))
    have g1 : decide (32 < (n : Int)) = true := decide_eq_true (by omega)
    go_upto_region 6 with ((with_reducible refine CB.out.mono ?_); rintro e w6 ⟨rfl, hb6⟩)
    obtain ⟨V6, hV⟩ : ∃ V, w6.alloc (.cells (ms zM).toArray 23) = V := ⟨_, rfl⟩
    obtain ⟨m7, q7⟩ := new_m _ _ _ hV
    rw [hV]
    have HB6 := keepd (bCall HB5.out (bCall hb6 q7))
    obtain ⟨b7, hp⟩ : ∃ b, w6.heap.size = b := ⟨_, rfl⟩
    rw [hp] at m7 ⊢
    obtain ⟨r7, k7⟩ := MB.facts m7
    clear hV hp m7 q7 hb6 HB5 HR5 CB
    go_wp2_with ((with_reducible refine (HA.out _).mono ?_); rintro e w7 ⟨rfl, hb7⟩)
    go_returns
    exact ⟨rfl, bCall HB6.out hb7⟩
  case pos =>
    have hL32 : L.length ≤ 32 := by rw [HN.out]; exact h32
    obtain ⟨N, hN⟩ : ∃ N, padM L = N := ⟨_, rfl⟩
    obtain ⟨T, hT⟩ : ∃ T, trimN N = T := ⟨_, rfl⟩
    have CB := keepd (get_any A L n c' HN.out.symm w5 HR5.out N 0 (by unfold getF; rw [if_pos hL32, hN]))
    have CP := keepd (put_any N)
    have hTn : T ≤ n := by
      rw [← hT, ← hN, ← HN.out]
      exact trimN_pad hL32
    have hP : trimM N = L.take T := by
      rw [← hT, ← hN]
      exact trim_pad hL32
    have HZ : Hid (∀ k (h1 : T ≤ k) (h2 : k < L.length), L[k] = 0) := fun k h1 h2 => by
      have := pad_rest hL32 (by rw [hN, hT]; exact h1) h2
      rwa [List.getD_eq_getElem?_getD, List.getElem?_eq_getElem h2] at this
    have HLast : Hid (∀ k (h1 : T = k + 1) (h2 : k < (L.take T).length), (L.take T)[k] ≠ 0) := fun k h1 h2 => by
      have := pad_last hL32 (by rw [hN, hT]; omega)
      rw [hN, hT, show T - 1 = k by omega, List.getD_eq_getElem?_getD, List.getElem?_eq_getElem (by rw [List.length_take] at h2; omega)] at this
      rw [List.getElem_take]
      exact this
    have hPl : (L.take T).length = T := by rw [List.length_take, HN.out]; omega
    rw [hP] at CP
    have CE : Hid (∀ (A7 : Option Addr) (c7 : Nat) (w : World), Rd w w.heap.size A7 (L.take T) c7 → Rd w w.heap.size A L c' → Calls Try.prog 18 #[.slice A7 T c7, .slice A T c'] w fun e w' => e = .returned (.bool true) ∧ w' = w) := fun A7 c7 w h1 h2 => by
      have := octets_any A7 A (L.take T) (L.take T) T T c7 c' _ w hPl.symm hPl.symm h1 (h2.take T)
      rwa [show (L.take T == L.take T) = true by simp] at this
    have CEk := keepd CE.out
    clear hN hT hP hL32 CE
    generalize L.take T = P at *
    have CE := CEk
    have HPl := keepd hPl
    clear hPl CEk
    go_upto_region 6 with ((with_reducible refine CB.out.mono ?_); rintro e w6 ⟨rfl, hb6⟩)
    obtain ⟨V6, hV⟩ : ∃ V, w6.alloc (.cells (ms N).toArray 23) = V := ⟨_, rfl⟩
    obtain ⟨m7, q7⟩ := new_m _ _ _ hV
    rw [hV]
    have hb := bCall hb6 q7
    have HB6 := keepd (bCall HB5.out hb)
    have HR6 := keepd (HR5.out.at_ hb)
    obtain ⟨b7, hp⟩ : ∃ b, w6.heap.size = b := ⟨_, rfl⟩
    rw [hp] at m7 ⊢
    obtain ⟨r7, k7⟩ := MB.facts m7
    clear hV hp m7 q7 hb6 hb HB5 HR5 CB
    go_upto_region 9 with ((with_reducible refine (CP.out _).mono ?_); rintro e w7 ⟨A7, c7, rfl, hr7, hb7⟩)
    have HB7 := keepd (bCall HB6.out hb7)
    have HL7 := keepd (HR6.out.at_ hb7)
    have HP7 := keepd hr7
    rw [HPl.out]
    obtain ⟨e1, e2⟩ := hr7.len
    rw [HPl.out] at e1
    clear hr7 hb7 HB6 HR6 r7 k7 CP
    have gc : decide ((n : Int) < (T : Int)) = false := decide_eq_false (by omega)
    have i0 : (0 : Int) ≤ (T : Int) := by omega
    have i1 : (T : Int) ≤ (c' : Int) := by omega
    have CE7 := keepd (CE.out A7 c7 w7 HP7.out HL7.out)
    rcases Nat.eq_zero_or_pos T with h0 | h0
    · have gp : decide ((0 : Int) < (T : Int)) = false := decide_eq_false (by omega)
      have gq : decide (0 < T) = false := decide_eq_false (by omega)
      clear h0
      go_wp2_with ((with_reducible refine CE7.out.mono ?_); rintro e w7 ⟨rfl, rfl⟩)
      clear CE7 gc gp gq
      go_loopw [10] (fun vi wr => ∃ k : Nat, T ≤ k ∧ k ≤ n ∧ vi = .int .i64 k ∧ Hid (wr = w7)) (fun vi _ => n - (intOf vi).toNat)
      case atStart => exact ⟨T, Nat.le_refl _, hTn, rfl, rfl⟩
      case round =>
        obtain ⟨k, hk1, hk2, rfl, HW⟩ := hrel
        obtain rfl := HW.out
        by_cases hlt : k < n
        · have hkl : k < L.length := by rw [HN.out]; exact hlt
          obtain ⟨b', off', hA', hbl, hce⟩ := HL7.out.form hkl
          have hz := HZ.out k hk1 hkl
          rw [hz] at hce
          have hce0 : wr.cell? ⟨b', off' + k, none⟩ = some (.int .u8 0) := hce
          subst hA'
          have i1 : (0 : Int) ≤ (k : Int) := by omega
          have i2 : (k : Int) < (n : Int) := by omega
          clear hce hz
          go_wp2_with fail
          go_roundw
          case rel => exact ⟨k + 1, by omega, by omega, by go_num, by first | exact keepd trivial | rfl⟩
          case measure => simp [intOf]; omega
        · obtain rfl : k = n := by omega
          go_wp2_with ((with_reducible refine (HA.out _).mono ?_); rintro e w9 ⟨rfl, hb9⟩)
          go_returns
          exact ⟨rfl, bCall HB7.out hb9⟩
    · obtain ⟨t, ht⟩ : ∃ t, T = t + 1 := ⟨T - 1, by omega⟩
      have gp : decide ((0 : Int) < (T : Int)) = true := decide_eq_true (by omega)
      have gq : decide (0 < T) = true := decide_eq_true (by omega)
      have hti : (T : Int) - 1 = (t : Int) := by omega
      have htl : t < P.length := by rw [HPl.out]; omega
      have hnz := HLast.out t ht htl
      obtain ⟨b', off', hA', hbl, hce⟩ := HP7.out.form htl
      subst hA'
      obtain ⟨z, hz⟩ : ∃ z, (P[t].toNat : Int) = z := ⟨_, rfl⟩
      have gz : (z == 0) = false := by
        have : ¬ P[t].toNat = 0 := fun e => hnz (UInt8.toNat_inj.1 e)
        simp
        omega
      rw [hz] at hce
      have i2 : (0 : Int) ≤ (t : Int) := by omega
      have i3 : (t : Int) < (T : Int) := by omega
      clear hz hnz htl ht h0
      go_wp2_with ((with_reducible refine CE7.out.mono ?_); rintro e w7 ⟨rfl, rfl⟩)
      clear CE7 gc gp gq hti hbl hce gz i2 i3
      go_loopw [10] (fun vi wr => ∃ k : Nat, T ≤ k ∧ k ≤ n ∧ vi = .int .i64 k ∧ Hid (wr = w7)) (fun vi _ => n - (intOf vi).toNat)
      case atStart => exact ⟨T, Nat.le_refl _, hTn, rfl, rfl⟩
      case round =>
        obtain ⟨k, hk1, hk2, rfl, HW⟩ := hrel
        obtain rfl := HW.out
        by_cases hlt : k < n
        · have hkl : k < L.length := by rw [HN.out]; exact hlt
          obtain ⟨b', off', hA', hbl, hce⟩ := HL7.out.form hkl
          have hz := HZ.out k hk1 hkl
          rw [hz] at hce
          have hce0 : wr.cell? ⟨b', off' + k, none⟩ = some (.int .u8 0) := hce
          subst hA'
          have i1 : (0 : Int) ≤ (k : Int) := by omega
          have i2 : (k : Int) < (n : Int) := by omega
          clear hce hz
          go_wp2_with fail
          go_roundw
          case rel => exact ⟨k + 1, by omega, by omega, by go_num, by first | exact keepd trivial | rfl⟩
          case measure => simp [intOf]; omega
        · obtain rfl : k = n := by omega
          go_wp2_with ((with_reducible refine (HA.out _).mono ?_); rintro e w9 ⟨rfl, hb9⟩)
          go_returns
          exact ⟨rfl, bCall HB7.out hb9⟩

end Go.Proofs.Ytopomoghkedbkaa
