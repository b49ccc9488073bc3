/-
  RenewPlain walked. No conditions beyond those each theorem states.
-/
import Derived.Test.YtecihodifgjkoaaDoorN8
namespace Go.Proofs.YtecihodifgjkoaaDoor
open Go.RowKit
set_option maxRecDepth 100000

attribute [local go_sem ↓] ex_ld25 ex_st25 ex_al25 ex_bu25 ex_ix25 ex_eq25 ex_ne25 ex_eq23 ex_ne23 ex_ld25o ex_st65 ex_al65 ex_bu65 ex_bu65s ex_ld38 ex_ld25w ex_bu38
attribute [local go_sem] ptrB_at okPtr_at aggC_at agg62 agg69 isC_at isT_at eqV_t eqV_c isRow_new isRow_new65 World.setRow_alloc_new ptr4_at okPtr4_at cutT_at isI_at isS_at bW_at bWs_at ptrW_at okPtrW_at cutW_at isL_at bY_at

theorem s4 {V W : World} {g b o : Nat} {X : Tb} {u : Value} (h : TB V g X ∧ V.cell? ⟨b, o, none⟩ = some u ∧ b < V.heap.size) (hb : Below V.heap.size V W) : rowOf W g = (cs X).toArray ∧ isRow W 25 g 62 = true ∧ W.cell? ⟨b, o, none⟩ = some u ∧ Below V.heap.size V W :=
  ⟨(tB h.1 hb).1, (tB h.1 hb).2.1, (hb.cell (p := ⟨b, o, none⟩) h.2.2).trans h.2.1, hb⟩
/-- Are the first k octets plain? -/
def allP (X : Tb) (l : List UInt8) (k : Nat) : Bool := (l.take k).all (plainB X)
theorem allP_succ (X : Tb) {l : List UInt8} {k : Nat} (h : k < l.length) : allP X l (k + 1) = (allP X l k && plainB X l[k]) := by
  unfold allP
  rw [List.take_succ_eq_append_getElem h, List.all_append]
  simp
set_option maxHeartbeats 8000000 in
theorem plain_law (X : Tb) (hX : TbO X) (A : Option Addr) (us : List UInt8) (d : Nat) (w : World) (hL : Laid w) (hr : Rd w w.heap.size A us d) :
    Calls Tryd.prog 8 #[tv X, .slice A us.length d] w fun e w' => e = .returned (.bool true) ∧ Below w.heap.size w w' := by
  obtain ⟨n, hn⟩ : ∃ n, n = us.length := ⟨_, rfl⟩
  rw [← hn]
  have HX := keepd hX
  have HLD := keepd hL
  obtain ⟨j, hj⟩ : ∃ m, (fewK us).length = m := ⟨_, rfl⟩
  have CK1 := keepd fun W => keys_any A us n d j W hn (by rw [hn]; exact hr.1) hj
  have HK0 : Hid (Rd w w.heap.size A (fewK us) d) := hr.take 200
  have HJ := keepd hj.symm
  have hjl : j ≤ 200 := by rw [← hj]; exact fewK_le _
  have hjc : j ≤ d := by rw [← hj]; exact HK0.out.1
  have hcm := hr.2.1
  unfold maxLen at hcm
  generalize fewK us = x at *
  have CP0 := keepd fun (u : UInt8) (W : World) => plain_any X u _ rfl W
  clear hX hL hr hn hj
  go_enter Tryd.func8, Tryd.ntmps8
  go_upto_region 1 with fail
  generalize hV : w.alloc (.cells (cs X).toArray 25) = V
  obtain ⟨HT, HB⟩ := tab_new _ _ _ hV
  have HK := keepd (HK0.out.at_ HB.out)
  clear hV HK0
  go_wp2_with fail
  with_reducible refine (CK1.out _).mono ?_
  rintro e w2 ⟨rfl, hw2⟩
  rw [hw2]
  clear CK1 hw2
  go_wp2_with fail
  go_loopw [5, 6] (fun v vi wr => ∃ i : Nat, i ≤ j ∧ vi = .int .i64 i ∧ v = .bool (allP X x i) ∧ Hid (Below V.heap.size V wr)) (fun _ vi _ => j - (intOf vi).toNat)
  case atStart => exact ⟨0, by omega, rfl, rfl, (Below.refl _ _)⟩
  case round =>
    obtain ⟨i, hi, rfl, rfl, HBi⟩ := hrel
    by_cases hlt : i < j
    · have hil : i < x.length := by rw [← HJ.out]; exact hlt
      obtain ⟨bK, oK, hA, hbK⟩ := HK.out.addr (by omega)
      subst hA
      have hce := (HK.out.at_ HBi.out).cellk hil
      rw [getD_at hil] at hce
      have hsu := allP_succ X hil
      generalize x[i] = u at *
      have HF : Hid (TB wr w.heap.size X ∧ wr.cell? ⟨bK, oK + i, none⟩ = some (.int .u8 (u.toNat : Int)) ∧ bK < wr.heap.size) := ⟨SR.call HT.out HBi.out (SR.lt HT.out), hce, Nat.lt_of_lt_of_le hbK HBi.out.size⟩
      obtain ⟨r, hr⟩ : ∃ r, plainB X u = r := ⟨_, rfl⟩
      have CP : Hid (∀ W : World, Below wr.heap.size wr W → Calls Tryd.prog 10 #[tv X, .int .u8 (u.toNat : Int)] W fun e w' => e = .returned (.bool r) ∧ Below W.heap.size W w') := fun W _ => by have := CP0.out u W; rw [hr] at this; exact this
      rw [hr] at hsu
      have HSU := keepd hsu
      have i0 : (0 : Int) ≤ (i : Int) := by omega
      have i1 : (i : Int) < (j : Int) := by omega
      have i2 : (j : Int) ≤ (d : Int) := by omega
      clear hce hsu hr hbK hil
      generalize allP X x i = p at *
      cases p
      case true =>
        go_wp2_with fail
        refine wp_region_held_drew (S := fun W => rowOf W w.heap.size = (cs X).toArray ∧ isRow W 25 w.heap.size 62 = true ∧ W.cell? ⟨bK, oK + i, none⟩ = some (.int .u8 (u.toNat : Int)) ∧ Below wr.heap.size wr W) (by kernel_rfl) (s4 HF.out (Below.refl _ _).drew) (fun hHeld => ?_)
        refine wpAnyH_take (i := 0) (oi := { dst := some 18, op := Op.move (Operand.tmp 5), type := 4, pos := "law.go:82", after := #[], guard := none }) (v := .bool true) rfl (by kernel_rfl) (by kernel_rfl) (by kernel_rfl) (fun _ _ _ h => h) (Or.inl ⟨by rfl, fun W hW => ?_⟩) hHeld ?_
        · obtain ⟨q0, q1, q2, q3⟩ := hW
          go_simp
        simp only [Act.put, List.setIfInBounds_toArray, List.set_cons_zero, List.set_cons_succ]
        refine wpAnyH_take (i := 1) (oi := { dst := some 19, op := Op.move (Operand.tmp 18), type := 4, pos := "law.go:82", after := #[{ on := 0, ground := Ground.data }], guard := none }) (v := .bool true) rfl (by kernel_rfl) (by kernel_rfl) (by kernel_rfl) (fun _ _ _ h => h) (Or.inl ⟨by rfl, fun W hW => ?_⟩) hHeld ?_
        · obtain ⟨q0, q1, q2, q3⟩ := hW
          go_simp
        simp only [Act.put, List.setIfInBounds_toArray, List.set_cons_zero, List.set_cons_succ]
        refine wpAnyH_take (i := 2) (oi := { dst := some 20, op := Op.load 25 (Operand.tmp 2), type := 25, pos := "law.go:82", after := #[{ on := 1, ground := Ground.guard }], guard := some (1, true) }) (v := tv X) rfl (by kernel_rfl) (by kernel_rfl) (by kernel_rfl) (fun _ _ _ h => h) (Or.inl ⟨by rfl, fun W hW => ?_⟩) hHeld ?_
        · obtain ⟨q0, q1, q2, q3⟩ := hW
          go_simp
        simp only [Act.put, List.setIfInBounds_toArray, List.set_cons_zero, List.set_cons_succ]
        refine wpAnyH_take (i := 3) (oi := { dst := some 21, op := Op.move (Operand.tmp 1), type := 26, pos := "law.go:82", after := #[{ on := 1, ground := Ground.guard }], guard := some (1, true) }) (v := .slice (some ⟨bK, oK, none⟩) j d) rfl (by kernel_rfl) (by kernel_rfl) (by kernel_rfl) (fun _ _ _ h => h) (Or.inl ⟨by rfl, fun W hW => ?_⟩) hHeld ?_
        · obtain ⟨q0, q1, q2, q3⟩ := hW
          go_simp
        simp only [Act.put, List.setIfInBounds_toArray, List.set_cons_zero, List.set_cons_succ]
        refine wpAnyH_take (i := 4) (oi := { dst := some 22, op := Op.move (Operand.tmp 6), type := 3, pos := "law.go:82", after := #[{ on := 1, ground := Ground.guard }], guard := some (1, true) }) (v := .int .i64 (i : Int)) rfl (by kernel_rfl) (by kernel_rfl) (by kernel_rfl) (fun _ _ _ h => h) (Or.inl ⟨by rfl, fun W hW => ?_⟩) hHeld ?_
        · obtain ⟨q0, q1, q2, q3⟩ := hW
          go_simp
        simp only [Act.put, List.setIfInBounds_toArray, List.set_cons_zero, List.set_cons_succ]
        refine wpAnyH_take (i := 5) (oi := { dst := some 23, op := Op.indexAddr 26 (Operand.tmp 21) (Operand.tmp 22), type := 0, pos := "law.go:82", after := #[{ on := 3, ground := Ground.data }, { on := 4, ground := Ground.data }, { on := 1, ground := Ground.guard }], guard := some (1, true) }) (v := .pointer (some ⟨bK, oK + i, none⟩)) rfl (by kernel_rfl) (by kernel_rfl) (by kernel_rfl) (fun _ _ _ h => h) (Or.inl ⟨by rfl, fun W hW => ?_⟩) hHeld ?_
        · obtain ⟨q0, q1, q2, q3⟩ := hW
          go_simp
        simp only [Act.put, List.setIfInBounds_toArray, List.set_cons_zero, List.set_cons_succ]
        refine wpAnyH_take (i := 6) (oi := { dst := some 24, op := Op.load 5 (Operand.tmp 23), type := 5, pos := "law.go:82", after := #[{ on := 5, ground := Ground.data }, { on := 1, ground := Ground.guard }], guard := some (1, true) }) (v := .int .u8 (u.toNat : Int)) rfl (by kernel_rfl) (by kernel_rfl) (by kernel_rfl) (fun _ _ _ h => h) (Or.inl ⟨by rfl, fun W hW => ?_⟩) hHeld ?_
        · obtain ⟨q0, q1, q2, q3⟩ := hW
          go_simp
        simp only [Act.put, List.setIfInBounds_toArray, List.set_cons_zero, List.set_cons_succ]
        refine wpAnyH_ready (rs := [7]) (by kernel_rfl) (by simp) ?_
        refine AllReadyH.cons (o := { dst := some 25, op := Op.call { callee := Callee.value (Operand.func 10), args := #[Operand.tmp 20, Operand.tmp 24], argTypes := #[25, 5] }, type := 4, pos := "law.go:82", after := #[{ on := 2, ground := Ground.data }, { on := 6, ground := Ground.data }, { on := 1, ground := Ground.chain }, { on := 1, ground := Ground.guard }], guard := some (1, true) }) rfl (fun K hK => ?_) AllReadyH.nil
        go_simp
        with_reducible refine (CP.out _ (Below.refl _ _).drew).mono ?_
        rintro e w2 ⟨rfl, hb2⟩
        have HB2 : Hid (Below wr.heap.size wr w2) := bCall (Below.refl _ _).drew hb2
        go_wp2_with fail
        refine hK.out _ _ (s4 HF.out HB2.out) (fun hHeld2 => ?_)
        clear hK K hHeld
        have hHeld := hHeld2
        clear hHeld2
        try simp only [Act.put, List.setIfInBounds_toArray, List.set_cons_zero, List.set_cons_succ]
        refine wpAnyH_take (i := 8) (oi := { dst := some 26, op := Op.pick (Operand.tmp 19) (Operand.tmp 25) (Operand.const (Value.bool false)), type := 4, pos := "law.go:82", after := #[{ on := 1, ground := Ground.data }, { on := 7, ground := Ground.data }], guard := none }) (v := .bool r) rfl (by kernel_rfl) (by kernel_rfl) (by kernel_rfl) (fun _ _ _ h => h) (Or.inl ⟨by rfl, fun W hW => ?_⟩) hHeld ?_
        · obtain ⟨q0, q1, q2, q3⟩ := hW
          go_simp
        simp only [Act.put, List.setIfInBounds_toArray, List.set_cons_zero, List.set_cons_succ]
        refine wpAnyH_take (i := 9) (oi := { dst := some 5, op := Op.assign (Operand.tmp 26), type := 4, pos := "law.go:82", after := #[{ on := 8, ground := Ground.data }, { on := 7, ground := Ground.chain }, { on := 0, ground := Ground.phase }, { on := 1, ground := Ground.phase }, { on := 2, ground := Ground.phase }, { on := 3, ground := Ground.phase }, { on := 4, ground := Ground.phase }, { on := 5, ground := Ground.phase }, { on := 6, ground := Ground.phase }, { on := 7, ground := Ground.phase }, { on := 8, ground := Ground.phase }], guard := none }) (v := .bool r) rfl (by kernel_rfl) (by kernel_rfl) (by kernel_rfl) (fun _ _ _ h => h) (Or.inl ⟨by rfl, fun W hW => ?_⟩) hHeld ?_
        · obtain ⟨q0, q1, q2, q3⟩ := hW
          go_simp
        simp only [Act.put, List.setIfInBounds_toArray, List.set_cons_zero, List.set_cons_succ]
        refine wpAnyH_done (by kernel_rfl) ?_ _
        have HB3 := keepd (bCall HBi.out HB2.out)
        have hs2 : r = allP X x (i + 1) := by have h := HSU.out; rw [Bool.true_and] at h; exact h.symm
        clear HB2 hb2 HF CP HSU
        go_wp2_with fail
        go_roundw
        case rel => exact ⟨i + 1, by omega, by go_num, by rw [hs2], HB3⟩
        case measure => simp [intOf]; omega
      case false =>
        go_wp2_with fail
        refine wp_region_held_drew (S := fun W => rowOf W w.heap.size = (cs X).toArray ∧ isRow W 25 w.heap.size 62 = true ∧ W.cell? ⟨bK, oK + i, none⟩ = some (.int .u8 (u.toNat : Int)) ∧ Below wr.heap.size wr W) (by kernel_rfl) (s4 HF.out (Below.refl _ _).drew) (fun hHeld => ?_)
        refine wpAnyH_take (i := 0) (oi := { dst := some 18, op := Op.move (Operand.tmp 5), type := 4, pos := "law.go:82", after := #[], guard := none }) (v := .bool false) rfl (by kernel_rfl) (by kernel_rfl) (by kernel_rfl) (fun _ _ _ h => h) (Or.inl ⟨by rfl, fun W hW => ?_⟩) hHeld ?_
        · obtain ⟨q0, q1, q2, q3⟩ := hW
          go_simp
        simp only [Act.put, List.setIfInBounds_toArray, List.set_cons_zero, List.set_cons_succ]
        refine wpAnyH_take (i := 1) (oi := { dst := some 19, op := Op.move (Operand.tmp 18), type := 4, pos := "law.go:82", after := #[{ on := 0, ground := Ground.data }], guard := none }) (v := .bool false) rfl (by kernel_rfl) (by kernel_rfl) (by kernel_rfl) (fun _ _ _ h => h) (Or.inl ⟨by rfl, fun W hW => ?_⟩) hHeld ?_
        · obtain ⟨q0, q1, q2, q3⟩ := hW
          go_simp
        simp only [Act.put, List.setIfInBounds_toArray, List.set_cons_zero, List.set_cons_succ]
        refine wpAnyH_take (i := 2) (oi := { dst := some 20, op := Op.load 25 (Operand.tmp 2), type := 25, pos := "law.go:82", after := #[{ on := 1, ground := Ground.guard }], guard := some (1, true) }) (v := undef) rfl (by kernel_rfl) (by kernel_rfl) (by kernel_rfl) (fun _ _ _ h => h) (Or.inr ⟨by rfl, rfl⟩) hHeld ?_
        simp only [Act.put, List.setIfInBounds_toArray, List.set_cons_zero, List.set_cons_succ]
        refine wpAnyH_take (i := 3) (oi := { dst := some 21, op := Op.move (Operand.tmp 1), type := 26, pos := "law.go:82", after := #[{ on := 1, ground := Ground.guard }], guard := some (1, true) }) (v := undef) rfl (by kernel_rfl) (by kernel_rfl) (by kernel_rfl) (fun _ _ _ h => h) (Or.inr ⟨by rfl, rfl⟩) hHeld ?_
        simp only [Act.put, List.setIfInBounds_toArray, List.set_cons_zero, List.set_cons_succ]
        refine wpAnyH_take (i := 4) (oi := { dst := some 22, op := Op.move (Operand.tmp 6), type := 3, pos := "law.go:82", after := #[{ on := 1, ground := Ground.guard }], guard := some (1, true) }) (v := undef) rfl (by kernel_rfl) (by kernel_rfl) (by kernel_rfl) (fun _ _ _ h => h) (Or.inr ⟨by rfl, rfl⟩) hHeld ?_
        simp only [Act.put, List.setIfInBounds_toArray, List.set_cons_zero, List.set_cons_succ]
        refine wpAnyH_take (i := 5) (oi := { dst := some 23, op := Op.indexAddr 26 (Operand.tmp 21) (Operand.tmp 22), type := 0, pos := "law.go:82", after := #[{ on := 3, ground := Ground.data }, { on := 4, ground := Ground.data }, { on := 1, ground := Ground.guard }], guard := some (1, true) }) (v := undef) rfl (by kernel_rfl) (by kernel_rfl) (by kernel_rfl) (fun _ _ _ h => h) (Or.inr ⟨by rfl, rfl⟩) hHeld ?_
        simp only [Act.put, List.setIfInBounds_toArray, List.set_cons_zero, List.set_cons_succ]
        refine wpAnyH_take (i := 6) (oi := { dst := some 24, op := Op.load 5 (Operand.tmp 23), type := 5, pos := "law.go:82", after := #[{ on := 5, ground := Ground.data }, { on := 1, ground := Ground.guard }], guard := some (1, true) }) (v := undef) rfl (by kernel_rfl) (by kernel_rfl) (by kernel_rfl) (fun _ _ _ h => h) (Or.inr ⟨by rfl, rfl⟩) hHeld ?_
        simp only [Act.put, List.setIfInBounds_toArray, List.set_cons_zero, List.set_cons_succ]
        refine wpAnyH_take (i := 7) (oi := { dst := some 25, op := Op.call { callee := Callee.value (Operand.func 10), args := #[Operand.tmp 20, Operand.tmp 24], argTypes := #[25, 5] }, type := 4, pos := "law.go:82", after := #[{ on := 2, ground := Ground.data }, { on := 6, ground := Ground.data }, { on := 1, ground := Ground.chain }, { on := 1, ground := Ground.guard }], guard := some (1, true) }) (v := undef) rfl (by kernel_rfl) (by kernel_rfl) (by kernel_rfl) (fun _ _ _ h => h) (Or.inr ⟨by rfl, rfl⟩) hHeld ?_
        simp only [Act.put, List.setIfInBounds_toArray, List.set_cons_zero, List.set_cons_succ]
        refine wpAnyH_take (i := 8) (oi := { dst := some 26, op := Op.pick (Operand.tmp 19) (Operand.tmp 25) (Operand.const (Value.bool false)), type := 4, pos := "law.go:82", after := #[{ on := 1, ground := Ground.data }, { on := 7, ground := Ground.data }], guard := none }) (v := .bool false) rfl (by kernel_rfl) (by kernel_rfl) (by kernel_rfl) (fun _ _ _ h => h) (Or.inl ⟨by rfl, fun W hW => ?_⟩) hHeld ?_
        · obtain ⟨q0, q1, q2, q3⟩ := hW
          go_simp
        simp only [Act.put, List.setIfInBounds_toArray, List.set_cons_zero, List.set_cons_succ]
        refine wpAnyH_take (i := 9) (oi := { dst := some 5, op := Op.assign (Operand.tmp 26), type := 4, pos := "law.go:82", after := #[{ on := 8, ground := Ground.data }, { on := 7, ground := Ground.chain }, { on := 0, ground := Ground.phase }, { on := 1, ground := Ground.phase }, { on := 2, ground := Ground.phase }, { on := 3, ground := Ground.phase }, { on := 4, ground := Ground.phase }, { on := 5, ground := Ground.phase }, { on := 6, ground := Ground.phase }, { on := 7, ground := Ground.phase }, { on := 8, ground := Ground.phase }], guard := none }) (v := .bool false) rfl (by kernel_rfl) (by kernel_rfl) (by kernel_rfl) (fun _ _ _ h => h) (Or.inl ⟨by rfl, fun W hW => ?_⟩) hHeld ?_
        · obtain ⟨q0, q1, q2, q3⟩ := hW
          go_simp
        simp only [Act.put, List.setIfInBounds_toArray, List.set_cons_zero, List.set_cons_succ]
        refine wpAnyH_done (by kernel_rfl) ?_ _
        have HB3 : Hid (Below V.heap.size V _) := HBi.out.drew
        have hs2 : false = allP X x (i + 1) := by have h := HSU.out; rw [Bool.false_and] at h; exact h.symm
        clear HF CP HSU
        go_wp2_with fail
        go_roundw
        case rel => exact ⟨i + 1, by omega, by go_num, by rw [← hs2], HB3⟩
        case measure => simp [intOf]; omega
    · obtain rfl : i = j := by omega
      obtain ⟨p, hp⟩ : ∃ p, allP X x i = p := ⟨_, rfl⟩
      rw [hp]
      have HB1 := keepd (bCall HB.out HBi.out)
      cases p
      case false =>
        have CW := keepd (awake_any wr (HLD.out.below HB1.out))
        go_wp2_with fail
        with_reducible refine CW.out.mono ?_
        rintro e w4 ⟨rfl, hb4⟩
        have HB4 := keepd (bCall HB1.out hb4)
        clear hb4 CW
        go_wp2_with fail
        go_ret
        exact ⟨rfl, HB4.out⟩
      have hall : ∀ u ∈ x, plainB X u = true := by
        unfold allP at hp
        rw [List.take_of_length_le (by rw [← HJ.out]; omega)] at hp
        exact List.all_eq_true.1 hp
      have hpp := play_plain HX.out hall (by rw [← HJ.out]; omega)
      rw [← HJ.out] at hpp
      have CP := keepd fun (W : World) (h : Rd W W.heap.size A x d) => play_any X 4096 none [] 0 0 0 false false A x i d W rfl (Rd.nil _ _) (Nat.le_refl _) (by omega) HJ.out h (by omega) x i i false false [] 0 0 hpp.1 HJ.out.symm rfl
      rw [show (((0 : Nat) : Nat) : Int) = 0 from rfl] at CP
      have CK := keepd fun (W : World) (B : Option Addr) (e : Nat) (h : Rd W W.heap.size B x e) => kgood_any X HX.out B x i e i false false W HJ.out h (Nat.le_refl _) (by omega) x i hpp.2 HJ.out.symm
      have HKw := keepd (HK.out.at_ HBi.out)
      have HTw := keepd (SR.call HT.out HBi.out (SR.lt HT.out))
      obtain ⟨q0, q1⟩ := TB.facts HTw.out
      clear hall hpp hp CP0
      go_wp2_with fail
      with_reducible refine (CP.out _ HKw.out).mono ?_
      rintro e w3 ⟨A2, c2, B2, f2, L2, rfl, hl2, hm2, hr2, hre2, hb2⟩
      go_upto_region 10 with fail
      generalize hV : w3.alloc (.cells #[.slice A2 i c2, .int .i64 (i : Int), .bool false, .bool false] 30) = V4
      generalize hb6 : w3.heap.size = b6
      have HS6 : Hid (SR 30 V4 b6 [.slice A2 i c2, .int .i64 (i : Int), .bool false, .bool false]) := by rw [← hV, ← hb6]; exact heap_alloc_new w3 _
      have HB4 : Hid (Below wr.heap.size wr V4) := by rw [← hV]; exact bAlloc hb2 _
      have HR4 : Hid (Rd V4 V4.heap.size A2 x c2) := by rw [← hV]; exact hr2.at_ (bAlloc (Below.refl _ _) _)
      have HT4 := keepd (SR.call HTw.out HB4.out (SR.lt HTw.out))
      have HK4 := keepd (HKw.out.at_ HB4.out)
      have HBV := keepd (bCall HB1.out HB4.out)
      clear hV hb6 hl2 hm2 hr2 hre2 hb2 CP q0 q1 HTw HKw HB4
      obtain ⟨k0, k1, k2, k3, _, _, _, _, kt⟩ := st_facts HS6.out
      obtain ⟨q0, q1⟩ := TB.facts HT4.out
      go_wp2_with fail
      with_reducible refine (CK.out _ A2 c2 HR4.out).mono ?_
      rintro e w5 ⟨⟨A5, c5, rfl, ho5⟩, hb5⟩
      have HB5 := keepd (bCall HBV.out hb5)
      have HS5 := keepd (SR.call HS6.out hb5 HS6.out.lt)
      have HR5 := keepd (HR4.out.at_ hb5)
      have HK5 := keepd (HK4.out.at_ hb5)
      have CO1 := keepd (octets_any A5 A x x i i c5 d true w5 HJ.out HJ.out ho5.rdOf HK5.out (by simp))
      have CO2 := keepd (octets_any A2 A x x i i c2 d true w5 HJ.out HJ.out HR5.out HK5.out (by simp))
      clear ho5 hb5 CK k0 k1 k2 k3 kt q0 q1
      obtain ⟨k0, k1, k2, k3, _, _, _, _, kt⟩ := st_facts HS5.out
      go_wp2_with fail
      with_reducible refine CO1.out.mono ?_
      rintro e w6 ⟨rfl, hw6⟩
      rw [hw6]
      clear hw6 CO1
      go_wp2_with fail
      with_reducible refine CO2.out.mono ?_
      rintro e w7 ⟨rfl, hw7⟩
      rw [hw7]
      clear hw7 CO2
      have CW := keepd (awake_any w5 (HLD.out.below HB5.out))
      go_wp2_with fail
      with_reducible refine CW.out.mono ?_
      rintro e w8 ⟨rfl, hb8⟩
      have HB8 := keepd (bCall HB5.out hb8)
      clear hb8 CW
      go_wp2_with fail
      go_ret
      exact ⟨rfl, HB8.out⟩

end Go.Proofs.YtecihodifgjkoaaDoor
