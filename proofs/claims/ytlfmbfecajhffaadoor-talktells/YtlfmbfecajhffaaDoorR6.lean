/-
  The document's own told. No conditions beyond those each theorem states.
-/
import Derived.Test.YtlfmbfecajhffaaDoorRK
namespace Go.Proofs.YtlfmbfecajhffaaDoor
open Go.RowKit
set_option maxRecDepth 100000

attribute [local go_sem ↓] ex_ld25 ex_st25 ex_al25 ex_bu25 ex_ix25 ex_eq25 ex_ne25 ex_eq23 ex_ne23 ex_ld25o ex_st65 ex_al65 ex_bu65 ex_bu65s
attribute [local go_sem] ptrB_at okPtr_at aggC_at agg62 agg69 isC_at isT_at eqV_t eqV_c isRow_new isRow_new65 World.setRow_alloc_new ptr4_at okPtr4_at cutT_at isI_at isS_at bW_at bWs_at

theorem s4r {V W : World} {g b o : Nat} {X : Tb} {u : Value} (h : TB V g X ∧ V.cell? ⟨b, o, none⟩ = some u ∧ b < V.heap.size) (hb : Below V.heap.size V W) : rowOf W g = (cs X).toArray ∧ isRow W 25 g 62 = true ∧ W.cell? ⟨b, o, none⟩ = some u ∧ Below V.heap.size V W :=
  ⟨(tB h.1 hb).1, (tB h.1 hb).2.1, (hb.cell (p := ⟨b, o, none⟩) h.2.2).trans h.2.1, hb⟩
set_option maxHeartbeats 4000000 in
theorem rtold_any (X : Tb) (hX : TbO X) (A : Option Addr) (l : List UInt8) (n c : Nat) (L : List UInt8) (m : Nat) (w : World) (hn : n = l.length) (hr : Rd w w.heap.size A l c) (hl : n ≤ 4096) (hL : toldL X l = L) (hm : L.length = m) :
    Calls Tryd.prog 56 #[tv X, .slice A n c] w (GotKy w L m) := by
  have HN := keepd hn
  have HR0 := keepd hr
  have HL := keepd hL
  have HM := keepd hm
  have hc : n ≤ c := by rw [hn]; exact hr.1
  have hcm := hr.2.1
  unfold maxLen at hcm
  obtain ⟨j, hj⟩ : ∃ j, (kL X 14).length = j := ⟨_, rfl⟩
  have HJ := keepd hj.symm
  have CP0 := keepd fun (u : UInt8) (W : World) => rplain_any X u _ rfl W
  have CK := keepd fun W : World => rkey_any X hX 14 1 (kL X 14) j W (by omega) rfl hj
  rw [show (((1 : Nat) : Nat) : Int) = 1 from rfl] at CK
  clear hn hr hL hm hX hj
  go_enter Tryd.func56, Tryd.ntmps56
  go_upto_region 1 with fail
  generalize hV : w.alloc (.cells (cs X).toArray 25) = V
  obtain ⟨HT, HB⟩ := tab_new _ _ _ hV
  clear hV
  go_wp2_with fail
  go_loopw [5, 6] (fun v vi wr => ∃ k : Nat, k ≤ n ∧ vi = .int .i64 k ∧ Hid (Own wr V.heap.size v (toldL X (l.take k))) ∧ Hid (Below V.heap.size V wr)) (fun _ vi _ => n - (intOf vi).toNat)
  case atStart => exact ⟨0, by omega, rfl, (by show Own _ _ _ _; simpa [toldL] using Own.nil V V.heap.size), (Below.refl _ _)⟩
  case round =>
    obtain ⟨k, hk, rfl, HO, HBk⟩ := hrel
    by_cases hlt : k < n
    case neg =>
      obtain rfl : k = n := by omega
      have ho := HO.out
      rw [List.take_of_length_le (by rw [← HN.out]; omega), HL.out] at ho
      obtain ⟨A, c, he, _⟩ := ho.rd
      rw [show L.length = m from HM.out] at he
      rw [he] at ho
      replace ho := ho.base HB.out.size
      have HE := keepd he
      have HO9 := keepd ho
      clear ho he
      go_wp2_with fail
      go_ret
      exact ⟨⟨A, c, congrArg Ending.returned HE.out, HO9.out⟩, bCall HB.out HBk.out⟩
    have hkl : k < l.length := by rw [← HN.out]; exact hlt
    have hsu := toldL_succ X hkl
    have hlen := (toldL_len X (l.take k)).2
    rw [List.length_take] at hlen
    obtain ⟨bA, offA, hA, hbA⟩ := HR0.out.addr (by omega)
    subst hA
    have hce := (HR0.out.at_ (bCall HB.out HBk.out)).cellk hkl
    have hu0 : l.getD k 0 = l[k] := getD_at hkl
    rw [hu0] at hce
    generalize l[k] = u at *
    have HF : Hid (TB wr w.heap.size X ∧ wr.cell? ⟨bA, offA + k, none⟩ = some (.int .u8 (u.toNat : Int)) ∧ bA < wr.heap.size) := ⟨SR.call HT.out HBk.out (SR.lt HT.out), hce, Nat.lt_of_lt_of_le hbA (bCall HB.out HBk.out).size⟩
    have HSU := keepd hsu
    have HLE : Hid ((toldL X (l.take k)).length ≤ 8192) := by show _ ≤ _; omega
    have i0 : (0 : Int) ≤ (k : Int) := by omega
    have i1 : (k : Int) < (n : Int) := by omega
    have i2 : (n : Int) ≤ (c : Int) := by omega
    obtain ⟨r, hr⟩ : ∃ r, plainB X u = r := ⟨_, rfl⟩
    have CP : Hid (∀ W : World, Below wr.heap.size wr W → Calls Tryd.prog 73 #[tv X, .int .u8 (u.toNat : Int)] W fun e w' => e = .returned (.bool r) ∧ Below W.heap.size W w') := fun W _ => by have := CP0.out u W; rw [hr] at this; exact this
    have HT1 : Hid (tell1 X u = if r then [u] else kL X 14 ++ [u]) := by show _ = _; unfold tell1; rw [hr]
    clear hsu hlen hce hr
    cases r
    case true =>
      go_wp2_with fail
      refine wp_region_held_drew (S := fun W => rowOf W w.heap.size = (cs X).toArray ∧ isRow W 25 w.heap.size 62 = true ∧ W.cell? ⟨bA, offA + k, none⟩ = some (.int .u8 (u.toNat : Int)) ∧ Below wr.heap.size wr W) (by kernel_rfl) (s4r HF.out (Below.refl _ _).drew) (fun hHeld => ?_)
      refine wpAnyH_take (i := 0) (oi := { dst := some 13, op := Op.load 25 (Operand.tmp 2), type := 25, pos := "ref.go:30", after := #[], guard := none }) (v := tv X) rfl (by kernel_rfl) (by kernel_rfl) (by kernel_rfl) (fun _ _ _ h => h) (Or.inl ⟨by rfl, fun W hW => ?_⟩) hHeld ?_
      · obtain ⟨q0, q1, q2, q3⟩ := hW
        go_simp
      simp only [Act.put, List.setIfInBounds_toArray, List.set_cons_zero, List.set_cons_succ]
      refine wpAnyH_take (i := 1) (oi := { dst := some 14, op := Op.move (Operand.tmp 1), type := 28, pos := "ref.go:30", after := #[], guard := none }) (v := .slice (some ⟨bA, offA, none⟩) n c) rfl (by kernel_rfl) (by kernel_rfl) (by kernel_rfl) (fun _ _ _ h => h) (Or.inl ⟨by rfl, fun W hW => ?_⟩) hHeld ?_
      · obtain ⟨q0, q1, q2, q3⟩ := hW
        go_simp
      simp only [Act.put, List.setIfInBounds_toArray, List.set_cons_zero, List.set_cons_succ]
      refine wpAnyH_take (i := 2) (oi := { dst := some 15, op := Op.move (Operand.tmp 6), type := 3, pos := "ref.go:30", after := #[], guard := none }) (v := .int .i64 (k : Int)) rfl (by kernel_rfl) (by kernel_rfl) (by kernel_rfl) (fun _ _ _ h => h) (Or.inl ⟨by rfl, fun W hW => ?_⟩) hHeld ?_
      · obtain ⟨q0, q1, q2, q3⟩ := hW
        go_simp
      simp only [Act.put, List.setIfInBounds_toArray, List.set_cons_zero, List.set_cons_succ]
      refine wpAnyH_take (i := 3) (oi := { dst := some 16, op := Op.indexAddr 28 (Operand.tmp 14) (Operand.tmp 15), type := 0, pos := "ref.go:30", after := #[{ on := 1, ground := Ground.data }, { on := 2, ground := Ground.data }], guard := none }) (v := .pointer (some ⟨bA, offA + k, none⟩)) rfl (by kernel_rfl) (by kernel_rfl) (by kernel_rfl) (fun _ _ _ h => h) (Or.inl ⟨by rfl, fun W hW => ?_⟩) hHeld ?_
      · obtain ⟨q0, q1, q2, q3⟩ := hW
        go_simp
      simp only [Act.put, List.setIfInBounds_toArray, List.set_cons_zero, List.set_cons_succ]
      refine wpAnyH_take (i := 4) (oi := { dst := some 17, op := Op.load 5 (Operand.tmp 16), type := 5, pos := "ref.go:30", after := #[{ on := 3, ground := Ground.data }], guard := none }) (v := .int .u8 (u.toNat : Int)) rfl (by kernel_rfl) (by kernel_rfl) (by kernel_rfl) (fun _ _ _ h => h) (Or.inl ⟨by rfl, fun W hW => ?_⟩) hHeld ?_
      · obtain ⟨q0, q1, q2, q3⟩ := hW
        go_simp
      simp only [Act.put, List.setIfInBounds_toArray, List.set_cons_zero, List.set_cons_succ]
      refine wpAnyH_ready (rs := [5]) (by kernel_rfl) (by simp) ?_
      refine AllReadyH.cons (o := { dst := some 18, op := Op.call { callee := Callee.value (Operand.func 73), args := #[Operand.tmp 13, Operand.tmp 17], argTypes := #[25, 5] }, type := 4, pos := "ref.go:30", after := #[{ on := 0, ground := Ground.data }, { on := 4, ground := Ground.data }], guard := none }) rfl (fun K hK => ?_) AllReadyH.nil
      go_simp
      with_reducible refine (CP.out _ (Below.refl _ _).drew).mono ?_
      rintro e w2 ⟨rfl, hb2⟩
      have HB2 : Hid (Below wr.heap.size wr w2) := bCall (Below.refl _ _).drew hb2
      go_wp2_with fail
      refine hK.out _ _ (s4r HF.out HB2.out) (fun hHeld2 => ?_)
      clear hK K hHeld
      have hHeld := hHeld2
      clear hHeld2
      try simp only [Act.put, List.setIfInBounds_toArray, List.set_cons_zero, List.set_cons_succ]
      refine wpAnyH_take (i := 6) (oi := { dst := some 19, op := Op.unOp UnOp.not 4 (Operand.tmp 18), type := 4, pos := "ref.go:30", after := #[{ on := 5, ground := Ground.data }], guard := none }) (v := .bool false) rfl (by kernel_rfl) (by kernel_rfl) (by kernel_rfl) (fun _ _ _ h => h) (Or.inl ⟨by rfl, fun W hW => ?_⟩) hHeld ?_
      · obtain ⟨q0, q1, q2, q3⟩ := hW
        go_simp
      simp only [Act.put, List.setIfInBounds_toArray, List.set_cons_zero, List.set_cons_succ]
      refine wpAnyH_done (by kernel_rfl) ?_ _
      have HB3 : Hid (Below V.heap.size V w2) := bCall HBk.out HB2.out
      have HO3 := keepd (HO.out.below HB2.out)
      clear HB2 hb2 HF CP HO HBk
      have cew2 := (HR0.out.at_ (bCall HB.out HB3.out)).cellk hkl
      rw [hu0] at cew2
      have ltw2 : bA < w2.heap.size := Nat.lt_of_lt_of_le hbA (bCall HB.out HB3.out).size
      go_wp2_with (at_builtin; refine wpList_app _ rfl (.tmp 24) (.tmp 29) rfl V.heap.size u5 (toldL X (l.take k)) rfl (HO3.out.alloc _) _ _ 1 1 [u] rfl rfl ((one_rdb w2 u)) (by have h1 := HLE.out; have h2 : (kL X 14).length ≤ 1 := kN_len X 14 1; (try rw [List.length_append]); simp; omega) ?_ ?_)
      · exact (bAlloc HB3.out _).size
      intro v4 w4 ho4 hg4 _
      have HB4 := keepd (app_below (bAlloc HB3.out _) (HO3.out.alloc _) hg4)
      have HO4 : Hid (Own w4 V.heap.size v4 (toldL X (l.take (k + 1)))) := by
        show Own _ _ _ _
        rw [HSU.out, HT1.out]
        exact ho4
      clear ho4 hg4 HO3 HB3 cew2 ltw2
      go_wp2_with fail
      go_roundw
      case rel => exact ⟨k + 1, by omega, by go_num, HO4, HB4⟩
      case measure => simp [intOf]; omega
    case false =>
      go_wp2_with fail
      refine wp_region_held_drew (S := fun W => rowOf W w.heap.size = (cs X).toArray ∧ isRow W 25 w.heap.size 62 = true ∧ W.cell? ⟨bA, offA + k, none⟩ = some (.int .u8 (u.toNat : Int)) ∧ Below wr.heap.size wr W) (by kernel_rfl) (s4r HF.out (Below.refl _ _).drew) (fun hHeld => ?_)
      refine wpAnyH_take (i := 0) (oi := { dst := some 13, op := Op.load 25 (Operand.tmp 2), type := 25, pos := "ref.go:30", after := #[], guard := none }) (v := tv X) rfl (by kernel_rfl) (by kernel_rfl) (by kernel_rfl) (fun _ _ _ h => h) (Or.inl ⟨by rfl, fun W hW => ?_⟩) hHeld ?_
      · obtain ⟨q0, q1, q2, q3⟩ := hW
        go_simp
      simp only [Act.put, List.setIfInBounds_toArray, List.set_cons_zero, List.set_cons_succ]
      refine wpAnyH_take (i := 1) (oi := { dst := some 14, op := Op.move (Operand.tmp 1), type := 28, pos := "ref.go:30", after := #[], guard := none }) (v := .slice (some ⟨bA, offA, none⟩) n c) rfl (by kernel_rfl) (by kernel_rfl) (by kernel_rfl) (fun _ _ _ h => h) (Or.inl ⟨by rfl, fun W hW => ?_⟩) hHeld ?_
      · obtain ⟨q0, q1, q2, q3⟩ := hW
        go_simp
      simp only [Act.put, List.setIfInBounds_toArray, List.set_cons_zero, List.set_cons_succ]
      refine wpAnyH_take (i := 2) (oi := { dst := some 15, op := Op.move (Operand.tmp 6), type := 3, pos := "ref.go:30", after := #[], guard := none }) (v := .int .i64 (k : Int)) rfl (by kernel_rfl) (by kernel_rfl) (by kernel_rfl) (fun _ _ _ h => h) (Or.inl ⟨by rfl, fun W hW => ?_⟩) hHeld ?_
      · obtain ⟨q0, q1, q2, q3⟩ := hW
        go_simp
      simp only [Act.put, List.setIfInBounds_toArray, List.set_cons_zero, List.set_cons_succ]
      refine wpAnyH_take (i := 3) (oi := { dst := some 16, op := Op.indexAddr 28 (Operand.tmp 14) (Operand.tmp 15), type := 0, pos := "ref.go:30", after := #[{ on := 1, ground := Ground.data }, { on := 2, ground := Ground.data }], guard := none }) (v := .pointer (some ⟨bA, offA + k, none⟩)) rfl (by kernel_rfl) (by kernel_rfl) (by kernel_rfl) (fun _ _ _ h => h) (Or.inl ⟨by rfl, fun W hW => ?_⟩) hHeld ?_
      · obtain ⟨q0, q1, q2, q3⟩ := hW
        go_simp
      simp only [Act.put, List.setIfInBounds_toArray, List.set_cons_zero, List.set_cons_succ]
      refine wpAnyH_take (i := 4) (oi := { dst := some 17, op := Op.load 5 (Operand.tmp 16), type := 5, pos := "ref.go:30", after := #[{ on := 3, ground := Ground.data }], guard := none }) (v := .int .u8 (u.toNat : Int)) rfl (by kernel_rfl) (by kernel_rfl) (by kernel_rfl) (fun _ _ _ h => h) (Or.inl ⟨by rfl, fun W hW => ?_⟩) hHeld ?_
      · obtain ⟨q0, q1, q2, q3⟩ := hW
        go_simp
      simp only [Act.put, List.setIfInBounds_toArray, List.set_cons_zero, List.set_cons_succ]
      refine wpAnyH_ready (rs := [5]) (by kernel_rfl) (by simp) ?_
      refine AllReadyH.cons (o := { dst := some 18, op := Op.call { callee := Callee.value (Operand.func 73), args := #[Operand.tmp 13, Operand.tmp 17], argTypes := #[25, 5] }, type := 4, pos := "ref.go:30", after := #[{ on := 0, ground := Ground.data }, { on := 4, ground := Ground.data }], guard := none }) rfl (fun K hK => ?_) AllReadyH.nil
      go_simp
      with_reducible refine (CP.out _ (Below.refl _ _).drew).mono ?_
      rintro e w2 ⟨rfl, hb2⟩
      have HB2 : Hid (Below wr.heap.size wr w2) := bCall (Below.refl _ _).drew hb2
      go_wp2_with fail
      refine hK.out _ _ (s4r HF.out HB2.out) (fun hHeld2 => ?_)
      clear hK K hHeld
      have hHeld := hHeld2
      clear hHeld2
      try simp only [Act.put, List.setIfInBounds_toArray, List.set_cons_zero, List.set_cons_succ]
      refine wpAnyH_take (i := 6) (oi := { dst := some 19, op := Op.unOp UnOp.not 4 (Operand.tmp 18), type := 4, pos := "ref.go:30", after := #[{ on := 5, ground := Ground.data }], guard := none }) (v := .bool true) rfl (by kernel_rfl) (by kernel_rfl) (by kernel_rfl) (fun _ _ _ h => h) (Or.inl ⟨by rfl, fun W hW => ?_⟩) hHeld ?_
      · obtain ⟨q0, q1, q2, q3⟩ := hW
        go_simp
      simp only [Act.put, List.setIfInBounds_toArray, List.set_cons_zero, List.set_cons_succ]
      refine wpAnyH_done (by kernel_rfl) ?_ _
      have HB3 : Hid (Below V.heap.size V w2) := bCall HBk.out HB2.out
      have HO3 := keepd (HO.out.below HB2.out)
      clear HB2 hb2 HF CP HO HBk
      have HTk : Hid (TB w2 w.heap.size X) := SR.call HT.out HB3.out (SR.lt HT.out)
      obtain ⟨q0, q1⟩ := TB.facts HTk.out
      go_wp2_with fail
      with_reducible refine (CK.out _).mono ?_
      rintro e x3 ⟨⟨D, dd, rfl, hr3⟩, hb3⟩
      have HBX := keepd (bCall HB3.out hb3)
      have HRX := keepd hr3
      have HOX := keepd (HO3.out.below hb3)
      clear hr3 hb3 HO3 HB3 q0 q1 HTk
      go_wp2_with (at_builtin; refine wpList_app _ rfl (.tmp 20) (.tmp 22) rfl V.heap.size u5 (toldL X (l.take k)) rfl HOX.out _ D j dd (kL X 14) rfl HJ.out HRX.out (by have h1 := HLE.out; have h2 : (kL X 14).length ≤ 1 := kN_len X 14 1; omega) ?_ ?_)
      · exact HBX.out.size
      intro v3 w3 ho3 hg3 _
      have HB3 := keepd (app_below HBX.out HOX.out hg3)
      have HO3 := keepd ho3
      clear ho3 hg3 HOX HRX HBX
      have cew3 := (HR0.out.at_ (bCall HB.out HB3.out)).cellk hkl
      rw [hu0] at cew3
      have ltw3 : bA < w3.heap.size := Nat.lt_of_lt_of_le hbA (bCall HB.out HB3.out).size
      go_wp2_with (at_builtin; refine wpList_app _ rfl (.tmp 24) (.tmp 29) rfl V.heap.size v3 (toldL X (l.take k) ++ kL X 14) rfl (HO3.out.alloc _) _ _ 1 1 [u] rfl rfl ((one_rdb w3 u)) (by have h1 := HLE.out; have h2 : (kL X 14).length ≤ 1 := kN_len X 14 1; (try rw [List.length_append]); simp; omega) ?_ ?_)
      · exact (bAlloc HB3.out _).size
      intro v4 w4 ho4 hg4 _
      have HB4 := keepd (app_below (bAlloc HB3.out _) (HO3.out.alloc _) hg4)
      have HO4 : Hid (Own w4 V.heap.size v4 (toldL X (l.take (k + 1)))) := by
        show Own _ _ _ _
        rw [HSU.out, HT1.out]
        exact ho4
      clear ho4 hg4 HO3 HB3 cew3 ltw3
      go_wp2_with fail
      go_roundw
      case rel => exact ⟨k + 1, by omega, by go_num, HO4, HB4⟩
      case measure => simp [intOf]; omega

end Go.Proofs.YtlfmbfecajhffaaDoor
