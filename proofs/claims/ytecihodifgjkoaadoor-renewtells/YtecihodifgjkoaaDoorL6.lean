/-
  RenewTells walked. No conditions beyond those each theorem states.
-/
import Derived.Test.YtecihodifgjkoaaDoorR7
namespace Go.Proofs.YtecihodifgjkoaaDoor
open Go.RowKit
set_option maxRecDepth 100000

attribute [local go_sem ↓] ex_ld25 ex_st25 ex_al25 ex_bu25 ex_ix25 ex_eq25 ex_ne25 ex_eq23 ex_ne23 ex_ld25o ex_st65 ex_al65 ex_bu65 ex_bu65s ex_ld38 ex_ld25w ex_bu38
attribute [local go_sem] ptrB_at okPtr_at aggC_at agg62 agg69 isC_at isT_at eqV_t eqV_c isRow_new isRow_new65 World.setRow_alloc_new ptr4_at okPtr4_at cutT_at isI_at isS_at bW_at bWs_at ptrW_at okPtrW_at cutW_at isL_at bY_at

theorem sTS {V W : World} {g p n c : Nat} {X : Tb} {A : Option Addr} {z : Int} {ov li : Bool} (h : TB V g X ∧ SR 30 V p [.slice A n c, .int .i64 z, .bool ov, .bool li]) (hb : Below V.heap.size V W) :
    rowOf W g = (cs X).toArray ∧ isRow W 25 g 62 = true ∧ W.cell? ⟨p, 0, none⟩ = some (.slice A n c) ∧ W.cell? ⟨p, 1, none⟩ = some (.int .i64 z) ∧ W.cell? ⟨p, 2, none⟩ = some (.bool ov) ∧ W.cell? ⟨p, 3, none⟩ = some (.bool li) ∧ Below V.heap.size V W := by
  have k := SR.call h.2 hb h.2.lt
  exact ⟨(tB h.1 hb).1, (tB h.1 hb).2.1, k.cell 0, k.cell 1, k.cell 2, k.cell 3, hb⟩
theorem set4_srB {w V : World} {g : Nat} {a b x y a' b' x' y' : Value} (h : SR 30 w g [a', b', x', y']) (hV : set4 w g a b x y = V) : SR 30 V g [a, b, x, y] := by
  subst hV
  exact set4_sr h
theorem set4_tbB {w V : World} {g h : Nat} {X : Tb} {a b x y : Value} (H : TB w g X) (hg : g ≠ h) (hV : set4 w h a b x y = V) : TB V g X := by
  subst hV
  exact (set4_heap _ _ _ _ _ _ hg).trans H
theorem rkeys_go (X : Tb) (hX : TbO X) (A : Option Addr) (l : List UInt8) (n c : Nat) (z : Int) (ov li : Bool) (w : World) (hn : n = l.length) (hr : Rd w w.heap.size A l c) (L : List UInt8) (m : Nat) (hL : keysG X l z ov li = L) (hm : L.length = m) :
    Calls Tryd.prog 14 #[tv X, .agg #[.slice A n c, .int .i64 z, .bool ov, .bool li]] w (GotR w L m) := by
  subst hL hm
  unfold keysG
  cases h : mayV l.length z
  · exact rkbad_any X A n c z ov li w (by rw [hn]; exact h)
  · obtain ⟨h1, h2⟩ := mayV_ok (ov := ov) (li := li) h
    have := rkgood_any X hX A l n c z.toNat ov li w hn hr (by rw [hn]; exact h1.1) (by rw [hn]; exact h1.2) _ _ rfl rfl
    rw [h2] at this
    exact this
set_option maxHeartbeats 8000000 in
theorem tells_law (X : Tb) (hX : TbO X) (A : Option Addr) (l : List UInt8) (c : Nat) (z : Int) (ov li : Bool) (u : UInt8) (w : World) (hL : Laid w) (hr : Rd w w.heap.size A l c) :
    Calls Tryd.prog 3 #[tv X, .agg #[.slice A l.length c, .int .i64 z, .bool ov, .bool li], .int .u8 (u.toNat : Int)] w fun e w' => e = .returned (.bool true) ∧ Below w.heap.size w w' := by
  obtain ⟨n, hn⟩ : ∃ n, n = l.length := ⟨_, rfl⟩
  rw [← hn]
  have HX := keepd hX
  have HLD := keepd hL
  have HR0 := keepd hr
  obtain ⟨m, hm⟩ : ∃ m, (fewL l).length = m := ⟨_, rfl⟩
  have CO0 := keepd fun (W : World) (h : Rd W W.heap.size A l c) => one_any A l n c m z ov li W hn h hm
  have HM := keepd hm
  obtain ⟨r, hrr⟩ : ∃ r, plainB X u = r := ⟨_, rfl⟩
  have CP1 := keepd fun W : World => plain_any X u r hrr W
  have CP2 := keepd fun W : World => rplain_any X u r hrr W
  clear hX hL hr hn hm hrr
  go_enter Tryd.func3, Tryd.ntmps3
  go_upto_region 1 with fail
  generalize hV : (w.alloc (.cells (cs X).toArray 25)).alloc (.cells #[.slice A n c, .int .i64 z, .bool ov, .bool li] 30) = V0
  obtain ⟨HT0, HS0, HB0⟩ := tabst_new _ _ _ _ _ _ _ hV
  obtain ⟨k0, k1, k2, k3, _, _, _, _, kt⟩ := st_facts HS0.out
  clear hV
  go_wp2_with fail
  with_reducible refine (CO0.out _ (HR0.out.at_ HB0.out)).mono ?_
  rintro e w1 ⟨rfl, hb1⟩
  have HB1 := keepd (bCall HB0.out hb1)
  have HT1 := keepd (SR.call HT0.out hb1 (SR.lt HT0.out))
  have HS1 := keepd (SR.call HS0.out hb1 HS0.out.lt)
  have HR1 := keepd (HR0.out.few.at_ HB1.out)
  clear hb1 CO0 k0 k1 k2 k3 kt HT0 HS0 HB0
  generalize fewL l = x at *
  obtain ⟨k0, k1, k2, k3, f0, f1, f2, f3, kt⟩ := st_facts HS1.out
  go_upto_region 2 with fail
  generalize hV : (((w1.setCell ⟨w.heap.size + 1, 0, none⟩ (.slice A m c)).setCell ⟨w.heap.size + 1, 1, none⟩ (.int .i64 z)).setCell ⟨w.heap.size + 1, 2, none⟩ (.bool ov)).setCell ⟨w.heap.size + 1, 3, none⟩ (.bool li) = V
  have FS : Hid (TB V w.heap.size X ∧ SR 30 V (w.heap.size + 1) [.slice A m c, .int .i64 z, .bool ov, .bool li]) := ⟨set4_tbB HT1.out (show w.heap.size ≠ w.heap.size + 1 by omega) hV, set4_srB HS1.out hV⟩
  have HB : Hid (Below w.heap.size w V) := by rw [← hV]; exact set4_below HB1.out (by omega)
  have HR : Hid (Rd V V.heap.size A x c) := by rw [← hV]; exact HR1.out.setSt (w' := set4 w1 (w.heap.size + 1) (.slice A m c) (.int .i64 z) (.bool ov) (.bool li)) HS1.out (by rw [set4_size]; exact Nat.le_refl _) fun k hk => set4_heap _ _ _ _ _ _ hk
  clear hV k0 k1 k2 k3 f0 f1 f2 f3 kt HS1 HT1 HB1 HR1 HR0
  obtain ⟨L, hl⟩ : ∃ L, keysG X x z ov li = L := ⟨_, rfl⟩
  obtain ⟨k, hk⟩ : ∃ k, L.length = k := ⟨_, rfl⟩
  have CK1 := keepd fun (W : World) (hb : Below V.heap.size V W) => keys_go X HX.out A x m c z ov li W HM.out.symm (HR.out.at_ hb) L k hl hk
  have CK2 := keepd fun (W : World) (hb : Below V.heap.size V W) => rkeys_go X HX.out A x m c z ov li W HM.out.symm (HR.out.at_ hb) L k hl hk
  have CO := keepd fun (W : World) (B D : Option Addr) (b d : Nat) (h : Rd W W.heap.size B L b) (h' : Rd W W.heap.size D L d) => octets_any B D L L k k b d true W hk.symm hk.symm h h' (by simp)
  have CW := keepd fun (W : World) (hb : Below V.heap.size V W) => awake_any W (HLD.out.below (bCall HB.out hb))
  clear hl hk HR
  refine wp_region_held_drew (S := fun W => rowOf W w.heap.size = (cs X).toArray ∧ isRow W 25 w.heap.size 62 = true ∧ W.cell? ⟨w.heap.size + 1, 0, none⟩ = some (.slice A m c) ∧ W.cell? ⟨w.heap.size + 1, 1, none⟩ = some (.int .i64 z) ∧ W.cell? ⟨w.heap.size + 1, 2, none⟩ = some (.bool ov) ∧ W.cell? ⟨w.heap.size + 1, 3, none⟩ = some (.bool li) ∧ Below V.heap.size V W) (by kernel_rfl) (sTS FS.out (Below.refl _ _).drew) (fun hHeld => ?_)
  refine wpAnyH_take (i := 0) (oi := { dst := some 9, op := Op.load 25 (Operand.tmp 3), type := 25, pos := "law.go:39", after := #[], guard := none }) (v := tv X) rfl (by kernel_rfl) (by kernel_rfl) (by kernel_rfl) (fun _ _ _ h => h) (Or.inl ⟨by rfl, fun W hW => ?_⟩) hHeld ?_
  · obtain ⟨q0, q1, q2, q3, q4, q5, q6⟩ := hW
    go_simp
  simp only [Act.put, List.setIfInBounds_toArray, List.set_cons_zero, List.set_cons_succ]
  refine wpAnyH_take (i := 1) (oi := { dst := some 10, op := Op.move (Operand.tmp 2), type := 5, pos := "law.go:39", after := #[], guard := none }) (v := .int .u8 (u.toNat : Int)) rfl (by kernel_rfl) (by kernel_rfl) (by kernel_rfl) (fun _ _ _ h => h) (Or.inl ⟨by rfl, fun W hW => ?_⟩) hHeld ?_
  · obtain ⟨q0, q1, q2, q3, q4, q5, q6⟩ := hW
    go_simp
  simp only [Act.put, List.setIfInBounds_toArray, List.set_cons_zero, List.set_cons_succ]
  refine wpAnyH_take (i := 3) (oi := { dst := some 12, op := Op.load 25 (Operand.tmp 3), type := 25, pos := "law.go:39", after := #[], guard := none }) (v := tv X) rfl (by kernel_rfl) (by kernel_rfl) (by kernel_rfl) (fun _ _ _ h => h) (Or.inl ⟨by rfl, fun W hW => ?_⟩) hHeld ?_
  · obtain ⟨q0, q1, q2, q3, q4, q5, q6⟩ := hW
    go_simp
  simp only [Act.put, List.setIfInBounds_toArray, List.set_cons_zero, List.set_cons_succ]
  refine wpAnyH_take (i := 4) (oi := { dst := some 13, op := Op.move (Operand.tmp 2), type := 5, pos := "law.go:39", after := #[], guard := none }) (v := .int .u8 (u.toNat : Int)) rfl (by kernel_rfl) (by kernel_rfl) (by kernel_rfl) (fun _ _ _ h => h) (Or.inl ⟨by rfl, fun W hW => ?_⟩) hHeld ?_
  · obtain ⟨q0, q1, q2, q3, q4, q5, q6⟩ := hW
    go_simp
  simp only [Act.put, List.setIfInBounds_toArray, List.set_cons_zero, List.set_cons_succ]
  refine wpAnyH_ready (rs := [2]) (by kernel_rfl) (by simp) ?_
  refine AllReadyH.cons (o := { dst := some 11, op := Op.call { callee := Callee.value (Operand.func 10), args := #[Operand.tmp 9, Operand.tmp 10], argTypes := #[25, 5] }, type := 4, pos := "law.go:39", after := #[{ on := 0, ground := Ground.data }, { on := 1, ground := Ground.data }], guard := none }) rfl (fun K hK => ?_) AllReadyH.nil
  go_simp
  with_reducible refine (CP1.out _).mono ?_
  rintro e w2 ⟨rfl, hb2⟩
  have HB2 : Hid (Below V.heap.size V w2) := bCall (Below.refl _ _).drew hb2
  go_wp2_with fail
  refine hK.out _ _ (sTS FS.out HB2.out) (fun hHeld2 => ?_)
  clear hK K hHeld
  have hHeld := hHeld2
  clear hHeld2
  try simp only [Act.put, List.setIfInBounds_toArray, List.set_cons_zero, List.set_cons_succ]
  refine wpAnyH_ready (rs := [5]) (by kernel_rfl) (by simp) ?_
  refine AllReadyH.cons (o := { dst := some 14, op := Op.call { callee := Callee.value (Operand.func 11), args := #[Operand.tmp 12, Operand.tmp 13], argTypes := #[25, 5] }, type := 4, pos := "law.go:39", after := #[{ on := 3, ground := Ground.data }, { on := 4, ground := Ground.data }, { on := 2, ground := Ground.chain }], guard := none }) rfl (fun K hK => ?_) AllReadyH.nil
  go_simp
  with_reducible refine (CP2.out _).mono ?_
  rintro e w3 ⟨rfl, hb3⟩
  have HB3 : Hid (Below V.heap.size V w3) := bCall HB2.out hb3
  go_wp2_with fail
  refine hK.out _ _ (sTS FS.out HB3.out) (fun hHeld2 => ?_)
  clear hK K hHeld
  have hHeld := hHeld2
  clear hHeld2
  try simp only [Act.put, List.setIfInBounds_toArray, List.set_cons_zero, List.set_cons_succ]
  refine wpAnyH_take (i := 6) (oi := { dst := some 15, op := Op.binOp BinOp.eql 4 (Operand.tmp 11) (Operand.tmp 14) 4, type := 4, pos := "law.go:39", after := #[{ on := 2, ground := Ground.data }, { on := 5, ground := Ground.data }], guard := none }) (v := .bool true) rfl (by kernel_rfl) (by kernel_rfl) (by kernel_rfl) (fun _ _ _ h => h) (Or.inl ⟨by rfl, fun W hW => ?_⟩) hHeld ?_
  · obtain ⟨q0, q1, q2, q3, q4, q5, q6⟩ := hW
    have hrr : (r == r) = true := by simp
    go_simp
  simp only [Act.put, List.setIfInBounds_toArray, List.set_cons_zero, List.set_cons_succ]
  refine wpAnyH_take (i := 7) (oi := { dst := some 16, op := Op.move (Operand.tmp 15), type := 4, pos := "law.go:39", after := #[{ on := 6, ground := Ground.data }, { on := 5, ground := Ground.chain }], guard := none }) (v := .bool true) rfl (by kernel_rfl) (by kernel_rfl) (by kernel_rfl) (fun _ _ _ h => h) (Or.inl ⟨by rfl, fun W hW => ?_⟩) hHeld ?_
  · obtain ⟨q0, q1, q2, q3, q4, q5, q6⟩ := hW
    go_simp
  simp only [Act.put, List.setIfInBounds_toArray, List.set_cons_zero, List.set_cons_succ]
  refine wpAnyH_take (i := 8) (oi := { dst := some 17, op := Op.load 25 (Operand.tmp 3), type := 25, pos := "law.go:39", after := #[{ on := 7, ground := Ground.guard }], guard := some (7, true) }) (v := tv X) rfl (by kernel_rfl) (by kernel_rfl) (by kernel_rfl) (fun _ _ _ h => h) (Or.inl ⟨by rfl, fun W hW => ?_⟩) hHeld ?_
  · obtain ⟨q0, q1, q2, q3, q4, q5, q6⟩ := hW
    go_simp
  simp only [Act.put, List.setIfInBounds_toArray, List.set_cons_zero, List.set_cons_succ]
  refine wpAnyH_take (i := 9) (oi := { dst := some 18, op := Op.load 30 (Operand.tmp 4), type := 30, pos := "law.go:39", after := #[{ on := 7, ground := Ground.guard }], guard := some (7, true) }) (v := .agg #[.slice A m c, .int .i64 z, .bool ov, .bool li]) rfl (by kernel_rfl) (by kernel_rfl) (by kernel_rfl) (fun _ _ _ h => h) (Or.inl ⟨by rfl, fun W hW => ?_⟩) hHeld ?_
  · obtain ⟨q0, q1, q2, q3, q4, q5, q6⟩ := hW
    go_simp
  simp only [Act.put, List.setIfInBounds_toArray, List.set_cons_zero, List.set_cons_succ]
  refine wpAnyH_take (i := 11) (oi := { dst := some 20, op := Op.load 25 (Operand.tmp 3), type := 25, pos := "law.go:39", after := #[{ on := 7, ground := Ground.guard }], guard := some (7, true) }) (v := tv X) rfl (by kernel_rfl) (by kernel_rfl) (by kernel_rfl) (fun _ _ _ h => h) (Or.inl ⟨by rfl, fun W hW => ?_⟩) hHeld ?_
  · obtain ⟨q0, q1, q2, q3, q4, q5, q6⟩ := hW
    go_simp
  simp only [Act.put, List.setIfInBounds_toArray, List.set_cons_zero, List.set_cons_succ]
  refine wpAnyH_take (i := 12) (oi := { dst := some 21, op := Op.load 30 (Operand.tmp 4), type := 30, pos := "law.go:39", after := #[{ on := 7, ground := Ground.guard }], guard := some (7, true) }) (v := .agg #[.slice A m c, .int .i64 z, .bool ov, .bool li]) rfl (by kernel_rfl) (by kernel_rfl) (by kernel_rfl) (fun _ _ _ h => h) (Or.inl ⟨by rfl, fun W hW => ?_⟩) hHeld ?_
  · obtain ⟨q0, q1, q2, q3, q4, q5, q6⟩ := hW
    go_simp
  simp only [Act.put, List.setIfInBounds_toArray, List.set_cons_zero, List.set_cons_succ]
  refine wpAnyH_ready (rs := [10]) (by kernel_rfl) (by simp) ?_
  refine AllReadyH.cons (o := { dst := some 19, op := Op.call { callee := Callee.value (Operand.func 13), args := #[Operand.tmp 17, Operand.tmp 18], argTypes := #[25, 30] }, type := 26, pos := "law.go:39", after := #[{ on := 8, ground := Ground.data }, { on := 9, ground := Ground.data }, { on := 7, ground := Ground.chain }, { on := 7, ground := Ground.guard }], guard := some (7, true) }) rfl (fun K hK => ?_) AllReadyH.nil
  go_simp
  with_reducible refine (CK1.out _ HB3.out).mono ?_
  rintro e w4 ⟨⟨A4, c4, rfl, ho4⟩, hb4⟩
  have HB4 : Hid (Below V.heap.size V w4) := bCall HB3.out hb4
  go_wp2_with fail
  refine hK.out _ _ (sTS FS.out HB4.out) (fun hHeld2 => ?_)
  clear hK K hHeld
  have hHeld := hHeld2
  clear hHeld2
  try simp only [Act.put, List.setIfInBounds_toArray, List.set_cons_zero, List.set_cons_succ]
  refine wpAnyH_ready (rs := [13]) (by kernel_rfl) (by simp) ?_
  refine AllReadyH.cons (o := { dst := some 22, op := Op.call { callee := Callee.value (Operand.func 14), args := #[Operand.tmp 20, Operand.tmp 21], argTypes := #[25, 30] }, type := 26, pos := "law.go:39", after := #[{ on := 11, ground := Ground.data }, { on := 12, ground := Ground.data }, { on := 10, ground := Ground.chain }, { on := 7, ground := Ground.guard }], guard := some (7, true) }) rfl (fun K hK => ?_) AllReadyH.nil
  go_simp
  with_reducible refine (CK2.out _ HB4.out).mono ?_
  rintro e w5 ⟨⟨A5, c5, rfl, hr5⟩, hb5⟩
  have HB5 : Hid (Below V.heap.size V w5) := bCall HB4.out hb5
  go_wp2_with fail
  refine hK.out _ _ (sTS FS.out HB5.out) (fun hHeld2 => ?_)
  clear hK K hHeld
  have hHeld := hHeld2
  clear hHeld2
  try simp only [Act.put, List.setIfInBounds_toArray, List.set_cons_zero, List.set_cons_succ]
  refine wpAnyH_ready (rs := [14]) (by kernel_rfl) (by simp) ?_
  refine AllReadyH.cons (o := { dst := some 23, op := Op.call { callee := Callee.value (Operand.func 12), args := #[Operand.tmp 19, Operand.tmp 22], argTypes := #[26, 26] }, type := 4, pos := "law.go:39", after := #[{ on := 10, ground := Ground.data }, { on := 13, ground := Ground.data }, { on := 13, ground := Ground.chain }, { on := 7, ground := Ground.guard }], guard := some (7, true) }) rfl (fun K hK => ?_) AllReadyH.nil
  go_simp
  with_reducible refine (CO.out _ A4 A5 c4 c5 (ho4.rdOf.at_ hb5) hr5).mono ?_
  rintro e w6 ⟨rfl, hw6⟩
  rw [hw6]
  go_wp2_with fail
  refine hK.out _ _ (sTS FS.out HB5.out) (fun hHeld2 => ?_)
  clear hK K hHeld
  have hHeld := hHeld2
  clear hHeld2
  try simp only [Act.put, List.setIfInBounds_toArray, List.set_cons_zero, List.set_cons_succ]
  refine wpAnyH_take (i := 15) (oi := { dst := some 24, op := Op.pick (Operand.tmp 16) (Operand.tmp 23) (Operand.const (Value.bool false)), type := 4, pos := "law.go:39", after := #[{ on := 7, ground := Ground.data }, { on := 14, ground := Ground.data }], guard := none }) (v := .bool true) rfl (by kernel_rfl) (by kernel_rfl) (by kernel_rfl) (fun _ _ _ h => h) (Or.inl ⟨by rfl, fun W hW => ?_⟩) hHeld ?_
  · obtain ⟨q0, q1, q2, q3, q4, q5, q6⟩ := hW
    go_simp
  simp only [Act.put, List.setIfInBounds_toArray, List.set_cons_zero, List.set_cons_succ]
  refine wpAnyH_take (i := 16) (oi := { dst := some 25, op := Op.move (Operand.tmp 24), type := 4, pos := "law.go:39", after := #[{ on := 15, ground := Ground.data }, { on := 14, ground := Ground.chain }], guard := none }) (v := .bool true) rfl (by kernel_rfl) (by kernel_rfl) (by kernel_rfl) (fun _ _ _ h => h) (Or.inl ⟨by rfl, fun W hW => ?_⟩) hHeld ?_
  · obtain ⟨q0, q1, q2, q3, q4, q5, q6⟩ := hW
    go_simp
  simp only [Act.put, List.setIfInBounds_toArray, List.set_cons_zero, List.set_cons_succ]
  refine wpAnyH_ready (rs := [17]) (by kernel_rfl) (by simp) ?_
  refine AllReadyH.cons (o := { dst := some 26, op := Op.call { callee := Callee.value (Operand.func 15), args := #[], argTypes := #[] }, type := 4, pos := "law.go:39", after := #[{ on := 16, ground := Ground.chain }, { on := 16, ground := Ground.guard }], guard := some (16, true) }) rfl (fun K hK => ?_) AllReadyH.nil
  go_simp
  with_reducible refine (CW.out _ HB5.out).mono ?_
  rintro e w7 ⟨rfl, hb7⟩
  have HB7 : Hid (Below V.heap.size V w7) := bCall HB5.out hb7
  go_wp2_with fail
  refine hK.out _ _ (sTS FS.out HB7.out) (fun hHeld2 => ?_)
  clear hK K hHeld
  have hHeld := hHeld2
  clear hHeld2
  try simp only [Act.put, List.setIfInBounds_toArray, List.set_cons_zero, List.set_cons_succ]
  refine wpAnyH_take (i := 18) (oi := { dst := some 27, op := Op.pick (Operand.tmp 25) (Operand.tmp 26) (Operand.const (Value.bool false)), type := 4, pos := "law.go:39", after := #[{ on := 16, ground := Ground.data }, { on := 17, ground := Ground.data }], guard := none }) (v := .bool true) rfl (by kernel_rfl) (by kernel_rfl) (by kernel_rfl) (fun _ _ _ h => h) (Or.inl ⟨by rfl, fun W hW => ?_⟩) hHeld ?_
  · obtain ⟨q0, q1, q2, q3, q4, q5, q6⟩ := hW
    go_simp
  simp only [Act.put, List.setIfInBounds_toArray, List.set_cons_zero, List.set_cons_succ]
  refine wpAnyH_take (i := 19) (oi := { dst := some 6, op := Op.assign (Operand.tmp 27), type := 4, pos := "law.go:39", after := #[{ on := 18, ground := Ground.data }, { on := 17, ground := Ground.chain }, { on := 0, ground := Ground.phase }, { on := 1, ground := Ground.phase }, { on := 2, ground := Ground.phase }, { on := 3, ground := Ground.phase }, { on := 4, ground := Ground.phase }, { on := 5, ground := Ground.phase }, { on := 6, ground := Ground.phase }, { on := 7, ground := Ground.phase }, { on := 8, ground := Ground.phase }, { on := 9, ground := Ground.phase }, { on := 10, ground := Ground.phase }, { on := 11, ground := Ground.phase }, { on := 12, ground := Ground.phase }, { on := 13, ground := Ground.phase }, { on := 14, ground := Ground.phase }, { on := 15, ground := Ground.phase }, { on := 16, ground := Ground.phase }, { on := 17, ground := Ground.phase }, { on := 18, ground := Ground.phase }], guard := none }) (v := .bool true) rfl (by kernel_rfl) (by kernel_rfl) (by kernel_rfl) (fun _ _ _ h => h) (Or.inl ⟨by rfl, fun W hW => ?_⟩) hHeld ?_
  · obtain ⟨q0, q1, q2, q3, q4, q5, q6⟩ := hW
    go_simp
  simp only [Act.put, List.setIfInBounds_toArray, List.set_cons_zero, List.set_cons_succ]
  refine wpAnyH_done (by kernel_rfl) ?_ _
  go_wp2_with fail
  go_ret
  exact ⟨rfl, bCall HB.out HB7.out⟩

end Go.Proofs.YtecihodifgjkoaaDoor
