/-
  RenewMakes walked. No conditions beyond those each theorem states.
-/
import Derived.Test.YtecihodifgjkoaaDoorN7
namespace Go.Proofs.YtecihodifgjkoaaDoor
open Go.RowKit
set_option maxRecDepth 100000

attribute [local go_sem ↓] ex_ld25 ex_st25 ex_al25 ex_bu25 ex_ix25 ex_eq25 ex_ne25 ex_eq23 ex_ne23 ex_ld25o ex_st65 ex_al65 ex_bu65 ex_bu65s ex_ld38 ex_ld25w ex_bu38
attribute [local go_sem] ptrB_at okPtr_at aggC_at agg62 agg69 isC_at isT_at eqV_t eqV_c isRow_new isRow_new65 World.setRow_alloc_new ptr4_at okPtr4_at cutT_at isI_at isS_at bW_at bWs_at ptrW_at okPtrW_at cutW_at isL_at bY_at

set_option maxHeartbeats 8000000 in
theorem makes_law (X : Tb) (hX : TbO X) (room : Int) (A : Option Addr) (us : List UInt8) (c : Nat) (w : World) (hL : Laid w) (hr : Rd w w.heap.size A us c) :
    Calls Tryd.prog 4 #[.agg (wy X room A us.length c).toArray] w fun e w' => e = .returned (.bool true) ∧ Below w.heap.size w w' := by
  obtain ⟨n, hn⟩ : ∃ n, n = us.length := ⟨_, rfl⟩
  rw [← hn]
  have HX := keepd hX
  have HLD := keepd hL
  have HR0 := keepd hr
  have HN := keepd hn
  obtain ⟨⟨l1, t1, ov1, li1⟩, hs⟩ : ∃ s, (playE X room ⟨zE, [], 0⟩ (fewK us)).s = s := ⟨_, rfl⟩
  have HI : Hid (Inv X room ⟨l1, t1, ov1, li1⟩) := by show Inv X room ⟨l1, t1, ov1, li1⟩; rw [← hs]; exact inv_play (Inv.zero X room)
  obtain ⟨n1, hn1⟩ : ∃ n1, l1.length = n1 := ⟨_, rfl⟩
  have HN1 := keepd hn1
  have CR0 := keepd fun (W : World) (h : Rd W W.heap.size A us c) => reached_any X room A us n c W hn h ⟨l1, t1, ov1, li1⟩ n1 hs hn1
  have HS := keepd hs
  clear hX hL hr hn hs hn1
  go_enter Tryd.func4, Tryd.ntmps4
  go_upto_region 1 with fail
  generalize hV : w.alloc (.cells (wy X room A n c).toArray 38) = V0
  obtain ⟨HW0, HB0⟩ := way_new _ _ _ hV
  obtain ⟨⟨r0, r1⟩, r2, r3⟩ := WY.facts HW0.out
  have CR := keepd fun (W : World) (hb : Below V0.heap.size V0 W) => CR0.out W ((HR0.out.at_ HB0.out).at_ hb)
  clear hV CR0
  go_wp2_with fail
  with_reducible refine (CR.out _ (Below.refl _ _)).mono ?_
  rintro e w1 ⟨A1, c1, rfl, hr1, hb1⟩
  go_upto_region 2 with fail
  generalize hV : w1.alloc (.cells #[.slice A1 n1 c1, .int .i64 (t1 : Int), .bool ov1, .bool li1] 30) = V
  generalize hb3 : w1.heap.size = b3
  have HV1 : Hid (Below V0.heap.size V0 V) := by rw [← hV]; exact bAlloc hb1 _
  have HR1 : Hid (Rd V V.heap.size A1 l1 c1) := by rw [← hV]; exact hr1.at_ (bAlloc (Below.refl _ _) _)
  have FS : Hid (WY V w.heap.size X room A n c ∧ SR 30 V b3 [.slice A1 n1 c1, .int .i64 (t1 : Int), .bool ov1, .bool li1]) := ⟨SR.call HW0.out HV1.out (SR.lt HW0.out), by rw [← hV, ← hb3]; exact heap_alloc_new w1 _⟩
  have HB1 := keepd (bCall HB0.out HV1.out)
  clear hV hb3 hr1 hb1 r0 r1 r2 r3 CR HV1 HW0 HB0
  obtain ⟨L, hl⟩ : ∃ L, keysL X ⟨l1, t1, ov1, li1⟩ = L := ⟨_, rfl⟩
  obtain ⟨k, hk⟩ : ∃ k, L.length = k := ⟨_, rfl⟩
  have hk9 : k ≤ 20000 := by have h := (keysL_len X ⟨l1, t1, ov1, li1⟩).1; rw [hl, hk] at h; have := HI.out.ok.2; have h3 : l1.length ≤ 4096 := this; omega
  have hmk : playE X room ⟨zE, [], 0⟩ L = ⟨⟨l1, t1, ov1, li1⟩, [], 0⟩ := by rw [← hl]; exact makes HX.out HI.out
  have CK := keepd fun (W : World) (hb : Below V.heap.size V W) => kgood_any X HX.out A1 l1 n1 c1 t1 ov1 li1 W HN1.out.symm (HR1.out.at_ hb) (by rw [← HN1.out]; exact HI.out.ok.1) (by rw [← HN1.out]; exact HI.out.ok.2) L k hl hk
  have CP : Hid (∀ (W : World) (B : Option Addr) (d : Nat), Below V.heap.size V W → Rd W W.heap.size B L d → Calls Tryd.prog 17 #[tv X, .int .i64 room, .agg #[.slice none 0 0, .int .i64 0, .bool false, .bool false], .slice B k d] W (GotP W l1 n1 (t1 : Int) ov1 li1 [] 0 0)) := fun W B d hb hu =>
    play_any X room none [] 0 0 0 false false B L k d W rfl (Rd.nil _ _) (Nat.le_refl _) (by omega) hk.symm hu (by omega) l1 n1 t1 ov1 li1 [] 0 0 hmk HN1.out rfl
  clear hl hk hk9 hmk
  go_cut [4, 5, 6] from 9 to 23 (fun s4 s5 s6 wx => ∃ (b8 : Nat) (Ax : Option Addr) (cx : Nat) (Bx : Option Addr) (dx : Nat), s4 = .pointer (some ⟨b8, 0, none⟩) ∧ s5 = .slice Bx 0 dx ∧ s6 = .int .i64 0 ∧ Hid (MidG V b8 l1 Ax n1 cx (t1 : Int) ov1 li1 [] Bx 0 dx wx))
  case first =>
    refine wp_region_held_drew (S := fun W => rowOf W w.heap.size = (wy X room A n c).toArray ∧ isRow W 38 w.heap.size 64 = true ∧ W.cell? ⟨w.heap.size, 62, none⟩ = some (.int .i64 room) ∧ W.cell? ⟨b3, 0, none⟩ = some (.slice A1 n1 c1) ∧ W.cell? ⟨b3, 1, none⟩ = some (.int .i64 (t1 : Int)) ∧ W.cell? ⟨b3, 2, none⟩ = some (.bool ov1) ∧ W.cell? ⟨b3, 3, none⟩ = some (.bool li1) ∧ Below V.heap.size V W) (by kernel_rfl) (sWs FS.out (Below.refl V.heap.size V).drew) (fun hHeld => ?_)
    refine wpAnyH_take (i := 0) (oi := { dst := some 10, op := Op.fieldAddr 38 (Operand.tmp 1) 0, type := 0, pos := "law.go:45", after := #[], guard := none }) (v := .pointer (some ⟨w.heap.size, 0, none⟩)) rfl (by kernel_rfl) (by kernel_rfl) (by kernel_rfl) (fun _ _ _ h => h) (Or.inl ⟨by rfl, fun W hW => ?_⟩) hHeld ?_
    · obtain ⟨q0, q1, q2, q3, q4, q5, q6, q7⟩ := hW
      go_simp
    simp only [Act.put, List.setIfInBounds_toArray, List.set_cons_zero, List.set_cons_succ]
    refine wpAnyH_take (i := 1) (oi := { dst := some 11, op := Op.load 25 (Operand.tmp 10), type := 25, pos := "law.go:45", after := #[{ on := 0, ground := Ground.data }], guard := none }) (v := tv X) rfl (by kernel_rfl) (by kernel_rfl) (by kernel_rfl) (fun _ _ _ h => h) (Or.inl ⟨by rfl, fun W hW => ?_⟩) hHeld ?_
    · obtain ⟨q0, q1, q2, q3, q4, q5, q6, q7⟩ := hW
      go_simp
    simp only [Act.put, List.setIfInBounds_toArray, List.set_cons_zero, List.set_cons_succ]
    refine wpAnyH_take (i := 2) (oi := { dst := some 12, op := Op.fieldAddr 38 (Operand.tmp 1) 1, type := 0, pos := "law.go:45", after := #[], guard := none }) (v := .pointer (some ⟨w.heap.size, 62, none⟩)) rfl (by kernel_rfl) (by kernel_rfl) (by kernel_rfl) (fun _ _ _ h => h) (Or.inl ⟨by rfl, fun W hW => ?_⟩) hHeld ?_
    · obtain ⟨q0, q1, q2, q3, q4, q5, q6, q7⟩ := hW
      go_simp
    simp only [Act.put, List.setIfInBounds_toArray, List.set_cons_zero, List.set_cons_succ]
    refine wpAnyH_take (i := 3) (oi := { dst := some 13, op := Op.load 3 (Operand.tmp 12), type := 3, pos := "law.go:45", after := #[{ on := 2, ground := Ground.data }], guard := none }) (v := .int .i64 room) rfl (by kernel_rfl) (by kernel_rfl) (by kernel_rfl) (fun _ _ _ h => h) (Or.inl ⟨by rfl, fun W hW => ?_⟩) hHeld ?_
    · obtain ⟨q0, q1, q2, q3, q4, q5, q6, q7⟩ := hW
      go_simp
    simp only [Act.put, List.setIfInBounds_toArray, List.set_cons_zero, List.set_cons_succ]
    refine wpAnyH_take (i := 4) (oi := { dst := some 14, op := Op.build 30 #[], type := 30, pos := "law.go:45", after := #[], guard := none }) (v := .agg #[.slice none 0 0, .int .i64 0, .bool false, .bool false]) rfl (by kernel_rfl) (by kernel_rfl) (by kernel_rfl) (fun _ _ _ h => h) (Or.inl ⟨by rfl, fun W hW => ?_⟩) hHeld ?_
    · obtain ⟨q0, q1, q2, q3, q4, q5, q6, q7⟩ := hW
      go_simp
    simp only [Act.put, List.setIfInBounds_toArray, List.set_cons_zero, List.set_cons_succ]
    refine wpAnyH_take (i := 5) (oi := { dst := some 15, op := Op.fieldAddr 38 (Operand.tmp 1) 0, type := 0, pos := "law.go:45", after := #[], guard := none }) (v := .pointer (some ⟨w.heap.size, 0, none⟩)) rfl (by kernel_rfl) (by kernel_rfl) (by kernel_rfl) (fun _ _ _ h => h) (Or.inl ⟨by rfl, fun W hW => ?_⟩) hHeld ?_
    · obtain ⟨q0, q1, q2, q3, q4, q5, q6, q7⟩ := hW
      go_simp
    simp only [Act.put, List.setIfInBounds_toArray, List.set_cons_zero, List.set_cons_succ]
    refine wpAnyH_take (i := 6) (oi := { dst := some 16, op := Op.load 25 (Operand.tmp 15), type := 25, pos := "law.go:45", after := #[{ on := 5, ground := Ground.data }], guard := none }) (v := tv X) rfl (by kernel_rfl) (by kernel_rfl) (by kernel_rfl) (fun _ _ _ h => h) (Or.inl ⟨by rfl, fun W hW => ?_⟩) hHeld ?_
    · obtain ⟨q0, q1, q2, q3, q4, q5, q6, q7⟩ := hW
      go_simp
    simp only [Act.put, List.setIfInBounds_toArray, List.set_cons_zero, List.set_cons_succ]
    refine wpAnyH_take (i := 7) (oi := { dst := some 17, op := Op.load 30 (Operand.tmp 3), type := 30, pos := "law.go:45", after := #[], guard := none }) (v := .agg #[.slice A1 n1 c1, .int .i64 (t1 : Int), .bool ov1, .bool li1]) rfl (by kernel_rfl) (by kernel_rfl) (by kernel_rfl) (fun _ _ _ h => h) (Or.inl ⟨by rfl, fun W hW => ?_⟩) hHeld ?_
    · obtain ⟨q0, q1, q2, q3, q4, q5, q6, q7⟩ := hW
      go_simp
    simp only [Act.put, List.setIfInBounds_toArray, List.set_cons_zero, List.set_cons_succ]
    refine wpAnyH_ready (rs := [8, 14]) (by kernel_rfl) (by simp) ?_
    refine AllReadyH.cons (o := { dst := some 18, op := Op.call { callee := Callee.value (Operand.func 13), args := #[Operand.tmp 16, Operand.tmp 17], argTypes := #[25, 30] }, type := 26, pos := "law.go:45", after := #[{ on := 6, ground := Ground.data }, { on := 7, ground := Ground.data }], guard := none }) rfl (fun K hK => ?_) (AllReadyH.cons (o := { dst := some 4, op := Op.alloc 30, type := 0, pos := "law.go:45", after := #[], guard := none }) rfl (fun K hK => ?_) AllReadyH.nil)
    · go_simp
      with_reducible refine (CK.out (V).drew (Below.refl V.heap.size V).drew).mono ?_
      rintro e w1 ⟨⟨Ak, ck, rfl, ho1⟩, hc1⟩
      have hb1 : Below V.heap.size V w1 := bCall (Below.refl V.heap.size V).drew hc1
      have hr1 := ho1.rdOf
      clear ho1
      go_wp2_with fail
      refine hK.out _ _ (sWs FS.out hb1) (fun hHeld2 => ?_)
      clear hK K hHeld
      have hHeld := hHeld2
      clear hHeld2
      try simp only [Act.put, List.setIfInBounds_toArray, List.set_cons_zero, List.set_cons_succ]
      refine wpAnyH_ready (rs := [9, 14]) (by kernel_rfl) (by simp) ?_
      refine AllReadyH.cons (o := { dst := some 19, op := Op.call { callee := Callee.value (Operand.func 17), args := #[Operand.tmp 11, Operand.tmp 13, Operand.tmp 14, Operand.tmp 18], argTypes := #[25, 3, 30, 26] }, type := 41, pos := "law.go:45", after := #[{ on := 1, ground := Ground.data }, { on := 3, ground := Ground.data }, { on := 4, ground := Ground.data }, { on := 8, ground := Ground.data }, { on := 8, ground := Ground.chain }], guard := none }) rfl (fun K hK => ?_) (AllReadyH.cons (o := { dst := some 4, op := Op.alloc 30, type := 0, pos := "law.go:45", after := #[], guard := none }) rfl (fun K hK => ?_) AllReadyH.nil)
      · go_simp
        with_reducible refine (CP.out w1 Ak ck hb1 hr1).mono ?_
        rintro e w2 ⟨Ax, cx, Bx, dx, Lx, rfl, e1x, e2x, hx2, hy2, hc2⟩
        have hb2 : Below V.heap.size V w2 := bCall hb1 hc2
        have hr2 := (hr1).at_ hc2
        go_wp2_with fail
        refine hK.out _ _ (sWs FS.out hb2) (fun hHeld2 => ?_)
        clear hK K hHeld
        have hHeld := hHeld2
        clear hHeld2
        try simp only [Act.put, List.setIfInBounds_toArray, List.set_cons_zero, List.set_cons_succ]
        refine wpAnyH_take (i := 10) (oi := { dst := some 9, op := Op.move (Operand.tmp 19), type := 41, pos := "law.go:45", after := #[{ on := 9, ground := Ground.data }], guard := none }) (v := .tuple #[.agg #[.slice Ax n1 cx, .int .i64 (t1 : Int), .bool ov1, .bool li1], .slice Bx 0 dx, .int .i64 0]) rfl (by kernel_rfl) (by kernel_rfl) (by kernel_rfl) (fun _ _ _ h => h) (Or.inl ⟨by rfl, fun W hW => ?_⟩) hHeld ?_
        · obtain ⟨q0, q1, q2, q3, q4, q5, q6, q7⟩ := hW
          go_simp
        simp only [Act.put, List.setIfInBounds_toArray, List.set_cons_zero, List.set_cons_succ]
        refine wpAnyH_take (i := 11) (oi := { dst := some 20, op := Op.extract (Operand.tmp 9) 0, type := 30, pos := "law.go:45", after := #[{ on := 10, ground := Ground.data }], guard := none }) (v := .agg #[.slice Ax n1 cx, .int .i64 (t1 : Int), .bool ov1, .bool li1]) rfl (by kernel_rfl) (by kernel_rfl) (by kernel_rfl) (fun _ _ _ h => h) (Or.inl ⟨by rfl, fun W hW => ?_⟩) hHeld ?_
        · obtain ⟨q0, q1, q2, q3, q4, q5, q6, q7⟩ := hW
          go_simp
        simp only [Act.put, List.setIfInBounds_toArray, List.set_cons_zero, List.set_cons_succ]
        refine wpAnyH_take (i := 12) (oi := { dst := some 21, op := Op.extract (Operand.tmp 9) 1, type := 40, pos := "law.go:45", after := #[{ on := 10, ground := Ground.data }, { on := 15, ground := Ground.gcOnly Departure.lateStores }], guard := none }) (v := .slice Bx 0 dx) rfl (by kernel_rfl) (by kernel_rfl) (by kernel_rfl) (fun _ _ _ h => h) (Or.inl ⟨by rfl, fun W hW => ?_⟩) hHeld ?_
        · obtain ⟨q0, q1, q2, q3, q4, q5, q6, q7⟩ := hW
          go_simp
        simp only [Act.put, List.setIfInBounds_toArray, List.set_cons_zero, List.set_cons_succ]
        refine wpAnyH_take (i := 13) (oi := { dst := some 22, op := Op.extract (Operand.tmp 9) 2, type := 3, pos := "law.go:45", after := #[{ on := 10, ground := Ground.data }, { on := 16, ground := Ground.gcOnly Departure.lateStores }], guard := none }) (v := .int .i64 0) rfl (by kernel_rfl) (by kernel_rfl) (by kernel_rfl) (fun _ _ _ h => h) (Or.inl ⟨by rfl, fun W hW => ?_⟩) hHeld ?_
        · obtain ⟨q0, q1, q2, q3, q4, q5, q6, q7⟩ := hW
          go_simp
        simp only [Act.put, List.setIfInBounds_toArray, List.set_cons_zero, List.set_cons_succ]
        refine wpAnyH_ready (rs := [14]) (by kernel_rfl) (by simp) ?_
        refine AllReadyH.cons (o := { dst := some 4, op := Op.alloc 30, type := 0, pos := "law.go:45", after := #[], guard := none }) rfl (fun K hK => ?_) AllReadyH.nil
        go_simp
        have hb3 : Below V.heap.size V (w2.alloc (.cells #[.slice none 0 0, .int .i64 0, .bool false, .bool false] 30)) := bAlloc hb2 (.cells #[.slice none 0 0, .int .i64 0, .bool false, .bool false] 30)
        have hz3 : SR 30 (w2.alloc (.cells #[.slice none 0 0, .int .i64 0, .bool false, .bool false] 30)) (w2.heap.size) [.slice none 0 0, .int .i64 0, .bool false, .bool false] := SR.new 30 (w2) [.slice none 0 0, .int .i64 0, .bool false, .bool false]
        have hv3 : V.heap.size ≤ w2.heap.size := by have h0 := Below.size hb2; exact h0
        have hx3 := (hx2).at_ (bAlloc (Below.refl _ _) (.cells #[.slice none 0 0, .int .i64 0, .bool false, .bool false] 30))
        have hy3 := (hy2).at_ (bAlloc (Below.refl _ _) (.cells #[.slice none 0 0, .int .i64 0, .bool false, .bool false] 30))
        refine hK.out _ _ (sWs FS.out hb3) (fun hHeld2 => ?_)
        clear hK K hHeld
        have hHeld := hHeld2
        clear hHeld2
        try simp only [Act.put, List.setIfInBounds_toArray, List.set_cons_zero, List.set_cons_succ]
        have HM := keepd (midg_a (n := n1) (z := (t1 : Int)) (ov := ov1) (li := li1) hb2 e1x e2x hx2 hy2)
        refine wpAnyH_ready (rs := [15]) (by kernel_rfl) (by simp) ?_
        refine AllReadyH.cons (o := { dst := none, op := Op.store 30 (Operand.tmp 4) (Operand.tmp 20), type := 0, pos := "law.go:45", after := #[{ on := 14, ground := Ground.data }, { on := 11, ground := Ground.data }, { on := 9, ground := Ground.chain }, { on := 0, ground := Ground.phase }, { on := 1, ground := Ground.phase }, { on := 2, ground := Ground.phase }, { on := 3, ground := Ground.phase }, { on := 4, ground := Ground.phase }, { on := 5, ground := Ground.phase }, { on := 6, ground := Ground.phase }, { on := 7, ground := Ground.phase }, { on := 8, ground := Ground.phase }, { on := 9, ground := Ground.phase }, { on := 10, ground := Ground.phase }, { on := 11, ground := Ground.phase }, { on := 12, ground := Ground.textOnly Departure.lateStores }, { on := 13, ground := Ground.textOnly Departure.lateStores }, { on := 14, ground := Ground.phase }], guard := none }) rfl (fun K hK => ?_) AllReadyH.nil
        go_simp
        refine hK.out _ _ (sWs FS.out HM.out.2.2.2) (fun hHeld2 => ?_)
        clear hK K hHeld
        have hHeld := hHeld2
        clear hHeld2
        try simp only [Act.put, List.setIfInBounds_toArray, List.set_cons_zero, List.set_cons_succ]
        refine wpAnyH_take (i := 16) (oi := { dst := some 5, op := Op.assign (Operand.tmp 21), type := 40, pos := "law.go:45", after := #[{ on := 12, ground := Ground.data }, { on := 15, ground := Ground.chain }, { on := 0, ground := Ground.phase }, { on := 1, ground := Ground.phase }, { on := 2, ground := Ground.phase }, { on := 3, ground := Ground.phase }, { on := 4, ground := Ground.phase }, { on := 5, ground := Ground.phase }, { on := 6, ground := Ground.phase }, { on := 7, ground := Ground.phase }, { on := 8, ground := Ground.phase }, { on := 9, ground := Ground.phase }, { on := 10, ground := Ground.phase }, { on := 11, ground := Ground.phase }, { on := 12, ground := Ground.phase }, { on := 13, ground := Ground.textOnly Departure.lateStores }, { on := 14, ground := Ground.phase }, { on := 15, ground := Ground.phase }], guard := none }) (v := .slice Bx 0 dx) rfl (by kernel_rfl) (by kernel_rfl) (by kernel_rfl) (fun _ _ _ h => h) (Or.inl ⟨by rfl, fun W hW => ?_⟩) hHeld ?_
        · obtain ⟨q0, q1, q2, q3, q4, q5, q6, q7⟩ := hW
          go_simp
        simp only [Act.put, List.setIfInBounds_toArray, List.set_cons_zero, List.set_cons_succ]
        refine wpAnyH_take (i := 17) (oi := { dst := some 6, op := Op.assign (Operand.tmp 22), type := 3, pos := "law.go:45", after := #[{ on := 13, ground := Ground.data }, { on := 16, ground := Ground.chain }, { on := 0, ground := Ground.phase }, { on := 1, ground := Ground.phase }, { on := 2, ground := Ground.phase }, { on := 3, ground := Ground.phase }, { on := 4, ground := Ground.phase }, { on := 5, ground := Ground.phase }, { on := 6, ground := Ground.phase }, { on := 7, ground := Ground.phase }, { on := 8, ground := Ground.phase }, { on := 9, ground := Ground.phase }, { on := 10, ground := Ground.phase }, { on := 11, ground := Ground.phase }, { on := 12, ground := Ground.phase }, { on := 13, ground := Ground.phase }, { on := 14, ground := Ground.phase }, { on := 15, ground := Ground.phase }, { on := 16, ground := Ground.phase }], guard := none }) (v := .int .i64 0) rfl (by kernel_rfl) (by kernel_rfl) (by kernel_rfl) (fun _ _ _ h => h) (Or.inl ⟨by rfl, fun W hW => ?_⟩) hHeld ?_
        · obtain ⟨q0, q1, q2, q3, q4, q5, q6, q7⟩ := hW
          go_simp
        simp only [Act.put, List.setIfInBounds_toArray, List.set_cons_zero, List.set_cons_succ]
        refine wpAnyH_done (by kernel_rfl) ?_ _
        go_wp2_with fail
        go_meet
        exact ⟨_, _, _, _, _, rfl, rfl, rfl, HM⟩
      · go_simp
        have hb4 : Below V.heap.size V (w1.alloc (.cells #[.slice none 0 0, .int .i64 0, .bool false, .bool false] 30)) := bAlloc hb1 (.cells #[.slice none 0 0, .int .i64 0, .bool false, .bool false] 30)
        have hz4 : SR 30 (w1.alloc (.cells #[.slice none 0 0, .int .i64 0, .bool false, .bool false] 30)) (w1.heap.size) [.slice none 0 0, .int .i64 0, .bool false, .bool false] := SR.new 30 (w1) [.slice none 0 0, .int .i64 0, .bool false, .bool false]
        have hv4 : V.heap.size ≤ w1.heap.size := by have h0 := Below.size hb1; exact h0
        have hr4 := (hr1).at_ (bAlloc (Below.refl _ _) (.cells #[.slice none 0 0, .int .i64 0, .bool false, .bool false] 30))
        refine hK.out _ _ (sWs FS.out hb4) (fun hHeld2 => ?_)
        clear hK K hHeld
        have hHeld := hHeld2
        clear hHeld2
        try simp only [Act.put, List.setIfInBounds_toArray, List.set_cons_zero, List.set_cons_succ]
        refine wpAnyH_ready (rs := [9]) (by kernel_rfl) (by simp) ?_
        refine AllReadyH.cons (o := { dst := some 19, op := Op.call { callee := Callee.value (Operand.func 17), args := #[Operand.tmp 11, Operand.tmp 13, Operand.tmp 14, Operand.tmp 18], argTypes := #[25, 3, 30, 26] }, type := 41, pos := "law.go:45", after := #[{ on := 1, ground := Ground.data }, { on := 3, ground := Ground.data }, { on := 4, ground := Ground.data }, { on := 8, ground := Ground.data }, { on := 8, ground := Ground.chain }], guard := none }) rfl (fun K hK => ?_) AllReadyH.nil
        go_simp
        with_reducible refine (CP.out (w1.alloc (.cells #[.slice none 0 0, .int .i64 0, .bool false, .bool false] 30)) Ak ck hb4 hr4).mono ?_
        rintro e w5 ⟨Ax, cx, Bx, dx, Lx, rfl, e1x, e2x, hx5, hy5, hc5⟩
        have hb5 : Below V.heap.size V w5 := bCall hb4 hc5
        have hz5 := SR.call hz4 hc5 (hz4).lt
        have hr5 := (hr4).at_ hc5
        go_wp2_with fail
        refine hK.out _ _ (sWs FS.out hb5) (fun hHeld2 => ?_)
        clear hK K hHeld
        have hHeld := hHeld2
        clear hHeld2
        try simp only [Act.put, List.setIfInBounds_toArray, List.set_cons_zero, List.set_cons_succ]
        refine wpAnyH_take (i := 10) (oi := { dst := some 9, op := Op.move (Operand.tmp 19), type := 41, pos := "law.go:45", after := #[{ on := 9, ground := Ground.data }], guard := none }) (v := .tuple #[.agg #[.slice Ax n1 cx, .int .i64 (t1 : Int), .bool ov1, .bool li1], .slice Bx 0 dx, .int .i64 0]) rfl (by kernel_rfl) (by kernel_rfl) (by kernel_rfl) (fun _ _ _ h => h) (Or.inl ⟨by rfl, fun W hW => ?_⟩) hHeld ?_
        · obtain ⟨q0, q1, q2, q3, q4, q5, q6, q7⟩ := hW
          go_simp
        simp only [Act.put, List.setIfInBounds_toArray, List.set_cons_zero, List.set_cons_succ]
        refine wpAnyH_take (i := 11) (oi := { dst := some 20, op := Op.extract (Operand.tmp 9) 0, type := 30, pos := "law.go:45", after := #[{ on := 10, ground := Ground.data }], guard := none }) (v := .agg #[.slice Ax n1 cx, .int .i64 (t1 : Int), .bool ov1, .bool li1]) rfl (by kernel_rfl) (by kernel_rfl) (by kernel_rfl) (fun _ _ _ h => h) (Or.inl ⟨by rfl, fun W hW => ?_⟩) hHeld ?_
        · obtain ⟨q0, q1, q2, q3, q4, q5, q6, q7⟩ := hW
          go_simp
        simp only [Act.put, List.setIfInBounds_toArray, List.set_cons_zero, List.set_cons_succ]
        refine wpAnyH_take (i := 12) (oi := { dst := some 21, op := Op.extract (Operand.tmp 9) 1, type := 40, pos := "law.go:45", after := #[{ on := 10, ground := Ground.data }, { on := 15, ground := Ground.gcOnly Departure.lateStores }], guard := none }) (v := .slice Bx 0 dx) rfl (by kernel_rfl) (by kernel_rfl) (by kernel_rfl) (fun _ _ _ h => h) (Or.inl ⟨by rfl, fun W hW => ?_⟩) hHeld ?_
        · obtain ⟨q0, q1, q2, q3, q4, q5, q6, q7⟩ := hW
          go_simp
        simp only [Act.put, List.setIfInBounds_toArray, List.set_cons_zero, List.set_cons_succ]
        refine wpAnyH_take (i := 13) (oi := { dst := some 22, op := Op.extract (Operand.tmp 9) 2, type := 3, pos := "law.go:45", after := #[{ on := 10, ground := Ground.data }, { on := 16, ground := Ground.gcOnly Departure.lateStores }], guard := none }) (v := .int .i64 0) rfl (by kernel_rfl) (by kernel_rfl) (by kernel_rfl) (fun _ _ _ h => h) (Or.inl ⟨by rfl, fun W hW => ?_⟩) hHeld ?_
        · obtain ⟨q0, q1, q2, q3, q4, q5, q6, q7⟩ := hW
          go_simp
        simp only [Act.put, List.setIfInBounds_toArray, List.set_cons_zero, List.set_cons_succ]
        obtain ⟨y0, y1, y2, y3, y4, y5, y6, y7, y8⟩ := st_facts hz5
        have HM := keepd (midg_b (n := n1) (z := (t1 : Int)) (ov := ov1) (li := li1) hz5 hv4 hb5 e1x e2x hx5 hy5)
        refine wpAnyH_ready (rs := [15]) (by kernel_rfl) (by simp) ?_
        refine AllReadyH.cons (o := { dst := none, op := Op.store 30 (Operand.tmp 4) (Operand.tmp 20), type := 0, pos := "law.go:45", after := #[{ on := 14, ground := Ground.data }, { on := 11, ground := Ground.data }, { on := 9, ground := Ground.chain }, { on := 0, ground := Ground.phase }, { on := 1, ground := Ground.phase }, { on := 2, ground := Ground.phase }, { on := 3, ground := Ground.phase }, { on := 4, ground := Ground.phase }, { on := 5, ground := Ground.phase }, { on := 6, ground := Ground.phase }, { on := 7, ground := Ground.phase }, { on := 8, ground := Ground.phase }, { on := 9, ground := Ground.phase }, { on := 10, ground := Ground.phase }, { on := 11, ground := Ground.phase }, { on := 12, ground := Ground.textOnly Departure.lateStores }, { on := 13, ground := Ground.textOnly Departure.lateStores }, { on := 14, ground := Ground.phase }], guard := none }) rfl (fun K hK => ?_) AllReadyH.nil
        go_simp
        refine hK.out _ _ (sWs FS.out HM.out.2.2.2) (fun hHeld2 => ?_)
        clear hK K hHeld
        have hHeld := hHeld2
        clear hHeld2
        try simp only [Act.put, List.setIfInBounds_toArray, List.set_cons_zero, List.set_cons_succ]
        refine wpAnyH_take (i := 16) (oi := { dst := some 5, op := Op.assign (Operand.tmp 21), type := 40, pos := "law.go:45", after := #[{ on := 12, ground := Ground.data }, { on := 15, ground := Ground.chain }, { on := 0, ground := Ground.phase }, { on := 1, ground := Ground.phase }, { on := 2, ground := Ground.phase }, { on := 3, ground := Ground.phase }, { on := 4, ground := Ground.phase }, { on := 5, ground := Ground.phase }, { on := 6, ground := Ground.phase }, { on := 7, ground := Ground.phase }, { on := 8, ground := Ground.phase }, { on := 9, ground := Ground.phase }, { on := 10, ground := Ground.phase }, { on := 11, ground := Ground.phase }, { on := 12, ground := Ground.phase }, { on := 13, ground := Ground.textOnly Departure.lateStores }, { on := 14, ground := Ground.phase }, { on := 15, ground := Ground.phase }], guard := none }) (v := .slice Bx 0 dx) rfl (by kernel_rfl) (by kernel_rfl) (by kernel_rfl) (fun _ _ _ h => h) (Or.inl ⟨by rfl, fun W hW => ?_⟩) hHeld ?_
        · obtain ⟨q0, q1, q2, q3, q4, q5, q6, q7⟩ := hW
          go_simp
        simp only [Act.put, List.setIfInBounds_toArray, List.set_cons_zero, List.set_cons_succ]
        refine wpAnyH_take (i := 17) (oi := { dst := some 6, op := Op.assign (Operand.tmp 22), type := 3, pos := "law.go:45", after := #[{ on := 13, ground := Ground.data }, { on := 16, ground := Ground.chain }, { on := 0, ground := Ground.phase }, { on := 1, ground := Ground.phase }, { on := 2, ground := Ground.phase }, { on := 3, ground := Ground.phase }, { on := 4, ground := Ground.phase }, { on := 5, ground := Ground.phase }, { on := 6, ground := Ground.phase }, { on := 7, ground := Ground.phase }, { on := 8, ground := Ground.phase }, { on := 9, ground := Ground.phase }, { on := 10, ground := Ground.phase }, { on := 11, ground := Ground.phase }, { on := 12, ground := Ground.phase }, { on := 13, ground := Ground.phase }, { on := 14, ground := Ground.phase }, { on := 15, ground := Ground.phase }, { on := 16, ground := Ground.phase }], guard := none }) (v := .int .i64 0) rfl (by kernel_rfl) (by kernel_rfl) (by kernel_rfl) (fun _ _ _ h => h) (Or.inl ⟨by rfl, fun W hW => ?_⟩) hHeld ?_
        · obtain ⟨q0, q1, q2, q3, q4, q5, q6, q7⟩ := hW
          go_simp
        simp only [Act.put, List.setIfInBounds_toArray, List.set_cons_zero, List.set_cons_succ]
        refine wpAnyH_done (by kernel_rfl) ?_ _
        go_wp2_with fail
        go_meet
        exact ⟨_, _, _, _, _, rfl, rfl, rfl, HM⟩
    · go_simp
      have hb6 : Below V.heap.size V (V.alloc (.cells #[.slice none 0 0, .int .i64 0, .bool false, .bool false] 30)).drew := bAlloc (Below.refl V.heap.size V).drew (.cells #[.slice none 0 0, .int .i64 0, .bool false, .bool false] 30)
      have hz6 : SR 30 (V.alloc (.cells #[.slice none 0 0, .int .i64 0, .bool false, .bool false] 30)).drew (V.heap.size) [.slice none 0 0, .int .i64 0, .bool false, .bool false] := SR.new 30 (V) [.slice none 0 0, .int .i64 0, .bool false, .bool false]
      have hv6 : V.heap.size ≤ V.heap.size := by have h0 := Below.size (Below.refl V.heap.size V).drew; exact h0
      refine hK.out _ _ (sWs FS.out hb6) (fun hHeld2 => ?_)
      clear hK K hHeld
      have hHeld := hHeld2
      clear hHeld2
      try simp only [Act.put, List.setIfInBounds_toArray, List.set_cons_zero, List.set_cons_succ]
      refine wpAnyH_ready (rs := [8]) (by kernel_rfl) (by simp) ?_
      refine AllReadyH.cons (o := { dst := some 18, op := Op.call { callee := Callee.value (Operand.func 13), args := #[Operand.tmp 16, Operand.tmp 17], argTypes := #[25, 30] }, type := 26, pos := "law.go:45", after := #[{ on := 6, ground := Ground.data }, { on := 7, ground := Ground.data }], guard := none }) rfl (fun K hK => ?_) AllReadyH.nil
      go_simp
      with_reducible refine (CK.out ((V.alloc (.cells #[.slice none 0 0, .int .i64 0, .bool false, .bool false] 30))).drew hb6).mono ?_
      rintro e w7 ⟨⟨Ak, ck, rfl, ho7⟩, hc7⟩
      have hb7 : Below V.heap.size V w7 := bCall hb6 hc7
      have hz7 := SR.call hz6 hc7 (hz6).lt
      have hr7 := ho7.rdOf
      clear ho7
      go_wp2_with fail
      refine hK.out _ _ (sWs FS.out hb7) (fun hHeld2 => ?_)
      clear hK K hHeld
      have hHeld := hHeld2
      clear hHeld2
      try simp only [Act.put, List.setIfInBounds_toArray, List.set_cons_zero, List.set_cons_succ]
      refine wpAnyH_ready (rs := [9]) (by kernel_rfl) (by simp) ?_
      refine AllReadyH.cons (o := { dst := some 19, op := Op.call { callee := Callee.value (Operand.func 17), args := #[Operand.tmp 11, Operand.tmp 13, Operand.tmp 14, Operand.tmp 18], argTypes := #[25, 3, 30, 26] }, type := 41, pos := "law.go:45", after := #[{ on := 1, ground := Ground.data }, { on := 3, ground := Ground.data }, { on := 4, ground := Ground.data }, { on := 8, ground := Ground.data }, { on := 8, ground := Ground.chain }], guard := none }) rfl (fun K hK => ?_) AllReadyH.nil
      go_simp
      with_reducible refine (CP.out w7 Ak ck hb7 hr7).mono ?_
      rintro e w8 ⟨Ax, cx, Bx, dx, Lx, rfl, e1x, e2x, hx8, hy8, hc8⟩
      have hb8 : Below V.heap.size V w8 := bCall hb7 hc8
      have hz8 := SR.call hz7 hc8 (hz7).lt
      have hr8 := (hr7).at_ hc8
      go_wp2_with fail
      refine hK.out _ _ (sWs FS.out hb8) (fun hHeld2 => ?_)
      clear hK K hHeld
      have hHeld := hHeld2
      clear hHeld2
      try simp only [Act.put, List.setIfInBounds_toArray, List.set_cons_zero, List.set_cons_succ]
      refine wpAnyH_take (i := 10) (oi := { dst := some 9, op := Op.move (Operand.tmp 19), type := 41, pos := "law.go:45", after := #[{ on := 9, ground := Ground.data }], guard := none }) (v := .tuple #[.agg #[.slice Ax n1 cx, .int .i64 (t1 : Int), .bool ov1, .bool li1], .slice Bx 0 dx, .int .i64 0]) rfl (by kernel_rfl) (by kernel_rfl) (by kernel_rfl) (fun _ _ _ h => h) (Or.inl ⟨by rfl, fun W hW => ?_⟩) hHeld ?_
      · obtain ⟨q0, q1, q2, q3, q4, q5, q6, q7⟩ := hW
        go_simp
      simp only [Act.put, List.setIfInBounds_toArray, List.set_cons_zero, List.set_cons_succ]
      refine wpAnyH_take (i := 11) (oi := { dst := some 20, op := Op.extract (Operand.tmp 9) 0, type := 30, pos := "law.go:45", after := #[{ on := 10, ground := Ground.data }], guard := none }) (v := .agg #[.slice Ax n1 cx, .int .i64 (t1 : Int), .bool ov1, .bool li1]) rfl (by kernel_rfl) (by kernel_rfl) (by kernel_rfl) (fun _ _ _ h => h) (Or.inl ⟨by rfl, fun W hW => ?_⟩) hHeld ?_
      · obtain ⟨q0, q1, q2, q3, q4, q5, q6, q7⟩ := hW
        go_simp
      simp only [Act.put, List.setIfInBounds_toArray, List.set_cons_zero, List.set_cons_succ]
      refine wpAnyH_take (i := 12) (oi := { dst := some 21, op := Op.extract (Operand.tmp 9) 1, type := 40, pos := "law.go:45", after := #[{ on := 10, ground := Ground.data }, { on := 15, ground := Ground.gcOnly Departure.lateStores }], guard := none }) (v := .slice Bx 0 dx) rfl (by kernel_rfl) (by kernel_rfl) (by kernel_rfl) (fun _ _ _ h => h) (Or.inl ⟨by rfl, fun W hW => ?_⟩) hHeld ?_
      · obtain ⟨q0, q1, q2, q3, q4, q5, q6, q7⟩ := hW
        go_simp
      simp only [Act.put, List.setIfInBounds_toArray, List.set_cons_zero, List.set_cons_succ]
      refine wpAnyH_take (i := 13) (oi := { dst := some 22, op := Op.extract (Operand.tmp 9) 2, type := 3, pos := "law.go:45", after := #[{ on := 10, ground := Ground.data }, { on := 16, ground := Ground.gcOnly Departure.lateStores }], guard := none }) (v := .int .i64 0) rfl (by kernel_rfl) (by kernel_rfl) (by kernel_rfl) (fun _ _ _ h => h) (Or.inl ⟨by rfl, fun W hW => ?_⟩) hHeld ?_
      · obtain ⟨q0, q1, q2, q3, q4, q5, q6, q7⟩ := hW
        go_simp
      simp only [Act.put, List.setIfInBounds_toArray, List.set_cons_zero, List.set_cons_succ]
      obtain ⟨y0, y1, y2, y3, y4, y5, y6, y7, y8⟩ := st_facts hz8
      have HM := keepd (midg_b (n := n1) (z := (t1 : Int)) (ov := ov1) (li := li1) hz8 hv6 hb8 e1x e2x hx8 hy8)
      refine wpAnyH_ready (rs := [15]) (by kernel_rfl) (by simp) ?_
      refine AllReadyH.cons (o := { dst := none, op := Op.store 30 (Operand.tmp 4) (Operand.tmp 20), type := 0, pos := "law.go:45", after := #[{ on := 14, ground := Ground.data }, { on := 11, ground := Ground.data }, { on := 9, ground := Ground.chain }, { on := 0, ground := Ground.phase }, { on := 1, ground := Ground.phase }, { on := 2, ground := Ground.phase }, { on := 3, ground := Ground.phase }, { on := 4, ground := Ground.phase }, { on := 5, ground := Ground.phase }, { on := 6, ground := Ground.phase }, { on := 7, ground := Ground.phase }, { on := 8, ground := Ground.phase }, { on := 9, ground := Ground.phase }, { on := 10, ground := Ground.phase }, { on := 11, ground := Ground.phase }, { on := 12, ground := Ground.textOnly Departure.lateStores }, { on := 13, ground := Ground.textOnly Departure.lateStores }, { on := 14, ground := Ground.phase }], guard := none }) rfl (fun K hK => ?_) AllReadyH.nil
      go_simp
      refine hK.out _ _ (sWs FS.out HM.out.2.2.2) (fun hHeld2 => ?_)
      clear hK K hHeld
      have hHeld := hHeld2
      clear hHeld2
      try simp only [Act.put, List.setIfInBounds_toArray, List.set_cons_zero, List.set_cons_succ]
      refine wpAnyH_take (i := 16) (oi := { dst := some 5, op := Op.assign (Operand.tmp 21), type := 40, pos := "law.go:45", after := #[{ on := 12, ground := Ground.data }, { on := 15, ground := Ground.chain }, { on := 0, ground := Ground.phase }, { on := 1, ground := Ground.phase }, { on := 2, ground := Ground.phase }, { on := 3, ground := Ground.phase }, { on := 4, ground := Ground.phase }, { on := 5, ground := Ground.phase }, { on := 6, ground := Ground.phase }, { on := 7, ground := Ground.phase }, { on := 8, ground := Ground.phase }, { on := 9, ground := Ground.phase }, { on := 10, ground := Ground.phase }, { on := 11, ground := Ground.phase }, { on := 12, ground := Ground.phase }, { on := 13, ground := Ground.textOnly Departure.lateStores }, { on := 14, ground := Ground.phase }, { on := 15, ground := Ground.phase }], guard := none }) (v := .slice Bx 0 dx) rfl (by kernel_rfl) (by kernel_rfl) (by kernel_rfl) (fun _ _ _ h => h) (Or.inl ⟨by rfl, fun W hW => ?_⟩) hHeld ?_
      · obtain ⟨q0, q1, q2, q3, q4, q5, q6, q7⟩ := hW
        go_simp
      simp only [Act.put, List.setIfInBounds_toArray, List.set_cons_zero, List.set_cons_succ]
      refine wpAnyH_take (i := 17) (oi := { dst := some 6, op := Op.assign (Operand.tmp 22), type := 3, pos := "law.go:45", after := #[{ on := 13, ground := Ground.data }, { on := 16, ground := Ground.chain }, { on := 0, ground := Ground.phase }, { on := 1, ground := Ground.phase }, { on := 2, ground := Ground.phase }, { on := 3, ground := Ground.phase }, { on := 4, ground := Ground.phase }, { on := 5, ground := Ground.phase }, { on := 6, ground := Ground.phase }, { on := 7, ground := Ground.phase }, { on := 8, ground := Ground.phase }, { on := 9, ground := Ground.phase }, { on := 10, ground := Ground.phase }, { on := 11, ground := Ground.phase }, { on := 12, ground := Ground.phase }, { on := 13, ground := Ground.phase }, { on := 14, ground := Ground.phase }, { on := 15, ground := Ground.phase }, { on := 16, ground := Ground.phase }], guard := none }) (v := .int .i64 0) rfl (by kernel_rfl) (by kernel_rfl) (by kernel_rfl) (fun _ _ _ h => h) (Or.inl ⟨by rfl, fun W hW => ?_⟩) hHeld ?_
      · obtain ⟨q0, q1, q2, q3, q4, q5, q6, q7⟩ := hW
        go_simp
      simp only [Act.put, List.setIfInBounds_toArray, List.set_cons_zero, List.set_cons_succ]
      refine wpAnyH_done (by kernel_rfl) ?_ _
      go_wp2_with fail
      go_meet
      exact ⟨_, _, _, _, _, rfl, rfl, rfl, HM⟩
  case rest =>
    obtain ⟨b8, Ax, cx, Bx, dx, rfl, rfl, rfl, HMG⟩ := hcut
    obtain ⟨V3, hV3⟩ : ∃ V3, V3 = wc := ⟨_, rfl⟩
    subst hV3
    obtain ⟨g1, g2, g3, g4⟩ := HMG.out
    have H8 := keepd g1
    have HR8 := keepd g2
    have HB8 := keepd (bCall HB1.out g4)
    have HS8 := keepd (SR.call FS.out.2 g4 FS.out.2.lt)
    have HR18 := keepd (HR1.out.at_ g4)
    clear g1 g2 g3 g4 HMG CK CP FS HR1 HB1
    obtain ⟨k0, k1, k2, k3, _, _, _, _, kt⟩ := st_facts H8.out
    obtain ⟨j0, j1, j2, j3, _, _, _, _, jt⟩ := st_facts HS8.out
    have CS := keepd (esame_any Ax A1 l1 l1 n1 n1 cx c1 (t1 : Int) (t1 : Int) ov1 ov1 li1 li1 true V3 HN1.out.symm HN1.out.symm HR8.out HR18.out (sameS_iff.2 ⟨rfl, rfl, rfl, rfl⟩))
    go_wp2_with fail
    with_reducible refine CS.out.mono ?_
    rintro e w5 ⟨rfl, hb5⟩
    have HB9 := keepd (bCall HB8.out hb5)
    have CW := keepd (awake_any w5 (HLD.out.below HB9.out))
    clear hb5 CS k0 k1 k2 k3 kt j0 j1 j2 j3 jt
    go_wp2_with fail
    with_reducible refine CW.out.mono ?_
    rintro e w6 ⟨rfl, hb6⟩
    have HB10 := keepd (bCall HB9.out hb6)
    clear hb6 CW
    go_wp2_with fail
    go_ret
    exact ⟨rfl, HB10.out⟩

end Go.Proofs.YtecihodifgjkoaaDoor
