/-
  RenewGoes walked. No conditions beyond those each theorem states.
-/
import Derived.Test.YtecihodifgjkoaaDoorN7
namespace Go.Proofs.YtecihodifgjkoaaDoor
open Go.RowKit
set_option maxRecDepth 100000

attribute [local go_sem ↓] ex_ld25 ex_st25 ex_al25 ex_bu25 ex_ix25 ex_eq25 ex_ne25 ex_eq23 ex_ne23 ex_ld25o ex_st65 ex_al65 ex_bu65 ex_bu65s ex_ld38 ex_ld25w ex_bu38
attribute [local go_sem] ptrB_at okPtr_at aggC_at agg62 agg69 isC_at isT_at eqV_t eqV_c isRow_new isRow_new65 World.setRow_alloc_new ptr4_at okPtr4_at cutT_at isI_at isS_at bW_at bWs_at ptrW_at okPtrW_at cutW_at isL_at bY_at

set_option maxHeartbeats 8000000 in
theorem goes_law (X : Tb) (hX : TbO X) (room : Int) (A : Option Addr) (us : List UInt8) (c : Nat) (K1 : Option Addr) (us1 : List UInt8) (d1 : Nat) (w : World) (hL : Laid w) (hr : Rd w w.heap.size A us c) (hr1 : Rd w w.heap.size K1 us1 d1) :
    Calls Tryd.prog 5 #[.agg (wy X room A us.length c).toArray, .slice K1 us1.length d1] w fun e w' => e = .returned (.bool true) ∧ Below w.heap.size w w' := by
  obtain ⟨n, hn⟩ : ∃ n, n = us.length := ⟨_, rfl⟩
  rw [← hn]
  have HX := keepd hX
  have HLD := keepd hL
  have HR0 := keepd hr
  have HN := keepd hn
  obtain ⟨⟨l1, t1, ov1, li1⟩, hs⟩ : ∃ s, (playE X room ⟨zE, [], 0⟩ (fewK us)).s = s := ⟨_, rfl⟩
  have HI : Hid (Inv X room ⟨l1, t1, ov1, li1⟩) := by show Inv X room ⟨l1, t1, ov1, li1⟩; rw [← hs]; exact inv_play (Inv.zero X room)
  obtain ⟨n1, hn1⟩ : ∃ n1, l1.length = n1 := ⟨_, rfl⟩
  have HN1 := keepd hn1
  have CR0 := keepd fun (W : World) (h : Rd W W.heap.size A us c) => reached_any X room A us n c W hn h ⟨l1, t1, ov1, li1⟩ n1 hs hn1
  have HS := keepd hs
  obtain ⟨i1, hi1⟩ : ∃ i1, i1 = us1.length := ⟨_, rfl⟩
  rw [← hi1]
  obtain ⟨j1, hj1⟩ : ∃ m, (fewK us1).length = m := ⟨_, rfl⟩
  have CK1 := keepd fun W => keys_any K1 us1 i1 d1 j1 W hi1 (by rw [hi1]; exact hr1.1) hj1
  have HX10 : Hid (Rd w w.heap.size K1 (fewK us1) d1) := hr1.take 200
  have HJ1 := keepd hj1.symm
  have HJL : Hid (j1 ≤ 200) := by show j1 ≤ 200; rw [← hj1]; exact fewK_le _
  clear hi1 hj1 hr1
  clear hX hL hr hn hs hn1
  go_enter Tryd.func5, Tryd.ntmps5
  go_upto_region 1 with fail
  generalize hV : w.alloc (.cells (wy X room A n c).toArray 38) = V0
  obtain ⟨HW0, HB0⟩ := way_new _ _ _ hV
  obtain ⟨⟨r0, r1⟩, r2, r3⟩ := WY.facts HW0.out
  have CR := keepd fun (W : World) (hb : Below V0.heap.size V0 W) => CR0.out W ((HR0.out.at_ HB0.out).at_ hb)
  clear hV CR0
  go_wp2_with fail
  with_reducible refine (CK1.out _).mono ?_
  rintro e w2 ⟨rfl, hw2⟩
  rw [hw2]
  clear CK1 hw2
  go_wp2_with fail
  with_reducible refine (CR.out _ (Below.refl _ _)).mono ?_
  rintro e w1 ⟨A1, c1, rfl, hr1, hb1⟩
  go_upto_region 3 with fail
  generalize hV : w1.alloc (.cells #[.slice A1 n1 c1, .int .i64 (t1 : Int), .bool ov1, .bool li1] 30) = V
  generalize hb3 : w1.heap.size = b5
  have HV1 : Hid (Below V0.heap.size V0 V) := by rw [← hV]; exact bAlloc hb1 _
  have HR1 : Hid (Rd V V.heap.size A1 l1 c1) := by rw [← hV]; exact hr1.at_ (bAlloc (Below.refl _ _) _)
  have FS : Hid (WY V w.heap.size X room A n c ∧ SR 30 V b5 [.slice A1 n1 c1, .int .i64 (t1 : Int), .bool ov1, .bool li1]) := ⟨SR.call HW0.out HV1.out (SR.lt HW0.out), by rw [← hV, ← hb3]; exact heap_alloc_new w1 _⟩
  have HB1 := keepd (bCall HB0.out HV1.out)
  clear hV hb3 hr1 hb1 r0 r1 r2 r3 CR HV1 HW0 HB0
  have HX1' := keepd (HX10.out.at_ HB1.out)
  clear HX10
  generalize fewK us1 = x1 at *
  obtain ⟨⟨⟨l2, t2, ov2, li2⟩, es2, be2'⟩, hp2⟩ : ∃ r, playE X room ⟨⟨l1, t1, ov1, li1⟩, [], 0⟩ x1 = r := ⟨_, rfl⟩
  obtain ⟨n2, hn2⟩ : ∃ n2, l2.length = n2 := ⟨_, rfl⟩
  obtain ⟨m2, hm2⟩ : ∃ m2, es2.length = m2 := ⟨_, rfl⟩
  obtain ⟨be2, hbe2⟩ : ∃ be2 : Int, (be2' : Int) = be2 := ⟨_, rfl⟩
  have hm2l : m2 ≤ 200 := by have h := (playE_few X room x1 ⟨⟨l1, t1, ov1, li1⟩, [], 0⟩).1; rw [hp2] at h; simp only [List.length_nil, Nat.zero_add, hm2] at h; have := HJ1.out; have := HJL.out; omega
  obtain ⟨L, hl⟩ : ∃ L, keysL X ⟨l1, t1, ov1, li1⟩ = L := ⟨_, rfl⟩
  obtain ⟨k, hk⟩ : ∃ k, L.length = k := ⟨_, rfl⟩
  have hk9 : k ≤ 20000 := by have h := (keysL_len X ⟨l1, t1, ov1, li1⟩).1; rw [hl, hk] at h; have := HI.out.ok.2; have h3 : l1.length ≤ 4096 := this; omega
  have hmk : playE X room ⟨zE, [], 0⟩ (L ++ x1) = ⟨⟨l2, t2, ov2, li2⟩, es2, be2'⟩ := by rw [playE_app, ← hl, makes HX.out HI.out]; exact hp2
  obtain ⟨kk, hkk⟩ : ∃ kk, (L ++ x1).length = kk := ⟨_, rfl⟩
  have hkk9 : kk ≤ 30000 := by rw [← hkk, List.length_append, hk]; have := HJ1.out; have := HJL.out; omega
  have HLE : Hid (L.length + x1.length ≤ 1000000) := by show _ ≤ _; rw [hk]; have := HJ1.out; have := HJL.out; omega
  have HKK := keepd hkk
  have CP1 : Hid (Calls Tryd.prog 17 #[tv X, .int .i64 room, .agg #[.slice A1 n1 c1, .int .i64 (t1 : Int), .bool ov1, .bool li1], .slice K1 j1 d1] V (GotP V l2 n2 (t2 : Int) ov2 li2 es2 m2 be2)) := by
    have := play_any X room A1 l1 n1 c1 t1 ov1 li1 K1 x1 j1 d1 V HN1.out.symm HR1.out (by rw [← HN1.out]; exact HI.out.ok.1) (by rw [← HN1.out]; exact HI.out.ok.2) HJ1.out HX1'.out (by have := HJL.out; omega) l2 n2 t2 ov2 li2 es2 m2 be2' hp2 hn2 hm2
    rw [hbe2] at this
    exact this
  have CK' := keepd fun (W : World) (hr : Rd W W.heap.size A1 l1 c1) => kgood_any X HX.out A1 l1 n1 c1 t1 ov1 li1 W HN1.out.symm hr (by rw [← HN1.out]; exact HI.out.ok.1) (by rw [← HN1.out]; exact HI.out.ok.2) L k hl hk
  have CP' : Hid (∀ (W : World) (B : Option Addr) (d : Nat), Rd W W.heap.size B (L ++ x1) d → Calls Tryd.prog 17 #[tv X, .int .i64 room, .agg #[.slice none 0 0, .int .i64 0, .bool false, .bool false], .slice B kk d] W (GotP W l2 n2 (t2 : Int) ov2 li2 es2 m2 be2)) := fun W B d hu => by
    have := play_any X room none [] 0 0 0 false false B (L ++ x1) kk d W rfl (Rd.nil _ _) (Nat.le_refl _) (by omega) hkk.symm hu (by omega) l2 n2 t2 ov2 li2 es2 m2 be2' hmk hn2 hm2
    rw [hbe2] at this
    exact this
  have HN2 := keepd hn2
  have HM2 := keepd (And.intro hm2 hm2l)
  clear hl hk hk9 hmk hp2 hn2 hm2 hm2l hbe2 hkk hkk9
  obtain ⟨⟨r0, r1⟩, r2, _⟩ := WY.facts FS.out.1
  obtain ⟨k0, k1, k2, k3, _, _, _, _, kt⟩ := st_facts FS.out.2
  go_wp2_with fail
  with_reducible refine CP1.out.mono ?_
  rintro e w3 ⟨A2, c2, B2, f2, L2, rfl, hl2, hm2, hr2, hre2, hb2⟩
  go_upto_region 4 with fail
  generalize hV : w3.alloc (.cells #[.slice A2 n2 c2, .int .i64 (t2 : Int), .bool ov2, .bool li2] 30) = V4
  generalize hb6 : w3.heap.size = b6
  have HS6 : Hid (SR 30 V4 b6 [.slice A2 n2 c2, .int .i64 (t2 : Int), .bool ov2, .bool li2]) := by rw [← hV, ← hb6]; exact heap_alloc_new w3 _
  have HB4 : Hid (Below V.heap.size V V4) := by rw [← hV]; exact bAlloc hb2 _
  have HR4 : Hid (Rd V4 V4.heap.size A2 l2 c2) := by rw [← hV]; exact hr2.at_ (bAlloc (Below.refl _ _) _)
  have HE4 : Hid (RdE V4 B2 L2 f2) := by rw [← hV]; exact hre2.at_ (bAlloc (Below.refl _ _) _)
  have HL2 := keepd (And.intro hl2 hm2)
  have FS4 : Hid (WY V4 w.heap.size X room A n c ∧ SR 30 V4 b5 [.slice A1 n1 c1, .int .i64 (t1 : Int), .bool ov1, .bool li1]) := ⟨SR.call FS.out.1 HB4.out (SR.lt FS.out.1), SR.call FS.out.2 HB4.out FS.out.2.lt⟩
  have HX1 := keepd (HX1'.out.at_ HB4.out)
  have HR14 := keepd (HR1.out.at_ HB4.out)
  have HBV := keepd (bCall HB1.out HB4.out)
  clear hV hb6 hl2 hm2 hr2 hre2 hb2 CP1 HX1' FS HR1 HB1 HB4 r0 r1 r2 k0 k1 k2 k3 kt
  have CK : Hid (∀ W : World, Below V4.heap.size V4 W → Calls Tryd.prog 13 #[tv X, .agg #[.slice A1 n1 c1, .int .i64 (t1 : Int), .bool ov1, .bool li1]] W (GotKy W L k)) := fun W hb => CK'.out W (HR14.out.at_ hb)
  have CP : Hid (∀ (W : World) (B : Option Addr) (d : Nat), Below V4.heap.size V4 W → Rd W W.heap.size B (L ++ x1) d → Calls Tryd.prog 17 #[tv X, .int .i64 room, .agg #[.slice none 0 0, .int .i64 0, .bool false, .bool false], .slice B kk d] W (GotP W l2 n2 (t2 : Int) ov2 li2 es2 m2 be2)) := fun W B d _ hu => CP'.out W B d hu
  clear CK' CP'
  go_cut [9, 10, 11] from 27 to 43 (fun s9 s10 s11 wx => ∃ (b8 : Nat) (Ax : Option Addr) (cx : Nat) (Bx : Option Addr) (dx : Nat), s9 = .pointer (some ⟨b8, 0, none⟩) ∧ s10 = .slice Bx m2 dx ∧ s11 = .int .i64 be2 ∧ Hid (MidG V4 b8 l2 Ax n2 cx (t2 : Int) ov2 li2 es2 Bx m2 dx wx))
  case first =>
    refine wp_region_held_drew (S := fun W => rowOf W w.heap.size = (wy X room A n c).toArray ∧ isRow W 38 w.heap.size 64 = true ∧ W.cell? ⟨w.heap.size, 62, none⟩ = some (.int .i64 room) ∧ W.cell? ⟨b5, 0, none⟩ = some (.slice A1 n1 c1) ∧ W.cell? ⟨b5, 1, none⟩ = some (.int .i64 (t1 : Int)) ∧ W.cell? ⟨b5, 2, none⟩ = some (.bool ov1) ∧ W.cell? ⟨b5, 3, none⟩ = some (.bool li1) ∧ Below V4.heap.size V4 W) (by kernel_rfl) (sWs FS4.out (Below.refl V4.heap.size V4).drew) (fun hHeld => ?_)
    refine wpAnyH_take (i := 0) (oi := { dst := some 28, op := Op.fieldAddr 38 (Operand.tmp 2) 0, type := 0, pos := "law.go:54", after := #[], guard := none }) (v := .pointer (some ⟨w.heap.size, 0, none⟩)) rfl (by kernel_rfl) (by kernel_rfl) (by kernel_rfl) (fun _ _ _ h => h) (Or.inl ⟨by rfl, fun W hW => ?_⟩) hHeld ?_
    · obtain ⟨q0, q1, q2, q3, q4, q5, q6, q7⟩ := hW
      go_simp
    simp only [Act.put, List.setIfInBounds_toArray, List.set_cons_zero, List.set_cons_succ]
    refine wpAnyH_take (i := 1) (oi := { dst := some 29, op := Op.load 25 (Operand.tmp 28), type := 25, pos := "law.go:54", after := #[{ on := 0, ground := Ground.data }], guard := none }) (v := tv X) rfl (by kernel_rfl) (by kernel_rfl) (by kernel_rfl) (fun _ _ _ h => h) (Or.inl ⟨by rfl, fun W hW => ?_⟩) hHeld ?_
    · obtain ⟨q0, q1, q2, q3, q4, q5, q6, q7⟩ := hW
      go_simp
    simp only [Act.put, List.setIfInBounds_toArray, List.set_cons_zero, List.set_cons_succ]
    refine wpAnyH_take (i := 2) (oi := { dst := some 30, op := Op.fieldAddr 38 (Operand.tmp 2) 1, type := 0, pos := "law.go:54", after := #[], guard := none }) (v := .pointer (some ⟨w.heap.size, 62, none⟩)) rfl (by kernel_rfl) (by kernel_rfl) (by kernel_rfl) (fun _ _ _ h => h) (Or.inl ⟨by rfl, fun W hW => ?_⟩) hHeld ?_
    · obtain ⟨q0, q1, q2, q3, q4, q5, q6, q7⟩ := hW
      go_simp
    simp only [Act.put, List.setIfInBounds_toArray, List.set_cons_zero, List.set_cons_succ]
    refine wpAnyH_take (i := 3) (oi := { dst := some 31, op := Op.load 3 (Operand.tmp 30), type := 3, pos := "law.go:54", after := #[{ on := 2, ground := Ground.data }], guard := none }) (v := .int .i64 room) rfl (by kernel_rfl) (by kernel_rfl) (by kernel_rfl) (fun _ _ _ h => h) (Or.inl ⟨by rfl, fun W hW => ?_⟩) hHeld ?_
    · obtain ⟨q0, q1, q2, q3, q4, q5, q6, q7⟩ := hW
      go_simp
    simp only [Act.put, List.setIfInBounds_toArray, List.set_cons_zero, List.set_cons_succ]
    refine wpAnyH_take (i := 4) (oi := { dst := some 32, op := Op.build 30 #[], type := 30, pos := "law.go:54", after := #[], guard := none }) (v := .agg #[.slice none 0 0, .int .i64 0, .bool false, .bool false]) rfl (by kernel_rfl) (by kernel_rfl) (by kernel_rfl) (fun _ _ _ h => h) (Or.inl ⟨by rfl, fun W hW => ?_⟩) hHeld ?_
    · obtain ⟨q0, q1, q2, q3, q4, q5, q6, q7⟩ := hW
      go_simp
    simp only [Act.put, List.setIfInBounds_toArray, List.set_cons_zero, List.set_cons_succ]
    refine wpAnyH_take (i := 5) (oi := { dst := some 33, op := Op.fieldAddr 38 (Operand.tmp 2) 0, type := 0, pos := "law.go:54", after := #[], guard := none }) (v := .pointer (some ⟨w.heap.size, 0, none⟩)) rfl (by kernel_rfl) (by kernel_rfl) (by kernel_rfl) (fun _ _ _ h => h) (Or.inl ⟨by rfl, fun W hW => ?_⟩) hHeld ?_
    · obtain ⟨q0, q1, q2, q3, q4, q5, q6, q7⟩ := hW
      go_simp
    simp only [Act.put, List.setIfInBounds_toArray, List.set_cons_zero, List.set_cons_succ]
    refine wpAnyH_take (i := 6) (oi := { dst := some 34, op := Op.load 25 (Operand.tmp 33), type := 25, pos := "law.go:54", after := #[{ on := 5, ground := Ground.data }], guard := none }) (v := tv X) rfl (by kernel_rfl) (by kernel_rfl) (by kernel_rfl) (fun _ _ _ h => h) (Or.inl ⟨by rfl, fun W hW => ?_⟩) hHeld ?_
    · obtain ⟨q0, q1, q2, q3, q4, q5, q6, q7⟩ := hW
      go_simp
    simp only [Act.put, List.setIfInBounds_toArray, List.set_cons_zero, List.set_cons_succ]
    refine wpAnyH_take (i := 7) (oi := { dst := some 35, op := Op.load 30 (Operand.tmp 5), type := 30, pos := "law.go:54", after := #[], guard := none }) (v := .agg #[.slice A1 n1 c1, .int .i64 (t1 : Int), .bool ov1, .bool li1]) rfl (by kernel_rfl) (by kernel_rfl) (by kernel_rfl) (fun _ _ _ h => h) (Or.inl ⟨by rfl, fun W hW => ?_⟩) hHeld ?_
    · obtain ⟨q0, q1, q2, q3, q4, q5, q6, q7⟩ := hW
      go_simp
    simp only [Act.put, List.setIfInBounds_toArray, List.set_cons_zero, List.set_cons_succ]
    refine wpAnyH_take (i := 9) (oi := { dst := some 37, op := Op.move (Operand.tmp 1), type := 26, pos := "law.go:54", after := #[], guard := none }) (v := .slice K1 j1 d1) rfl (by kernel_rfl) (by kernel_rfl) (by kernel_rfl) (fun _ _ _ h => h) (Or.inl ⟨by rfl, fun W hW => ?_⟩) hHeld ?_
    · obtain ⟨q0, q1, q2, q3, q4, q5, q6, q7⟩ := hW
      go_simp
    simp only [Act.put, List.setIfInBounds_toArray, List.set_cons_zero, List.set_cons_succ]
    refine wpAnyH_ready (rs := [8, 16]) (by kernel_rfl) (by simp) ?_
    refine AllReadyH.cons (o := { dst := some 36, op := Op.call { callee := Callee.value (Operand.func 13), args := #[Operand.tmp 34, Operand.tmp 35], argTypes := #[25, 30] }, type := 26, pos := "law.go:54", after := #[{ on := 6, ground := Ground.data }, { on := 7, ground := Ground.data }], guard := none }) rfl (fun K hK => ?_) (AllReadyH.cons (o := { dst := some 9, op := Op.alloc 30, type := 0, pos := "law.go:54", after := #[], guard := none }) rfl (fun K hK => ?_) AllReadyH.nil)
    · go_simp
      with_reducible refine (CK.out (V4).drew (Below.refl V4.heap.size V4).drew).mono ?_
      rintro e w1 ⟨⟨Ak, ck, rfl, ho1⟩, hc1⟩
      have hb1 : Below V4.heap.size V4 w1 := bCall (Below.refl V4.heap.size V4).drew hc1
      have hp1 : Own w1 V4.heap.size (.slice Ak k ck) L := ho1.base (by have h0 := Below.size (Below.refl V4.heap.size V4).drew; exact h0)
      clear ho1
      go_wp2_with fail
      refine hK.out _ _ (sWs FS4.out hb1) (fun hHeld2 => ?_)
      clear hK K hHeld
      have hHeld := hHeld2
      clear hHeld2
      try simp only [Act.put, List.setIfInBounds_toArray, List.set_cons_zero, List.set_cons_succ]
      refine wpAnyH_ready (rs := [10, 16]) (by kernel_rfl) (by simp) ?_
      refine AllReadyH.cons (o := { dst := some 38, op := Op.call { callee := Callee.builtin Builtin.append, args := #[Operand.tmp 36, Operand.tmp 37], argTypes := #[26, 26] }, type := 26, pos := "law.go:54", after := #[{ on := 8, ground := Ground.data }, { on := 9, ground := Ground.data }, { on := 8, ground := Ground.chain }], guard := none }) rfl (fun K hK => ?_) (AllReadyH.cons (o := { dst := some 9, op := Op.alloc 30, type := 0, pos := "law.go:54", after := #[], guard := none }) rfl (fun K hK => ?_) AllReadyH.nil)
      · refine step_app _ rfl (.tmp 36) (.tmp 37) rfl V4.heap.size (.slice Ak k ck) L rfl hp1 _ K1 j1 d1 x1 rfl HJ1.out (HX1.out.at_ hb1) ?_ (Below.size hb1) ?_
        · have := HLE.out; omega
        intro v2 w2 ho2 hg2 hat2
        have hb2 : Below V4.heap.size V4 w2 := hb1.trans (grown_below hp1 hg2 (hb1).size)
        clear hg2 hat2
        obtain ⟨D2, d2, hv2e, hr2⟩ := ho2.rd
        rw [HKK.out] at hv2e
        subst hv2e
        clear ho2
        refine hK.out _ _ (sWs FS4.out hb2) (fun hHeld2 => ?_)
        clear hK K hHeld
        have hHeld := hHeld2
        clear hHeld2
        try simp only [Act.put, List.setIfInBounds_toArray, List.set_cons_zero, List.set_cons_succ]
        refine wpAnyH_ready (rs := [11, 16]) (by kernel_rfl) (by simp) ?_
        refine AllReadyH.cons (o := { dst := some 39, op := Op.call { callee := Callee.value (Operand.func 17), args := #[Operand.tmp 29, Operand.tmp 31, Operand.tmp 32, Operand.tmp 38], argTypes := #[25, 3, 30, 26] }, type := 41, pos := "law.go:54", after := #[{ on := 1, ground := Ground.data }, { on := 3, ground := Ground.data }, { on := 4, ground := Ground.data }, { on := 10, ground := Ground.data }, { on := 10, ground := Ground.chain }], guard := none }) rfl (fun K hK => ?_) (AllReadyH.cons (o := { dst := some 9, op := Op.alloc 30, type := 0, pos := "law.go:54", after := #[], guard := none }) rfl (fun K hK => ?_) AllReadyH.nil)
        · go_simp
          with_reducible refine (CP.out w2 D2 d2 hb2 hr2).mono ?_
          rintro e w3 ⟨Ax, cx, Bx, dx, Lx, rfl, e1x, e2x, hx3, hy3, hc3⟩
          have hb3 : Below V4.heap.size V4 w3 := bCall hb2 hc3
          have hr3 := (hr2).at_ hc3
          go_wp2_with fail
          refine hK.out _ _ (sWs FS4.out hb3) (fun hHeld2 => ?_)
          clear hK K hHeld
          have hHeld := hHeld2
          clear hHeld2
          try simp only [Act.put, List.setIfInBounds_toArray, List.set_cons_zero, List.set_cons_succ]
          refine wpAnyH_take (i := 12) (oi := { dst := some 27, op := Op.move (Operand.tmp 39), type := 41, pos := "law.go:54", after := #[{ on := 11, ground := Ground.data }], guard := none }) (v := .tuple #[.agg #[.slice Ax n2 cx, .int .i64 (t2 : Int), .bool ov2, .bool li2], .slice Bx m2 dx, .int .i64 be2]) rfl (by kernel_rfl) (by kernel_rfl) (by kernel_rfl) (fun _ _ _ h => h) (Or.inl ⟨by rfl, fun W hW => ?_⟩) hHeld ?_
          · obtain ⟨q0, q1, q2, q3, q4, q5, q6, q7⟩ := hW
            go_simp
          simp only [Act.put, List.setIfInBounds_toArray, List.set_cons_zero, List.set_cons_succ]
          refine wpAnyH_take (i := 13) (oi := { dst := some 40, op := Op.extract (Operand.tmp 27) 0, type := 30, pos := "law.go:54", after := #[{ on := 12, ground := Ground.data }], guard := none }) (v := .agg #[.slice Ax n2 cx, .int .i64 (t2 : Int), .bool ov2, .bool li2]) rfl (by kernel_rfl) (by kernel_rfl) (by kernel_rfl) (fun _ _ _ h => h) (Or.inl ⟨by rfl, fun W hW => ?_⟩) hHeld ?_
          · obtain ⟨q0, q1, q2, q3, q4, q5, q6, q7⟩ := hW
            go_simp
          simp only [Act.put, List.setIfInBounds_toArray, List.set_cons_zero, List.set_cons_succ]
          refine wpAnyH_take (i := 14) (oi := { dst := some 41, op := Op.extract (Operand.tmp 27) 1, type := 40, pos := "law.go:54", after := #[{ on := 12, ground := Ground.data }, { on := 17, ground := Ground.gcOnly Departure.lateStores }], guard := none }) (v := .slice Bx m2 dx) rfl (by kernel_rfl) (by kernel_rfl) (by kernel_rfl) (fun _ _ _ h => h) (Or.inl ⟨by rfl, fun W hW => ?_⟩) hHeld ?_
          · obtain ⟨q0, q1, q2, q3, q4, q5, q6, q7⟩ := hW
            go_simp
          simp only [Act.put, List.setIfInBounds_toArray, List.set_cons_zero, List.set_cons_succ]
          refine wpAnyH_take (i := 15) (oi := { dst := some 42, op := Op.extract (Operand.tmp 27) 2, type := 3, pos := "law.go:54", after := #[{ on := 12, ground := Ground.data }, { on := 18, ground := Ground.gcOnly Departure.lateStores }], guard := none }) (v := .int .i64 be2) rfl (by kernel_rfl) (by kernel_rfl) (by kernel_rfl) (fun _ _ _ h => h) (Or.inl ⟨by rfl, fun W hW => ?_⟩) hHeld ?_
          · obtain ⟨q0, q1, q2, q3, q4, q5, q6, q7⟩ := hW
            go_simp
          simp only [Act.put, List.setIfInBounds_toArray, List.set_cons_zero, List.set_cons_succ]
          refine wpAnyH_ready (rs := [16]) (by kernel_rfl) (by simp) ?_
          refine AllReadyH.cons (o := { dst := some 9, op := Op.alloc 30, type := 0, pos := "law.go:54", after := #[], guard := none }) rfl (fun K hK => ?_) AllReadyH.nil
          go_simp
          have hb4 : Below V4.heap.size V4 (w3.alloc (.cells #[.slice none 0 0, .int .i64 0, .bool false, .bool false] 30)) := bAlloc hb3 (.cells #[.slice none 0 0, .int .i64 0, .bool false, .bool false] 30)
          have hz4 : SR 30 (w3.alloc (.cells #[.slice none 0 0, .int .i64 0, .bool false, .bool false] 30)) (w3.heap.size) [.slice none 0 0, .int .i64 0, .bool false, .bool false] := SR.new 30 (w3) [.slice none 0 0, .int .i64 0, .bool false, .bool false]
          have hv4 : V4.heap.size ≤ w3.heap.size := by have h0 := Below.size hb3; exact h0
          have hx4 := (hx3).at_ (bAlloc (Below.refl _ _) (.cells #[.slice none 0 0, .int .i64 0, .bool false, .bool false] 30))
          have hy4 := (hy3).at_ (bAlloc (Below.refl _ _) (.cells #[.slice none 0 0, .int .i64 0, .bool false, .bool false] 30))
          refine hK.out _ _ (sWs FS4.out hb4) (fun hHeld2 => ?_)
          clear hK K hHeld
          have hHeld := hHeld2
          clear hHeld2
          try simp only [Act.put, List.setIfInBounds_toArray, List.set_cons_zero, List.set_cons_succ]
          have HM := keepd (midg_a (n := n2) (z := (t2 : Int)) (ov := ov2) (li := li2) hb3 e1x e2x hx3 hy3)
          refine wpAnyH_ready (rs := [17]) (by kernel_rfl) (by simp) ?_
          refine AllReadyH.cons (o := { dst := none, op := Op.store 30 (Operand.tmp 9) (Operand.tmp 40), type := 0, pos := "law.go:54", after := #[{ on := 16, ground := Ground.data }, { on := 13, ground := Ground.data }, { on := 11, ground := Ground.chain }, { on := 0, ground := Ground.phase }, { on := 1, ground := Ground.phase }, { on := 2, ground := Ground.phase }, { on := 3, ground := Ground.phase }, { on := 4, ground := Ground.phase }, { on := 5, ground := Ground.phase }, { on := 6, ground := Ground.phase }, { on := 7, ground := Ground.phase }, { on := 8, ground := Ground.phase }, { on := 9, ground := Ground.phase }, { on := 10, ground := Ground.phase }, { on := 11, ground := Ground.phase }, { on := 12, ground := Ground.phase }, { on := 13, ground := Ground.phase }, { on := 14, ground := Ground.textOnly Departure.lateStores }, { on := 15, ground := Ground.textOnly Departure.lateStores }, { on := 16, ground := Ground.phase }], guard := none }) rfl (fun K hK => ?_) AllReadyH.nil
          go_simp
          refine hK.out _ _ (sWs FS4.out HM.out.2.2.2) (fun hHeld2 => ?_)
          clear hK K hHeld
          have hHeld := hHeld2
          clear hHeld2
          try simp only [Act.put, List.setIfInBounds_toArray, List.set_cons_zero, List.set_cons_succ]
          refine wpAnyH_take (i := 18) (oi := { dst := some 10, op := Op.assign (Operand.tmp 41), type := 40, pos := "law.go:54", after := #[{ on := 14, ground := Ground.data }, { on := 17, ground := Ground.chain }, { on := 0, ground := Ground.phase }, { on := 1, ground := Ground.phase }, { on := 2, ground := Ground.phase }, { on := 3, ground := Ground.phase }, { on := 4, ground := Ground.phase }, { on := 5, ground := Ground.phase }, { on := 6, ground := Ground.phase }, { on := 7, ground := Ground.phase }, { on := 8, ground := Ground.phase }, { on := 9, ground := Ground.phase }, { on := 10, ground := Ground.phase }, { on := 11, ground := Ground.phase }, { on := 12, ground := Ground.phase }, { on := 13, ground := Ground.phase }, { on := 14, ground := Ground.phase }, { on := 15, ground := Ground.textOnly Departure.lateStores }, { on := 16, ground := Ground.phase }, { on := 17, ground := Ground.phase }], guard := none }) (v := .slice Bx m2 dx) rfl (by kernel_rfl) (by kernel_rfl) (by kernel_rfl) (fun _ _ _ h => h) (Or.inl ⟨by rfl, fun W hW => ?_⟩) hHeld ?_
          · obtain ⟨q0, q1, q2, q3, q4, q5, q6, q7⟩ := hW
            go_simp
          simp only [Act.put, List.setIfInBounds_toArray, List.set_cons_zero, List.set_cons_succ]
          refine wpAnyH_take (i := 19) (oi := { dst := some 11, op := Op.assign (Operand.tmp 42), type := 3, pos := "law.go:54", after := #[{ on := 15, ground := Ground.data }, { on := 18, ground := Ground.chain }, { on := 0, ground := Ground.phase }, { on := 1, ground := Ground.phase }, { on := 2, ground := Ground.phase }, { on := 3, ground := Ground.phase }, { on := 4, ground := Ground.phase }, { on := 5, ground := Ground.phase }, { on := 6, ground := Ground.phase }, { on := 7, ground := Ground.phase }, { on := 8, ground := Ground.phase }, { on := 9, ground := Ground.phase }, { on := 10, ground := Ground.phase }, { on := 11, ground := Ground.phase }, { on := 12, ground := Ground.phase }, { on := 13, ground := Ground.phase }, { on := 14, ground := Ground.phase }, { on := 15, ground := Ground.phase }, { on := 16, ground := Ground.phase }, { on := 17, ground := Ground.phase }, { on := 18, ground := Ground.phase }], guard := none }) (v := .int .i64 be2) rfl (by kernel_rfl) (by kernel_rfl) (by kernel_rfl) (fun _ _ _ h => h) (Or.inl ⟨by rfl, fun W hW => ?_⟩) hHeld ?_
          · obtain ⟨q0, q1, q2, q3, q4, q5, q6, q7⟩ := hW
            go_simp
          simp only [Act.put, List.setIfInBounds_toArray, List.set_cons_zero, List.set_cons_succ]
          refine wpAnyH_done (by kernel_rfl) ?_ _
          go_wp2_with fail
          go_meet
          exact ⟨_, _, _, _, _, rfl, rfl, rfl, HM⟩
        · go_simp
          have hb5 : Below V4.heap.size V4 (w2.alloc (.cells #[.slice none 0 0, .int .i64 0, .bool false, .bool false] 30)) := bAlloc hb2 (.cells #[.slice none 0 0, .int .i64 0, .bool false, .bool false] 30)
          have hz5 : SR 30 (w2.alloc (.cells #[.slice none 0 0, .int .i64 0, .bool false, .bool false] 30)) (w2.heap.size) [.slice none 0 0, .int .i64 0, .bool false, .bool false] := SR.new 30 (w2) [.slice none 0 0, .int .i64 0, .bool false, .bool false]
          have hv5 : V4.heap.size ≤ w2.heap.size := by have h0 := Below.size hb2; exact h0
          have hr5 := (hr2).at_ (bAlloc (Below.refl _ _) (.cells #[.slice none 0 0, .int .i64 0, .bool false, .bool false] 30))
          refine hK.out _ _ (sWs FS4.out hb5) (fun hHeld2 => ?_)
          clear hK K hHeld
          have hHeld := hHeld2
          clear hHeld2
          try simp only [Act.put, List.setIfInBounds_toArray, List.set_cons_zero, List.set_cons_succ]
          refine wpAnyH_ready (rs := [11]) (by kernel_rfl) (by simp) ?_
          refine AllReadyH.cons (o := { dst := some 39, op := Op.call { callee := Callee.value (Operand.func 17), args := #[Operand.tmp 29, Operand.tmp 31, Operand.tmp 32, Operand.tmp 38], argTypes := #[25, 3, 30, 26] }, type := 41, pos := "law.go:54", after := #[{ on := 1, ground := Ground.data }, { on := 3, ground := Ground.data }, { on := 4, ground := Ground.data }, { on := 10, ground := Ground.data }, { on := 10, ground := Ground.chain }], guard := none }) rfl (fun K hK => ?_) AllReadyH.nil
          go_simp
          with_reducible refine (CP.out (w2.alloc (.cells #[.slice none 0 0, .int .i64 0, .bool false, .bool false] 30)) D2 d2 hb5 hr5).mono ?_
          rintro e w6 ⟨Ax, cx, Bx, dx, Lx, rfl, e1x, e2x, hx6, hy6, hc6⟩
          have hb6 : Below V4.heap.size V4 w6 := bCall hb5 hc6
          have hz6 := SR.call hz5 hc6 (hz5).lt
          have hr6 := (hr5).at_ hc6
          go_wp2_with fail
          refine hK.out _ _ (sWs FS4.out hb6) (fun hHeld2 => ?_)
          clear hK K hHeld
          have hHeld := hHeld2
          clear hHeld2
          try simp only [Act.put, List.setIfInBounds_toArray, List.set_cons_zero, List.set_cons_succ]
          refine wpAnyH_take (i := 12) (oi := { dst := some 27, op := Op.move (Operand.tmp 39), type := 41, pos := "law.go:54", after := #[{ on := 11, ground := Ground.data }], guard := none }) (v := .tuple #[.agg #[.slice Ax n2 cx, .int .i64 (t2 : Int), .bool ov2, .bool li2], .slice Bx m2 dx, .int .i64 be2]) rfl (by kernel_rfl) (by kernel_rfl) (by kernel_rfl) (fun _ _ _ h => h) (Or.inl ⟨by rfl, fun W hW => ?_⟩) hHeld ?_
          · obtain ⟨q0, q1, q2, q3, q4, q5, q6, q7⟩ := hW
            go_simp
          simp only [Act.put, List.setIfInBounds_toArray, List.set_cons_zero, List.set_cons_succ]
          refine wpAnyH_take (i := 13) (oi := { dst := some 40, op := Op.extract (Operand.tmp 27) 0, type := 30, pos := "law.go:54", after := #[{ on := 12, ground := Ground.data }], guard := none }) (v := .agg #[.slice Ax n2 cx, .int .i64 (t2 : Int), .bool ov2, .bool li2]) rfl (by kernel_rfl) (by kernel_rfl) (by kernel_rfl) (fun _ _ _ h => h) (Or.inl ⟨by rfl, fun W hW => ?_⟩) hHeld ?_
          · obtain ⟨q0, q1, q2, q3, q4, q5, q6, q7⟩ := hW
            go_simp
          simp only [Act.put, List.setIfInBounds_toArray, List.set_cons_zero, List.set_cons_succ]
          refine wpAnyH_take (i := 14) (oi := { dst := some 41, op := Op.extract (Operand.tmp 27) 1, type := 40, pos := "law.go:54", after := #[{ on := 12, ground := Ground.data }, { on := 17, ground := Ground.gcOnly Departure.lateStores }], guard := none }) (v := .slice Bx m2 dx) rfl (by kernel_rfl) (by kernel_rfl) (by kernel_rfl) (fun _ _ _ h => h) (Or.inl ⟨by rfl, fun W hW => ?_⟩) hHeld ?_
          · obtain ⟨q0, q1, q2, q3, q4, q5, q6, q7⟩ := hW
            go_simp
          simp only [Act.put, List.setIfInBounds_toArray, List.set_cons_zero, List.set_cons_succ]
          refine wpAnyH_take (i := 15) (oi := { dst := some 42, op := Op.extract (Operand.tmp 27) 2, type := 3, pos := "law.go:54", after := #[{ on := 12, ground := Ground.data }, { on := 18, ground := Ground.gcOnly Departure.lateStores }], guard := none }) (v := .int .i64 be2) rfl (by kernel_rfl) (by kernel_rfl) (by kernel_rfl) (fun _ _ _ h => h) (Or.inl ⟨by rfl, fun W hW => ?_⟩) hHeld ?_
          · obtain ⟨q0, q1, q2, q3, q4, q5, q6, q7⟩ := hW
            go_simp
          simp only [Act.put, List.setIfInBounds_toArray, List.set_cons_zero, List.set_cons_succ]
          obtain ⟨y0, y1, y2, y3, y4, y5, y6, y7, y8⟩ := st_facts hz6
          have HM := keepd (midg_b (n := n2) (z := (t2 : Int)) (ov := ov2) (li := li2) hz6 hv5 hb6 e1x e2x hx6 hy6)
          refine wpAnyH_ready (rs := [17]) (by kernel_rfl) (by simp) ?_
          refine AllReadyH.cons (o := { dst := none, op := Op.store 30 (Operand.tmp 9) (Operand.tmp 40), type := 0, pos := "law.go:54", after := #[{ on := 16, ground := Ground.data }, { on := 13, ground := Ground.data }, { on := 11, ground := Ground.chain }, { on := 0, ground := Ground.phase }, { on := 1, ground := Ground.phase }, { on := 2, ground := Ground.phase }, { on := 3, ground := Ground.phase }, { on := 4, ground := Ground.phase }, { on := 5, ground := Ground.phase }, { on := 6, ground := Ground.phase }, { on := 7, ground := Ground.phase }, { on := 8, ground := Ground.phase }, { on := 9, ground := Ground.phase }, { on := 10, ground := Ground.phase }, { on := 11, ground := Ground.phase }, { on := 12, ground := Ground.phase }, { on := 13, ground := Ground.phase }, { on := 14, ground := Ground.textOnly Departure.lateStores }, { on := 15, ground := Ground.textOnly Departure.lateStores }, { on := 16, ground := Ground.phase }], guard := none }) rfl (fun K hK => ?_) AllReadyH.nil
          go_simp
          refine hK.out _ _ (sWs FS4.out HM.out.2.2.2) (fun hHeld2 => ?_)
          clear hK K hHeld
          have hHeld := hHeld2
          clear hHeld2
          try simp only [Act.put, List.setIfInBounds_toArray, List.set_cons_zero, List.set_cons_succ]
          refine wpAnyH_take (i := 18) (oi := { dst := some 10, op := Op.assign (Operand.tmp 41), type := 40, pos := "law.go:54", after := #[{ on := 14, ground := Ground.data }, { on := 17, ground := Ground.chain }, { on := 0, ground := Ground.phase }, { on := 1, ground := Ground.phase }, { on := 2, ground := Ground.phase }, { on := 3, ground := Ground.phase }, { on := 4, ground := Ground.phase }, { on := 5, ground := Ground.phase }, { on := 6, ground := Ground.phase }, { on := 7, ground := Ground.phase }, { on := 8, ground := Ground.phase }, { on := 9, ground := Ground.phase }, { on := 10, ground := Ground.phase }, { on := 11, ground := Ground.phase }, { on := 12, ground := Ground.phase }, { on := 13, ground := Ground.phase }, { on := 14, ground := Ground.phase }, { on := 15, ground := Ground.textOnly Departure.lateStores }, { on := 16, ground := Ground.phase }, { on := 17, ground := Ground.phase }], guard := none }) (v := .slice Bx m2 dx) rfl (by kernel_rfl) (by kernel_rfl) (by kernel_rfl) (fun _ _ _ h => h) (Or.inl ⟨by rfl, fun W hW => ?_⟩) hHeld ?_
          · obtain ⟨q0, q1, q2, q3, q4, q5, q6, q7⟩ := hW
            go_simp
          simp only [Act.put, List.setIfInBounds_toArray, List.set_cons_zero, List.set_cons_succ]
          refine wpAnyH_take (i := 19) (oi := { dst := some 11, op := Op.assign (Operand.tmp 42), type := 3, pos := "law.go:54", after := #[{ on := 15, ground := Ground.data }, { on := 18, ground := Ground.chain }, { on := 0, ground := Ground.phase }, { on := 1, ground := Ground.phase }, { on := 2, ground := Ground.phase }, { on := 3, ground := Ground.phase }, { on := 4, ground := Ground.phase }, { on := 5, ground := Ground.phase }, { on := 6, ground := Ground.phase }, { on := 7, ground := Ground.phase }, { on := 8, ground := Ground.phase }, { on := 9, ground := Ground.phase }, { on := 10, ground := Ground.phase }, { on := 11, ground := Ground.phase }, { on := 12, ground := Ground.phase }, { on := 13, ground := Ground.phase }, { on := 14, ground := Ground.phase }, { on := 15, ground := Ground.phase }, { on := 16, ground := Ground.phase }, { on := 17, ground := Ground.phase }, { on := 18, ground := Ground.phase }], guard := none }) (v := .int .i64 be2) rfl (by kernel_rfl) (by kernel_rfl) (by kernel_rfl) (fun _ _ _ h => h) (Or.inl ⟨by rfl, fun W hW => ?_⟩) hHeld ?_
          · obtain ⟨q0, q1, q2, q3, q4, q5, q6, q7⟩ := hW
            go_simp
          simp only [Act.put, List.setIfInBounds_toArray, List.set_cons_zero, List.set_cons_succ]
          refine wpAnyH_done (by kernel_rfl) ?_ _
          go_wp2_with fail
          go_meet
          exact ⟨_, _, _, _, _, rfl, rfl, rfl, HM⟩
      · go_simp
        have hb7 : Below V4.heap.size V4 (w1.alloc (.cells #[.slice none 0 0, .int .i64 0, .bool false, .bool false] 30)) := bAlloc hb1 (.cells #[.slice none 0 0, .int .i64 0, .bool false, .bool false] 30)
        have hz7 : SR 30 (w1.alloc (.cells #[.slice none 0 0, .int .i64 0, .bool false, .bool false] 30)) (w1.heap.size) [.slice none 0 0, .int .i64 0, .bool false, .bool false] := SR.new 30 (w1) [.slice none 0 0, .int .i64 0, .bool false, .bool false]
        have hv7 : V4.heap.size ≤ w1.heap.size := by have h0 := Below.size hb1; exact h0
        have hne7 : ((.slice Ak k ck) : Value).ownBlock ≠ some (w1.heap.size) := ne_new (hp1)
        have ho7 : Own (w1.alloc (.cells #[.slice none 0 0, .int .i64 0, .bool false, .bool false] 30)) V4.heap.size (.slice Ak k ck) L := Own.alloc hp1 _
        refine hK.out _ _ (sWs FS4.out hb7) (fun hHeld2 => ?_)
        clear hK K hHeld
        have hHeld := hHeld2
        clear hHeld2
        try simp only [Act.put, List.setIfInBounds_toArray, List.set_cons_zero, List.set_cons_succ]
        refine wpAnyH_ready (rs := [10]) (by kernel_rfl) (by simp) ?_
        refine AllReadyH.cons (o := { dst := some 38, op := Op.call { callee := Callee.builtin Builtin.append, args := #[Operand.tmp 36, Operand.tmp 37], argTypes := #[26, 26] }, type := 26, pos := "law.go:54", after := #[{ on := 8, ground := Ground.data }, { on := 9, ground := Ground.data }, { on := 8, ground := Ground.chain }], guard := none }) rfl (fun K hK => ?_) AllReadyH.nil
        refine step_app _ rfl (.tmp 36) (.tmp 37) rfl V4.heap.size (.slice Ak k ck) L rfl ho7 _ K1 j1 d1 x1 rfl HJ1.out (HX1.out.at_ hb7) ?_ (Below.size hb7) ?_
        · have := HLE.out; omega
        intro v8 w8 ho8 hg8 hat8
        have hb8 : Below V4.heap.size V4 w8 := hb7.trans (grown_below ho7 hg8 (hb7).size)
        have hz8 : SR 30 w8 (w1.heap.size) [.slice none 0 0, .int .i64 0, .bool false, .bool false] := sr_grow hz7 hg8 hne7
        clear hg8 hat8
        obtain ⟨D8, d8, hv8e, hr8⟩ := ho8.rd
        rw [HKK.out] at hv8e
        subst hv8e
        clear ho8
        refine hK.out _ _ (sWs FS4.out hb8) (fun hHeld2 => ?_)
        clear hK K hHeld
        have hHeld := hHeld2
        clear hHeld2
        try simp only [Act.put, List.setIfInBounds_toArray, List.set_cons_zero, List.set_cons_succ]
        refine wpAnyH_ready (rs := [11]) (by kernel_rfl) (by simp) ?_
        refine AllReadyH.cons (o := { dst := some 39, op := Op.call { callee := Callee.value (Operand.func 17), args := #[Operand.tmp 29, Operand.tmp 31, Operand.tmp 32, Operand.tmp 38], argTypes := #[25, 3, 30, 26] }, type := 41, pos := "law.go:54", after := #[{ on := 1, ground := Ground.data }, { on := 3, ground := Ground.data }, { on := 4, ground := Ground.data }, { on := 10, ground := Ground.data }, { on := 10, ground := Ground.chain }], guard := none }) rfl (fun K hK => ?_) AllReadyH.nil
        go_simp
        with_reducible refine (CP.out w8 D8 d8 hb8 hr8).mono ?_
        rintro e w9 ⟨Ax, cx, Bx, dx, Lx, rfl, e1x, e2x, hx9, hy9, hc9⟩
        have hb9 : Below V4.heap.size V4 w9 := bCall hb8 hc9
        have hz9 := SR.call hz8 hc9 (hz8).lt
        have hr9 := (hr8).at_ hc9
        go_wp2_with fail
        refine hK.out _ _ (sWs FS4.out hb9) (fun hHeld2 => ?_)
        clear hK K hHeld
        have hHeld := hHeld2
        clear hHeld2
        try simp only [Act.put, List.setIfInBounds_toArray, List.set_cons_zero, List.set_cons_succ]
        refine wpAnyH_take (i := 12) (oi := { dst := some 27, op := Op.move (Operand.tmp 39), type := 41, pos := "law.go:54", after := #[{ on := 11, ground := Ground.data }], guard := none }) (v := .tuple #[.agg #[.slice Ax n2 cx, .int .i64 (t2 : Int), .bool ov2, .bool li2], .slice Bx m2 dx, .int .i64 be2]) rfl (by kernel_rfl) (by kernel_rfl) (by kernel_rfl) (fun _ _ _ h => h) (Or.inl ⟨by rfl, fun W hW => ?_⟩) hHeld ?_
        · obtain ⟨q0, q1, q2, q3, q4, q5, q6, q7⟩ := hW
          go_simp
        simp only [Act.put, List.setIfInBounds_toArray, List.set_cons_zero, List.set_cons_succ]
        refine wpAnyH_take (i := 13) (oi := { dst := some 40, op := Op.extract (Operand.tmp 27) 0, type := 30, pos := "law.go:54", after := #[{ on := 12, ground := Ground.data }], guard := none }) (v := .agg #[.slice Ax n2 cx, .int .i64 (t2 : Int), .bool ov2, .bool li2]) rfl (by kernel_rfl) (by kernel_rfl) (by kernel_rfl) (fun _ _ _ h => h) (Or.inl ⟨by rfl, fun W hW => ?_⟩) hHeld ?_
        · obtain ⟨q0, q1, q2, q3, q4, q5, q6, q7⟩ := hW
          go_simp
        simp only [Act.put, List.setIfInBounds_toArray, List.set_cons_zero, List.set_cons_succ]
        refine wpAnyH_take (i := 14) (oi := { dst := some 41, op := Op.extract (Operand.tmp 27) 1, type := 40, pos := "law.go:54", after := #[{ on := 12, ground := Ground.data }, { on := 17, ground := Ground.gcOnly Departure.lateStores }], guard := none }) (v := .slice Bx m2 dx) rfl (by kernel_rfl) (by kernel_rfl) (by kernel_rfl) (fun _ _ _ h => h) (Or.inl ⟨by rfl, fun W hW => ?_⟩) hHeld ?_
        · obtain ⟨q0, q1, q2, q3, q4, q5, q6, q7⟩ := hW
          go_simp
        simp only [Act.put, List.setIfInBounds_toArray, List.set_cons_zero, List.set_cons_succ]
        refine wpAnyH_take (i := 15) (oi := { dst := some 42, op := Op.extract (Operand.tmp 27) 2, type := 3, pos := "law.go:54", after := #[{ on := 12, ground := Ground.data }, { on := 18, ground := Ground.gcOnly Departure.lateStores }], guard := none }) (v := .int .i64 be2) rfl (by kernel_rfl) (by kernel_rfl) (by kernel_rfl) (fun _ _ _ h => h) (Or.inl ⟨by rfl, fun W hW => ?_⟩) hHeld ?_
        · obtain ⟨q0, q1, q2, q3, q4, q5, q6, q7⟩ := hW
          go_simp
        simp only [Act.put, List.setIfInBounds_toArray, List.set_cons_zero, List.set_cons_succ]
        obtain ⟨y0, y1, y2, y3, y4, y5, y6, y7, y8⟩ := st_facts hz9
        have HM := keepd (midg_b (n := n2) (z := (t2 : Int)) (ov := ov2) (li := li2) hz9 hv7 hb9 e1x e2x hx9 hy9)
        refine wpAnyH_ready (rs := [17]) (by kernel_rfl) (by simp) ?_
        refine AllReadyH.cons (o := { dst := none, op := Op.store 30 (Operand.tmp 9) (Operand.tmp 40), type := 0, pos := "law.go:54", after := #[{ on := 16, ground := Ground.data }, { on := 13, ground := Ground.data }, { on := 11, ground := Ground.chain }, { on := 0, ground := Ground.phase }, { on := 1, ground := Ground.phase }, { on := 2, ground := Ground.phase }, { on := 3, ground := Ground.phase }, { on := 4, ground := Ground.phase }, { on := 5, ground := Ground.phase }, { on := 6, ground := Ground.phase }, { on := 7, ground := Ground.phase }, { on := 8, ground := Ground.phase }, { on := 9, ground := Ground.phase }, { on := 10, ground := Ground.phase }, { on := 11, ground := Ground.phase }, { on := 12, ground := Ground.phase }, { on := 13, ground := Ground.phase }, { on := 14, ground := Ground.textOnly Departure.lateStores }, { on := 15, ground := Ground.textOnly Departure.lateStores }, { on := 16, ground := Ground.phase }], guard := none }) rfl (fun K hK => ?_) AllReadyH.nil
        go_simp
        refine hK.out _ _ (sWs FS4.out HM.out.2.2.2) (fun hHeld2 => ?_)
        clear hK K hHeld
        have hHeld := hHeld2
        clear hHeld2
        try simp only [Act.put, List.setIfInBounds_toArray, List.set_cons_zero, List.set_cons_succ]
        refine wpAnyH_take (i := 18) (oi := { dst := some 10, op := Op.assign (Operand.tmp 41), type := 40, pos := "law.go:54", after := #[{ on := 14, ground := Ground.data }, { on := 17, ground := Ground.chain }, { on := 0, ground := Ground.phase }, { on := 1, ground := Ground.phase }, { on := 2, ground := Ground.phase }, { on := 3, ground := Ground.phase }, { on := 4, ground := Ground.phase }, { on := 5, ground := Ground.phase }, { on := 6, ground := Ground.phase }, { on := 7, ground := Ground.phase }, { on := 8, ground := Ground.phase }, { on := 9, ground := Ground.phase }, { on := 10, ground := Ground.phase }, { on := 11, ground := Ground.phase }, { on := 12, ground := Ground.phase }, { on := 13, ground := Ground.phase }, { on := 14, ground := Ground.phase }, { on := 15, ground := Ground.textOnly Departure.lateStores }, { on := 16, ground := Ground.phase }, { on := 17, ground := Ground.phase }], guard := none }) (v := .slice Bx m2 dx) rfl (by kernel_rfl) (by kernel_rfl) (by kernel_rfl) (fun _ _ _ h => h) (Or.inl ⟨by rfl, fun W hW => ?_⟩) hHeld ?_
        · obtain ⟨q0, q1, q2, q3, q4, q5, q6, q7⟩ := hW
          go_simp
        simp only [Act.put, List.setIfInBounds_toArray, List.set_cons_zero, List.set_cons_succ]
        refine wpAnyH_take (i := 19) (oi := { dst := some 11, op := Op.assign (Operand.tmp 42), type := 3, pos := "law.go:54", after := #[{ on := 15, ground := Ground.data }, { on := 18, ground := Ground.chain }, { on := 0, ground := Ground.phase }, { on := 1, ground := Ground.phase }, { on := 2, ground := Ground.phase }, { on := 3, ground := Ground.phase }, { on := 4, ground := Ground.phase }, { on := 5, ground := Ground.phase }, { on := 6, ground := Ground.phase }, { on := 7, ground := Ground.phase }, { on := 8, ground := Ground.phase }, { on := 9, ground := Ground.phase }, { on := 10, ground := Ground.phase }, { on := 11, ground := Ground.phase }, { on := 12, ground := Ground.phase }, { on := 13, ground := Ground.phase }, { on := 14, ground := Ground.phase }, { on := 15, ground := Ground.phase }, { on := 16, ground := Ground.phase }, { on := 17, ground := Ground.phase }, { on := 18, ground := Ground.phase }], guard := none }) (v := .int .i64 be2) rfl (by kernel_rfl) (by kernel_rfl) (by kernel_rfl) (fun _ _ _ h => h) (Or.inl ⟨by rfl, fun W hW => ?_⟩) hHeld ?_
        · obtain ⟨q0, q1, q2, q3, q4, q5, q6, q7⟩ := hW
          go_simp
        simp only [Act.put, List.setIfInBounds_toArray, List.set_cons_zero, List.set_cons_succ]
        refine wpAnyH_done (by kernel_rfl) ?_ _
        go_wp2_with fail
        go_meet
        exact ⟨_, _, _, _, _, rfl, rfl, rfl, HM⟩
    · go_simp
      have hb10 : Below V4.heap.size V4 (V4.alloc (.cells #[.slice none 0 0, .int .i64 0, .bool false, .bool false] 30)).drew := bAlloc (Below.refl V4.heap.size V4).drew (.cells #[.slice none 0 0, .int .i64 0, .bool false, .bool false] 30)
      have hz10 : SR 30 (V4.alloc (.cells #[.slice none 0 0, .int .i64 0, .bool false, .bool false] 30)).drew (V4.heap.size) [.slice none 0 0, .int .i64 0, .bool false, .bool false] := SR.new 30 (V4) [.slice none 0 0, .int .i64 0, .bool false, .bool false]
      have hv10 : V4.heap.size ≤ V4.heap.size := by have h0 := Below.size (Below.refl V4.heap.size V4).drew; exact h0
      refine hK.out _ _ (sWs FS4.out hb10) (fun hHeld2 => ?_)
      clear hK K hHeld
      have hHeld := hHeld2
      clear hHeld2
      try simp only [Act.put, List.setIfInBounds_toArray, List.set_cons_zero, List.set_cons_succ]
      refine wpAnyH_ready (rs := [8]) (by kernel_rfl) (by simp) ?_
      refine AllReadyH.cons (o := { dst := some 36, op := Op.call { callee := Callee.value (Operand.func 13), args := #[Operand.tmp 34, Operand.tmp 35], argTypes := #[25, 30] }, type := 26, pos := "law.go:54", after := #[{ on := 6, ground := Ground.data }, { on := 7, ground := Ground.data }], guard := none }) rfl (fun K hK => ?_) AllReadyH.nil
      go_simp
      with_reducible refine (CK.out ((V4.alloc (.cells #[.slice none 0 0, .int .i64 0, .bool false, .bool false] 30))).drew hb10).mono ?_
      rintro e w11 ⟨⟨Ak, ck, rfl, ho11⟩, hc11⟩
      have hb11 : Below V4.heap.size V4 w11 := bCall hb10 hc11
      have hz11 := SR.call hz10 hc11 (hz10).lt
      have hne11 : (Value.slice Ak k ck).ownBlock ≠ some (V4.heap.size) := own_ne ho11 (by have h0 := SR.lt hz10; exact h0)
      have hp11 : Own w11 V4.heap.size (.slice Ak k ck) L := ho11.base (by have h0 := Below.size hb10; exact h0)
      clear ho11
      go_wp2_with fail
      refine hK.out _ _ (sWs FS4.out hb11) (fun hHeld2 => ?_)
      clear hK K hHeld
      have hHeld := hHeld2
      clear hHeld2
      try simp only [Act.put, List.setIfInBounds_toArray, List.set_cons_zero, List.set_cons_succ]
      refine wpAnyH_ready (rs := [10]) (by kernel_rfl) (by simp) ?_
      refine AllReadyH.cons (o := { dst := some 38, op := Op.call { callee := Callee.builtin Builtin.append, args := #[Operand.tmp 36, Operand.tmp 37], argTypes := #[26, 26] }, type := 26, pos := "law.go:54", after := #[{ on := 8, ground := Ground.data }, { on := 9, ground := Ground.data }, { on := 8, ground := Ground.chain }], guard := none }) rfl (fun K hK => ?_) AllReadyH.nil
      refine step_app _ rfl (.tmp 36) (.tmp 37) rfl V4.heap.size (.slice Ak k ck) L rfl hp11 _ K1 j1 d1 x1 rfl HJ1.out (HX1.out.at_ hb11) ?_ (Below.size hb11) ?_
      · have := HLE.out; omega
      intro v12 w12 ho12 hg12 hat12
      have hb12 : Below V4.heap.size V4 w12 := hb11.trans (grown_below hp11 hg12 (hb11).size)
      have hz12 : SR 30 w12 (V4.heap.size) [.slice none 0 0, .int .i64 0, .bool false, .bool false] := sr_grow hz11 hg12 hne11
      clear hg12 hat12
      obtain ⟨D12, d12, hv12e, hr12⟩ := ho12.rd
      rw [HKK.out] at hv12e
      subst hv12e
      clear ho12
      refine hK.out _ _ (sWs FS4.out hb12) (fun hHeld2 => ?_)
      clear hK K hHeld
      have hHeld := hHeld2
      clear hHeld2
      try simp only [Act.put, List.setIfInBounds_toArray, List.set_cons_zero, List.set_cons_succ]
      refine wpAnyH_ready (rs := [11]) (by kernel_rfl) (by simp) ?_
      refine AllReadyH.cons (o := { dst := some 39, op := Op.call { callee := Callee.value (Operand.func 17), args := #[Operand.tmp 29, Operand.tmp 31, Operand.tmp 32, Operand.tmp 38], argTypes := #[25, 3, 30, 26] }, type := 41, pos := "law.go:54", after := #[{ on := 1, ground := Ground.data }, { on := 3, ground := Ground.data }, { on := 4, ground := Ground.data }, { on := 10, ground := Ground.data }, { on := 10, ground := Ground.chain }], guard := none }) rfl (fun K hK => ?_) AllReadyH.nil
      go_simp
      with_reducible refine (CP.out w12 D12 d12 hb12 hr12).mono ?_
      rintro e w13 ⟨Ax, cx, Bx, dx, Lx, rfl, e1x, e2x, hx13, hy13, hc13⟩
      have hb13 : Below V4.heap.size V4 w13 := bCall hb12 hc13
      have hz13 := SR.call hz12 hc13 (hz12).lt
      have hr13 := (hr12).at_ hc13
      go_wp2_with fail
      refine hK.out _ _ (sWs FS4.out hb13) (fun hHeld2 => ?_)
      clear hK K hHeld
      have hHeld := hHeld2
      clear hHeld2
      try simp only [Act.put, List.setIfInBounds_toArray, List.set_cons_zero, List.set_cons_succ]
      refine wpAnyH_take (i := 12) (oi := { dst := some 27, op := Op.move (Operand.tmp 39), type := 41, pos := "law.go:54", after := #[{ on := 11, ground := Ground.data }], guard := none }) (v := .tuple #[.agg #[.slice Ax n2 cx, .int .i64 (t2 : Int), .bool ov2, .bool li2], .slice Bx m2 dx, .int .i64 be2]) rfl (by kernel_rfl) (by kernel_rfl) (by kernel_rfl) (fun _ _ _ h => h) (Or.inl ⟨by rfl, fun W hW => ?_⟩) hHeld ?_
      · obtain ⟨q0, q1, q2, q3, q4, q5, q6, q7⟩ := hW
        go_simp
      simp only [Act.put, List.setIfInBounds_toArray, List.set_cons_zero, List.set_cons_succ]
      refine wpAnyH_take (i := 13) (oi := { dst := some 40, op := Op.extract (Operand.tmp 27) 0, type := 30, pos := "law.go:54", after := #[{ on := 12, ground := Ground.data }], guard := none }) (v := .agg #[.slice Ax n2 cx, .int .i64 (t2 : Int), .bool ov2, .bool li2]) rfl (by kernel_rfl) (by kernel_rfl) (by kernel_rfl) (fun _ _ _ h => h) (Or.inl ⟨by rfl, fun W hW => ?_⟩) hHeld ?_
      · obtain ⟨q0, q1, q2, q3, q4, q5, q6, q7⟩ := hW
        go_simp
      simp only [Act.put, List.setIfInBounds_toArray, List.set_cons_zero, List.set_cons_succ]
      refine wpAnyH_take (i := 14) (oi := { dst := some 41, op := Op.extract (Operand.tmp 27) 1, type := 40, pos := "law.go:54", after := #[{ on := 12, ground := Ground.data }, { on := 17, ground := Ground.gcOnly Departure.lateStores }], guard := none }) (v := .slice Bx m2 dx) rfl (by kernel_rfl) (by kernel_rfl) (by kernel_rfl) (fun _ _ _ h => h) (Or.inl ⟨by rfl, fun W hW => ?_⟩) hHeld ?_
      · obtain ⟨q0, q1, q2, q3, q4, q5, q6, q7⟩ := hW
        go_simp
      simp only [Act.put, List.setIfInBounds_toArray, List.set_cons_zero, List.set_cons_succ]
      refine wpAnyH_take (i := 15) (oi := { dst := some 42, op := Op.extract (Operand.tmp 27) 2, type := 3, pos := "law.go:54", after := #[{ on := 12, ground := Ground.data }, { on := 18, ground := Ground.gcOnly Departure.lateStores }], guard := none }) (v := .int .i64 be2) rfl (by kernel_rfl) (by kernel_rfl) (by kernel_rfl) (fun _ _ _ h => h) (Or.inl ⟨by rfl, fun W hW => ?_⟩) hHeld ?_
      · obtain ⟨q0, q1, q2, q3, q4, q5, q6, q7⟩ := hW
        go_simp
      simp only [Act.put, List.setIfInBounds_toArray, List.set_cons_zero, List.set_cons_succ]
      obtain ⟨y0, y1, y2, y3, y4, y5, y6, y7, y8⟩ := st_facts hz13
      have HM := keepd (midg_b (n := n2) (z := (t2 : Int)) (ov := ov2) (li := li2) hz13 hv10 hb13 e1x e2x hx13 hy13)
      refine wpAnyH_ready (rs := [17]) (by kernel_rfl) (by simp) ?_
      refine AllReadyH.cons (o := { dst := none, op := Op.store 30 (Operand.tmp 9) (Operand.tmp 40), type := 0, pos := "law.go:54", after := #[{ on := 16, ground := Ground.data }, { on := 13, ground := Ground.data }, { on := 11, ground := Ground.chain }, { on := 0, ground := Ground.phase }, { on := 1, ground := Ground.phase }, { on := 2, ground := Ground.phase }, { on := 3, ground := Ground.phase }, { on := 4, ground := Ground.phase }, { on := 5, ground := Ground.phase }, { on := 6, ground := Ground.phase }, { on := 7, ground := Ground.phase }, { on := 8, ground := Ground.phase }, { on := 9, ground := Ground.phase }, { on := 10, ground := Ground.phase }, { on := 11, ground := Ground.phase }, { on := 12, ground := Ground.phase }, { on := 13, ground := Ground.phase }, { on := 14, ground := Ground.textOnly Departure.lateStores }, { on := 15, ground := Ground.textOnly Departure.lateStores }, { on := 16, ground := Ground.phase }], guard := none }) rfl (fun K hK => ?_) AllReadyH.nil
      go_simp
      refine hK.out _ _ (sWs FS4.out HM.out.2.2.2) (fun hHeld2 => ?_)
      clear hK K hHeld
      have hHeld := hHeld2
      clear hHeld2
      try simp only [Act.put, List.setIfInBounds_toArray, List.set_cons_zero, List.set_cons_succ]
      refine wpAnyH_take (i := 18) (oi := { dst := some 10, op := Op.assign (Operand.tmp 41), type := 40, pos := "law.go:54", after := #[{ on := 14, ground := Ground.data }, { on := 17, ground := Ground.chain }, { on := 0, ground := Ground.phase }, { on := 1, ground := Ground.phase }, { on := 2, ground := Ground.phase }, { on := 3, ground := Ground.phase }, { on := 4, ground := Ground.phase }, { on := 5, ground := Ground.phase }, { on := 6, ground := Ground.phase }, { on := 7, ground := Ground.phase }, { on := 8, ground := Ground.phase }, { on := 9, ground := Ground.phase }, { on := 10, ground := Ground.phase }, { on := 11, ground := Ground.phase }, { on := 12, ground := Ground.phase }, { on := 13, ground := Ground.phase }, { on := 14, ground := Ground.phase }, { on := 15, ground := Ground.textOnly Departure.lateStores }, { on := 16, ground := Ground.phase }, { on := 17, ground := Ground.phase }], guard := none }) (v := .slice Bx m2 dx) rfl (by kernel_rfl) (by kernel_rfl) (by kernel_rfl) (fun _ _ _ h => h) (Or.inl ⟨by rfl, fun W hW => ?_⟩) hHeld ?_
      · obtain ⟨q0, q1, q2, q3, q4, q5, q6, q7⟩ := hW
        go_simp
      simp only [Act.put, List.setIfInBounds_toArray, List.set_cons_zero, List.set_cons_succ]
      refine wpAnyH_take (i := 19) (oi := { dst := some 11, op := Op.assign (Operand.tmp 42), type := 3, pos := "law.go:54", after := #[{ on := 15, ground := Ground.data }, { on := 18, ground := Ground.chain }, { on := 0, ground := Ground.phase }, { on := 1, ground := Ground.phase }, { on := 2, ground := Ground.phase }, { on := 3, ground := Ground.phase }, { on := 4, ground := Ground.phase }, { on := 5, ground := Ground.phase }, { on := 6, ground := Ground.phase }, { on := 7, ground := Ground.phase }, { on := 8, ground := Ground.phase }, { on := 9, ground := Ground.phase }, { on := 10, ground := Ground.phase }, { on := 11, ground := Ground.phase }, { on := 12, ground := Ground.phase }, { on := 13, ground := Ground.phase }, { on := 14, ground := Ground.phase }, { on := 15, ground := Ground.phase }, { on := 16, ground := Ground.phase }, { on := 17, ground := Ground.phase }, { on := 18, ground := Ground.phase }], guard := none }) (v := .int .i64 be2) rfl (by kernel_rfl) (by kernel_rfl) (by kernel_rfl) (fun _ _ _ h => h) (Or.inl ⟨by rfl, fun W hW => ?_⟩) hHeld ?_
      · obtain ⟨q0, q1, q2, q3, q4, q5, q6, q7⟩ := hW
        go_simp
      simp only [Act.put, List.setIfInBounds_toArray, List.set_cons_zero, List.set_cons_succ]
      refine wpAnyH_done (by kernel_rfl) ?_ _
      go_wp2_with fail
      go_meet
      exact ⟨_, _, _, _, _, rfl, rfl, rfl, HM⟩
  case rest =>
    obtain ⟨b8, Ax, cx, Bx, dx, rfl, rfl, rfl, HMG⟩ := hcut
    obtain ⟨V5, hV5⟩ : ∃ V5, V5 = wc := ⟨_, rfl⟩
    subst hV5
    obtain ⟨g1, g2, ⟨Lx, g31, g32, g33⟩, g4⟩ := HMG.out
    have H8 := keepd g1
    have HR8 := keepd g2
    have HE8 := keepd g33
    have HL8 := keepd (And.intro g31 g32)
    have HB8 := keepd (bCall HBV.out g4)
    have HS8 := keepd (SR.call HS6.out g4 HS6.out.lt)
    have HR28 := keepd (HR4.out.at_ g4)
    have HE28 := keepd (HE4.out.at_ g4)
    clear g1 g2 g31 g32 g33 g4 HMG CK CP FS4 HR14 HBV HS6 HR4 HE4 HX1
    obtain ⟨k0, k1, k2, k3, _, _, _, _, kt⟩ := st_facts H8.out
    obtain ⟨j0, j1', j2, j3, _, _, _, _, jt⟩ := st_facts HS8.out
    have CS := keepd (esame_any A2 Ax l2 l2 n2 n2 c2 cx (t2 : Int) (t2 : Int) ov2 ov2 li2 li2 true V5 HN2.out.symm HN2.out.symm HR28.out HR8.out (sameS_iff.2 ⟨rfl, rfl, rfl, rfl⟩))
    go_wp2_with fail
    with_reducible refine CS.out.mono ?_
    rintro e w5 ⟨rfl, hb5⟩
    have HB9 := keepd (bCall HB8.out hb5)
    have CA := keepd (alike_any B2 Bx L2 Lx m2 m2 f2 dx true w5 HL2.out.2.symm HL8.out.2.symm (HE28.out.at_ hb5) (HE8.out.at_ hb5) (likeE_iff.2 (by rw [HL2.out.1, HL8.out.1])) (by have := HM2.out.2; omega))
    have hee : (be2 == be2) = true := by simp
    clear hb5 CS k0 k1 k2 k3 kt j0 j1' j2 j3 jt
    go_wp2_with fail
    with_reducible refine CA.out.mono ?_
    rintro e w6 ⟨rfl, hb6⟩
    have HB10 := keepd (bCall HB9.out hb6)
    have CW := keepd (awake_any w6 (HLD.out.below HB10.out))
    clear hb6 CA
    go_wp2_with fail
    with_reducible refine CW.out.mono ?_
    rintro e w7 ⟨rfl, hb7⟩
    have HB11 := keepd (bCall HB10.out hb7)
    clear hb7 CW
    go_wp2_with fail
    go_ret
    exact ⟨rfl, HB11.out⟩

end Go.Proofs.YtecihodifgjkoaaDoor
