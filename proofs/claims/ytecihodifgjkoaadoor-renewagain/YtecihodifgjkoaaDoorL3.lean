/-
  RenewAgain walked. No conditions beyond those each theorem states.
-/
import Derived.Test.YtecihodifgjkoaaDoorN8
namespace Go.Proofs.YtecihodifgjkoaaDoor
open Go.RowKit
set_option maxRecDepth 100000

attribute [local go_sem ↓] ex_ld25 ex_st25 ex_al25 ex_bu25 ex_ix25 ex_eq25 ex_ne25 ex_eq23 ex_ne23 ex_ld25o ex_st65 ex_al65 ex_bu65 ex_bu65s ex_ld38 ex_ld25w ex_bu38
attribute [local go_sem] ptrB_at okPtr_at aggC_at agg62 agg69 isC_at isT_at eqV_t eqV_c isRow_new isRow_new65 World.setRow_alloc_new ptr4_at okPtr4_at cutT_at isI_at isS_at bW_at bWs_at ptrW_at okPtrW_at cutW_at isL_at bY_at

theorem s2 {V W : World} {g b5 b6 : Nat} {X : Tb} {room : Int} {A A1 A2 : Option Addr} {n c c1 c2 n1 n2 t1 t2 : Nat} {li1 li2 ov1 ov2 : Bool} (h : WY V g X room A n c ∧ SR 30 V b5 [.slice A1 n1 c1, .int .i64 (t1 : Int), .bool ov1, .bool li1] ∧ SR 30 V b6 [.slice A2 n2 c2, .int .i64 (t2 : Int), .bool ov2, .bool li2]) (hb : Below V.heap.size V W) :
    rowOf W g = (wy X room A n c).toArray ∧ isRow W 38 g 64 = true ∧ W.cell? ⟨b5, 0, none⟩ = some (.slice A1 n1 c1) ∧ W.cell? ⟨b5, 1, none⟩ = some (.int .i64 (t1 : Int)) ∧ W.cell? ⟨b5, 2, none⟩ = some (.bool ov1) ∧ W.cell? ⟨b5, 3, none⟩ = some (.bool li1) ∧ W.cell? ⟨b6, 0, none⟩ = some (.slice A2 n2 c2) ∧ W.cell? ⟨b6, 1, none⟩ = some (.int .i64 (t2 : Int)) ∧ W.cell? ⟨b6, 2, none⟩ = some (.bool ov2) ∧ W.cell? ⟨b6, 3, none⟩ = some (.bool li2) ∧ Below V.heap.size V W := by
  obtain ⟨h0, h1, h2⟩ := h
  obtain ⟨⟨a1, a2⟩, _⟩ := WY.facts (SR.call h0 hb (SR.lt h0))
  have k1 := SR.call h1 hb h1.lt
  have k2 := SR.call h2 hb h2.lt
  exact ⟨a1, a2, k1.cell 0, k1.cell 1, k1.cell 2, k1.cell 3, k2.cell 0, k2.cell 1, k2.cell 2, k2.cell 3, hb⟩
theorem s3 {V W : World} {g b9 b5 b6 : Nat} {X : Tb} {room : Int} {A A3 A1 A2 : Option Addr} {n c c1 c2 c3 n1 n2 t1 t2 : Nat} {li1 li2 ov1 ov2 : Bool} (h : WY V g X room A n c ∧ SR 30 V b9 [.slice A3 n1 c3, .int .i64 (t1 : Int), .bool ov1, .bool li1] ∧ SR 30 V b5 [.slice A1 n1 c1, .int .i64 (t1 : Int), .bool ov1, .bool li1] ∧ SR 30 V b6 [.slice A2 n2 c2, .int .i64 (t2 : Int), .bool ov2, .bool li2]) (hb : Below V.heap.size V W) :
    rowOf W g = (wy X room A n c).toArray ∧ isRow W 38 g 64 = true ∧ W.cell? ⟨b9, 0, none⟩ = some (.slice A3 n1 c3) ∧ W.cell? ⟨b9, 1, none⟩ = some (.int .i64 (t1 : Int)) ∧ W.cell? ⟨b9, 2, none⟩ = some (.bool ov1) ∧ W.cell? ⟨b9, 3, none⟩ = some (.bool li1) ∧ W.cell? ⟨b5, 0, none⟩ = some (.slice A1 n1 c1) ∧ W.cell? ⟨b5, 1, none⟩ = some (.int .i64 (t1 : Int)) ∧ W.cell? ⟨b5, 2, none⟩ = some (.bool ov1) ∧ W.cell? ⟨b5, 3, none⟩ = some (.bool li1) ∧ W.cell? ⟨b6, 0, none⟩ = some (.slice A2 n2 c2) ∧ W.cell? ⟨b6, 1, none⟩ = some (.int .i64 (t2 : Int)) ∧ W.cell? ⟨b6, 2, none⟩ = some (.bool ov2) ∧ W.cell? ⟨b6, 3, none⟩ = some (.bool li2) ∧ Below V.heap.size V W := by
  obtain ⟨h0, h1, h2, h3⟩ := h
  obtain ⟨⟨a1, a2⟩, _⟩ := WY.facts (SR.call h0 hb (SR.lt h0))
  have k1 := SR.call h1 hb h1.lt
  have k2 := SR.call h2 hb h2.lt
  have k3 := SR.call h3 hb h3.lt
  exact ⟨a1, a2, k1.cell 0, k1.cell 1, k1.cell 2, k1.cell 3, k2.cell 0, k2.cell 1, k2.cell 2, k2.cell 3, k3.cell 0, k3.cell 1, k3.cell 2, k3.cell 3, hb⟩

set_option maxHeartbeats 8000000 in
theorem again_law (X : Tb) (hX : TbO X) (room : Int) (A : Option Addr) (us : List UInt8) (c : Nat) (K1 : Option Addr) (us1 : List UInt8) (d1 : Nat) (w : World) (hL : Laid w) (hr : Rd w w.heap.size A us c) (hr1 : Rd w w.heap.size K1 us1 d1) :
    Calls Tryd.prog 6 #[.agg (wy X room A us.length c).toArray, .slice K1 us1.length d1] w fun e w' => e = .returned (.bool true) ∧ Below w.heap.size w w' := by
  obtain ⟨n, hn⟩ : ∃ n, n = us.length := ⟨_, rfl⟩
  rw [← hn]
  have HX := keepd hX
  have HLD := keepd hL
  have HR0 := keepd hr
  have HN := keepd hn
  obtain ⟨⟨l1, t1, ov1, li1⟩, hs⟩ : ∃ s, (playE X room ⟨zE, [], 0⟩ (fewK us)).s = s := ⟨_, rfl⟩
  have HI : Hid (Inv X room ⟨l1, t1, ov1, li1⟩) := by show Inv X room ⟨l1, t1, ov1, li1⟩; rw [← hs]; exact inv_play (Inv.zero X room)
  obtain ⟨n1, hn1⟩ : ∃ n1, l1.length = n1 := ⟨_, rfl⟩
  have HN1 := keepd hn1
  have CR0 := keepd fun (W : World) (h : Rd W W.heap.size A us c) => reached_any X room A us n c W hn h ⟨l1, t1, ov1, li1⟩ n1 hs hn1
  have HS := keepd hs
  obtain ⟨i1, hi1⟩ : ∃ i1, i1 = us1.length := ⟨_, rfl⟩
  rw [← hi1]
  obtain ⟨⟨l2, t2, ov2, li2⟩, hs2⟩ : ∃ s, (playE X room ⟨zE, [], 0⟩ (fewK us1)).s = s := ⟨_, rfl⟩
  have HI2 : Hid (Inv X room ⟨l2, t2, ov2, li2⟩) := by show Inv X room ⟨l2, t2, ov2, li2⟩; rw [← hs2]; exact inv_play (Inv.zero X room)
  obtain ⟨n2, hn2⟩ : ∃ n2, l2.length = n2 := ⟨_, rfl⟩
  have HN2 := keepd hn2
  have CR20 := keepd fun (W : World) (h : Rd W W.heap.size K1 us1 d1) => reached_any X room K1 us1 i1 d1 W hi1 h ⟨l2, t2, ov2, li2⟩ n2 hs2 hn2
  have HX1 := keepd hr1
  clear hi1 hs2 hn2 hr1
  clear hX hL hr hn hs hn1
  go_enter Tryd.func6, Tryd.ntmps6
  go_upto_region 1 with fail
  generalize hV : w.alloc (.cells (wy X room A n c).toArray 38) = V0
  obtain ⟨HW0, HB0⟩ := way_new _ _ _ hV
  obtain ⟨⟨r0, r1⟩, r2, r3⟩ := WY.facts HW0.out
  have CR := keepd fun (W : World) (hb : Below V0.heap.size V0 W) => CR0.out W ((HR0.out.at_ HB0.out).at_ hb)
  clear hV CR0
  go_wp2_with fail
  with_reducible refine (CR.out _ (Below.refl _ _)).mono ?_
  rintro e w1 ⟨A1, c1, rfl, hr1, hb1⟩
  go_upto_region 2 with fail
  generalize hV : w1.alloc (.cells #[.slice A1 n1 c1, .int .i64 (t1 : Int), .bool ov1, .bool li1] 30) = V
  generalize hb3 : w1.heap.size = b5
  have HV1 : Hid (Below V0.heap.size V0 V) := by rw [← hV]; exact bAlloc hb1 _
  have HR1 : Hid (Rd V V.heap.size A1 l1 c1) := by rw [← hV]; exact hr1.at_ (bAlloc (Below.refl _ _) _)
  have FS : Hid (WY V w.heap.size X room A n c ∧ SR 30 V b5 [.slice A1 n1 c1, .int .i64 (t1 : Int), .bool ov1, .bool li1]) := ⟨SR.call HW0.out HV1.out (SR.lt HW0.out), by rw [← hV, ← hb3]; exact heap_alloc_new w1 _⟩
  have HB1 := keepd (bCall HB0.out HV1.out)
  clear hV hb3 hr1 hb1 r0 r1 r2 r3 CR HV1 HW0 HB0
  have CR2 := keepd fun (W : World) (hb : Below V.heap.size V W) => CR20.out W ((HX1.out.at_ HB1.out).at_ hb)
  clear CR20
  obtain ⟨⟨r0, r1⟩, r2, _⟩ := WY.facts FS.out.1
  go_wp2_with fail
  with_reducible refine (CR2.out _ (Below.refl _ _)).mono ?_
  rintro e w1 ⟨A2, c2, rfl, hr2, hb2⟩
  go_upto_region 3 with fail
  generalize hV : w1.alloc (.cells #[.slice A2 n2 c2, .int .i64 (t2 : Int), .bool ov2, .bool li2] 30) = U
  generalize hb6 : w1.heap.size = b6
  have HVU : Hid (Below V.heap.size V U) := by rw [← hV]; exact bAlloc hb2 _
  have HR2 : Hid (Rd U U.heap.size A2 l2 c2) := by rw [← hV]; exact hr2.at_ (bAlloc (Below.refl _ _) _)
  have GS : Hid (WY U w.heap.size X room A n c ∧ SR 30 U b5 [.slice A1 n1 c1, .int .i64 (t1 : Int), .bool ov1, .bool li1] ∧ SR 30 U b6 [.slice A2 n2 c2, .int .i64 (t2 : Int), .bool ov2, .bool li2]) := ⟨SR.call FS.out.1 HVU.out (SR.lt FS.out.1), SR.call FS.out.2 HVU.out FS.out.2.lt, by rw [← hV, ← hb6]; exact heap_alloc_new w1 _⟩
  have HRU := keepd (HR1.out.at_ HVU.out)
  have HBU := keepd (bCall HB1.out HVU.out)
  clear hV hb6 hr2 hb2 r0 r1 r2 CR2 HVU FS HR1 HB1 HX1
  obtain ⟨L1, hl1⟩ : ∃ L, keysL X ⟨l1, t1, ov1, li1⟩ = L := ⟨_, rfl⟩
  obtain ⟨L2, hl2⟩ : ∃ L, keysL X ⟨l2, t2, ov2, li2⟩ = L := ⟨_, rfl⟩
  obtain ⟨k1, hk1⟩ : ∃ k, L1.length = k := ⟨_, rfl⟩
  obtain ⟨k2, hk2⟩ : ∃ k, L2.length = k := ⟨_, rfl⟩
  obtain ⟨r, hq⟩ : ∃ r, (L1 == L2) = r := ⟨_, rfl⟩
  have hq2 : sameS l1 (t1 : Int) ov1 li1 l2 (t2 : Int) ov2 li2 = r := by
    have := same_keys HX.out HI.out HI2.out
    rw [hl1, hl2, hq] at this
    exact this.symm
  have hk9 : k1 ≤ 20000 := by have h := (keysL_len X ⟨l1, t1, ov1, li1⟩).1; rw [hl1, hk1] at h; have := HI.out.ok.2; have h3 : l1.length ≤ 4096 := this; omega
  have hmk : playE X room ⟨zE, [], 0⟩ L1 = ⟨⟨l1, t1, ov1, li1⟩, [], 0⟩ := by rw [← hl1]; exact makes HX.out HI.out
  have CKA := keepd fun (W : World) (B : Option Addr) (d : Nat) (h : Rd W W.heap.size B l1 d) => kgood_any X HX.out B l1 n1 d t1 ov1 li1 W HN1.out.symm h (by rw [← HN1.out]; exact HI.out.ok.1) (by rw [← HN1.out]; exact HI.out.ok.2) L1 k1 hl1 hk1
  have CK1 : Hid (∀ W, Below U.heap.size U W → Calls Tryd.prog 13 #[tv X, .agg #[.slice A1 n1 c1, .int .i64 (t1 : Int), .bool ov1, .bool li1]] W (GotKy W L1 k1)) := fun W hb => CKA.out W A1 c1 (HRU.out.at_ hb)
  have CK2 : Hid (∀ W, Below U.heap.size U W → Calls Tryd.prog 13 #[tv X, .agg #[.slice A2 n2 c2, .int .i64 (t2 : Int), .bool ov2, .bool li2]] W (GotKy W L2 k2)) := fun W hb => kgood_any X HX.out A2 l2 n2 c2 t2 ov2 li2 W HN2.out.symm (HR2.out.at_ hb) (by rw [← HN2.out]; exact HI2.out.ok.1) (by rw [← HN2.out]; exact HI2.out.ok.2) L2 k2 hl2 hk2
  have CP0 : Hid (∀ (W : World) (B : Option Addr) (d : Nat), Rd W W.heap.size B L1 d → Calls Tryd.prog 17 #[tv X, .int .i64 room, .agg #[.slice none 0 0, .int .i64 0, .bool false, .bool false], .slice B k1 d] W (GotP W l1 n1 (t1 : Int) ov1 li1 [] 0 0)) := fun W B d hu =>
    play_any X room none [] 0 0 0 false false B L1 k1 d W rfl (Rd.nil _ _) (Nat.le_refl _) (by omega) hk1.symm hu (by omega) l1 n1 t1 ov1 li1 [] 0 0 hmk HN1.out rfl
  have HQ := keepd (And.intro hq hq2)
  have HK := keepd (And.intro hk1 hk2)
  clear hl1 hl2 hk1 hk2 hk9 hmk hq hq2
  refine wp_region_held_drew (S := fun W => rowOf W w.heap.size = (wy X room A n c).toArray ∧ isRow W 38 w.heap.size 64 = true ∧ W.cell? ⟨b5, 0, none⟩ = some (.slice A1 n1 c1) ∧ W.cell? ⟨b5, 1, none⟩ = some (.int .i64 (t1 : Int)) ∧ W.cell? ⟨b5, 2, none⟩ = some (.bool ov1) ∧ W.cell? ⟨b5, 3, none⟩ = some (.bool li1) ∧ W.cell? ⟨b6, 0, none⟩ = some (.slice A2 n2 c2) ∧ W.cell? ⟨b6, 1, none⟩ = some (.int .i64 (t2 : Int)) ∧ W.cell? ⟨b6, 2, none⟩ = some (.bool ov2) ∧ W.cell? ⟨b6, 3, none⟩ = some (.bool li2) ∧ Below U.heap.size U W) (by kernel_rfl) (s2 GS.out (Below.refl _ _).drew) (fun hHeld => ?_)
  refine wpAnyH_take (i := 0) (oi := { dst := some 21, op := Op.fieldAddr 38 (Operand.tmp 2) 0, type := 0, pos := "law.go:62", after := #[], guard := none }) (v := .pointer (some ⟨w.heap.size, 0, none⟩)) rfl (by kernel_rfl) (by kernel_rfl) (by kernel_rfl) (fun _ _ _ h => h) (Or.inl ⟨by rfl, fun W hW => ?_⟩) hHeld ?_
  · obtain ⟨q0, q1, q2, q3, q4, q5, q6, q7, q8, q9, q10⟩ := hW
    go_simp
  simp only [Act.put, List.setIfInBounds_toArray, List.set_cons_zero, List.set_cons_succ]
  refine wpAnyH_take (i := 1) (oi := { dst := some 22, op := Op.load 25 (Operand.tmp 21), type := 25, pos := "law.go:62", after := #[{ on := 0, ground := Ground.data }], guard := none }) (v := tv X) rfl (by kernel_rfl) (by kernel_rfl) (by kernel_rfl) (fun _ _ _ h => h) (Or.inl ⟨by rfl, fun W hW => ?_⟩) hHeld ?_
  · obtain ⟨q0, q1, q2, q3, q4, q5, q6, q7, q8, q9, q10⟩ := hW
    go_simp
  simp only [Act.put, List.setIfInBounds_toArray, List.set_cons_zero, List.set_cons_succ]
  refine wpAnyH_take (i := 2) (oi := { dst := some 23, op := Op.load 30 (Operand.tmp 5), type := 30, pos := "law.go:62", after := #[], guard := none }) (v := .agg #[.slice A1 n1 c1, .int .i64 (t1 : Int), .bool ov1, .bool li1]) rfl (by kernel_rfl) (by kernel_rfl) (by kernel_rfl) (fun _ _ _ h => h) (Or.inl ⟨by rfl, fun W hW => ?_⟩) hHeld ?_
  · obtain ⟨q0, q1, q2, q3, q4, q5, q6, q7, q8, q9, q10⟩ := hW
    go_simp
  simp only [Act.put, List.setIfInBounds_toArray, List.set_cons_zero, List.set_cons_succ]
  refine wpAnyH_take (i := 4) (oi := { dst := some 25, op := Op.fieldAddr 38 (Operand.tmp 2) 0, type := 0, pos := "law.go:62", after := #[], guard := none }) (v := .pointer (some ⟨w.heap.size, 0, none⟩)) rfl (by kernel_rfl) (by kernel_rfl) (by kernel_rfl) (fun _ _ _ h => h) (Or.inl ⟨by rfl, fun W hW => ?_⟩) hHeld ?_
  · obtain ⟨q0, q1, q2, q3, q4, q5, q6, q7, q8, q9, q10⟩ := hW
    go_simp
  simp only [Act.put, List.setIfInBounds_toArray, List.set_cons_zero, List.set_cons_succ]
  refine wpAnyH_take (i := 5) (oi := { dst := some 26, op := Op.load 25 (Operand.tmp 25), type := 25, pos := "law.go:62", after := #[{ on := 4, ground := Ground.data }], guard := none }) (v := tv X) rfl (by kernel_rfl) (by kernel_rfl) (by kernel_rfl) (fun _ _ _ h => h) (Or.inl ⟨by rfl, fun W hW => ?_⟩) hHeld ?_
  · obtain ⟨q0, q1, q2, q3, q4, q5, q6, q7, q8, q9, q10⟩ := hW
    go_simp
  simp only [Act.put, List.setIfInBounds_toArray, List.set_cons_zero, List.set_cons_succ]
  refine wpAnyH_take (i := 6) (oi := { dst := some 27, op := Op.load 30 (Operand.tmp 6), type := 30, pos := "law.go:62", after := #[], guard := none }) (v := .agg #[.slice A2 n2 c2, .int .i64 (t2 : Int), .bool ov2, .bool li2]) rfl (by kernel_rfl) (by kernel_rfl) (by kernel_rfl) (fun _ _ _ h => h) (Or.inl ⟨by rfl, fun W hW => ?_⟩) hHeld ?_
  · obtain ⟨q0, q1, q2, q3, q4, q5, q6, q7, q8, q9, q10⟩ := hW
    go_simp
  simp only [Act.put, List.setIfInBounds_toArray, List.set_cons_zero, List.set_cons_succ]
  refine wpAnyH_ready (rs := [3]) (by kernel_rfl) (by simp) ?_
  refine AllReadyH.cons (o := { dst := some 24, op := Op.call { callee := Callee.value (Operand.func 13), args := #[Operand.tmp 22, Operand.tmp 23], argTypes := #[25, 30] }, type := 26, pos := "law.go:62", after := #[{ on := 1, ground := Ground.data }, { on := 2, ground := Ground.data }], guard := none }) rfl (fun K hK => ?_) AllReadyH.nil
  go_simp
  with_reducible refine (CK1.out _ (Below.refl _ _).drew).mono ?_
  rintro e w3 ⟨⟨A7, c7, rfl, ho7⟩, hb7⟩
  have HB7 : Hid (Below U.heap.size U w3) := bCall (Below.refl _ _).drew hb7
  go_wp2_with fail
  refine hK.out _ _ (s2 GS.out HB7.out) (fun hHeld2 => ?_)
  clear hK K hHeld
  have hHeld := hHeld2
  clear hHeld2
  try simp only [Act.put, List.setIfInBounds_toArray, List.set_cons_zero, List.set_cons_succ]
  refine wpAnyH_ready (rs := [7]) (by kernel_rfl) (by simp) ?_
  refine AllReadyH.cons (o := { dst := some 28, op := Op.call { callee := Callee.value (Operand.func 13), args := #[Operand.tmp 26, Operand.tmp 27], argTypes := #[25, 30] }, type := 26, pos := "law.go:62", after := #[{ on := 5, ground := Ground.data }, { on := 6, ground := Ground.data }, { on := 3, ground := Ground.chain }], guard := none }) rfl (fun K hK => ?_) AllReadyH.nil
  go_simp
  with_reducible refine (CK2.out _ HB7.out).mono ?_
  rintro e w4 ⟨⟨A8, c8, rfl, ho8⟩, hb8⟩
  have HB8 : Hid (Below U.heap.size U w4) := bCall HB7.out hb8
  go_wp2_with fail
  refine hK.out _ _ (s2 GS.out HB8.out) (fun hHeld2 => ?_)
  clear hK K hHeld
  have hHeld := hHeld2
  clear hHeld2
  try simp only [Act.put, List.setIfInBounds_toArray, List.set_cons_zero, List.set_cons_succ]
  refine wpAnyH_take (i := 8) (oi := { dst := some 7, op := Op.assign (Operand.tmp 24), type := 26, pos := "law.go:62", after := #[{ on := 3, ground := Ground.data }, { on := 7, ground := Ground.chain }, { on := 0, ground := Ground.phase }, { on := 1, ground := Ground.phase }, { on := 2, ground := Ground.phase }, { on := 3, ground := Ground.phase }, { on := 4, ground := Ground.textOnly Departure.lateStores }, { on := 5, ground := Ground.textOnly Departure.lateStores }, { on := 6, ground := Ground.textOnly Departure.lateStores }, { on := 7, ground := Ground.textOnly Departure.lateStoresUnsure }], guard := none }) (v := .slice A7 k1 c7) rfl (by kernel_rfl) (by kernel_rfl) (by kernel_rfl) (fun _ _ _ h => h) (Or.inl ⟨by rfl, fun W hW => ?_⟩) hHeld ?_
  · obtain ⟨q0, q1, q2, q3, q4, q5, q6, q7, q8, q9, q10⟩ := hW
    go_simp
  simp only [Act.put, List.setIfInBounds_toArray, List.set_cons_zero, List.set_cons_succ]
  refine wpAnyH_take (i := 9) (oi := { dst := some 8, op := Op.assign (Operand.tmp 28), type := 26, pos := "law.go:62", after := #[{ on := 7, ground := Ground.data }, { on := 8, ground := Ground.chain }, { on := 0, ground := Ground.phase }, { on := 1, ground := Ground.phase }, { on := 2, ground := Ground.phase }, { on := 3, ground := Ground.phase }, { on := 4, ground := Ground.phase }, { on := 5, ground := Ground.phase }, { on := 6, ground := Ground.phase }, { on := 7, ground := Ground.phase }, { on := 8, ground := Ground.phase }], guard := none }) (v := .slice A8 k2 c8) rfl (by kernel_rfl) (by kernel_rfl) (by kernel_rfl) (fun _ _ _ h => h) (Or.inl ⟨by rfl, fun W hW => ?_⟩) hHeld ?_
  · obtain ⟨q0, q1, q2, q3, q4, q5, q6, q7, q8, q9, q10⟩ := hW
    go_simp
  simp only [Act.put, List.setIfInBounds_toArray, List.set_cons_zero, List.set_cons_succ]
  refine wpAnyH_done (by kernel_rfl) ?_ _
  have HO7 : Hid (Rd w4 w4.heap.size A7 L1 c7) := ho7.rdOf.at_ hb8
  have HO8 : Hid (Rd w4 w4.heap.size A8 L2 c8) := ho8.rdOf
  have GW : Hid (WY w4 w.heap.size X room A n c ∧ SR 30 w4 b5 [.slice A1 n1 c1, .int .i64 (t1 : Int), .bool ov1, .bool li1] ∧ SR 30 w4 b6 [.slice A2 n2 c2, .int .i64 (t2 : Int), .bool ov2, .bool li2]) := ⟨SR.call GS.out.1 HB8.out (SR.lt GS.out.1), SR.call GS.out.2.1 HB8.out GS.out.2.1.lt, SR.call GS.out.2.2 HB8.out GS.out.2.2.lt⟩
  have HR14 := keepd (HRU.out.at_ HB8.out)
  have HR24 := keepd (HR2.out.at_ HB8.out)
  have HB4 := keepd (bCall HBU.out HB8.out)
  clear ho7 ho8 hb7 hb8 HB7 HB8 GS HRU HR2 HBU CK1 CK2
  have CP := keepd (CP0.out w4 A7 c7 HO7.out)
  obtain ⟨⟨r0, r1⟩, r2, _⟩ := WY.facts GW.out.1
  go_wp2_with fail
  with_reducible refine CP.out.mono ?_
  rintro e w5 ⟨A3, c3, B3, f3, L3, rfl, hl3, hm3, hr3, hre3, hb3⟩
  go_upto_region 5 with fail
  generalize hV : w5.alloc (.cells #[.slice A3 n1 c3, .int .i64 (t1 : Int), .bool ov1, .bool li1] 30) = Z
  generalize hb9 : w5.heap.size = b9
  have HZ : Hid (Below w4.heap.size w4 Z) := by rw [← hV]; exact bAlloc hb3 _
  have HR3 : Hid (Rd Z Z.heap.size A3 l1 c3) := by rw [← hV]; exact hr3.at_ (bAlloc (Below.refl _ _) _)
  have GZ : Hid (WY Z w.heap.size X room A n c ∧ SR 30 Z b9 [.slice A3 n1 c3, .int .i64 (t1 : Int), .bool ov1, .bool li1] ∧ SR 30 Z b5 [.slice A1 n1 c1, .int .i64 (t1 : Int), .bool ov1, .bool li1] ∧ SR 30 Z b6 [.slice A2 n2 c2, .int .i64 (t2 : Int), .bool ov2, .bool li2]) := ⟨SR.call GW.out.1 HZ.out (SR.lt GW.out.1), by rw [← hV, ← hb9]; exact heap_alloc_new w5 _, SR.call GW.out.2.1 HZ.out GW.out.2.1.lt, SR.call GW.out.2.2 HZ.out GW.out.2.2.lt⟩
  have HO7Z := keepd (HO7.out.at_ HZ.out)
  have HO8Z := keepd (HO8.out.at_ HZ.out)
  have HR1Z := keepd (HR14.out.at_ HZ.out)
  have HR2Z := keepd (HR24.out.at_ HZ.out)
  have HBZ := keepd (bCall HB4.out HZ.out)
  clear hV hb9 hl3 hm3 hr3 hre3 hb3 CP CP0 GW HO7 HO8 HR14 HR24 HB4 HZ r0 r1 r2
  have CK3 : Hid (∀ W, Below Z.heap.size Z W → Calls Tryd.prog 13 #[tv X, .agg #[.slice A3 n1 c3, .int .i64 (t1 : Int), .bool ov1, .bool li1]] W (GotKy W L1 k1)) := fun W hb => CKA.out W A3 c3 (HR3.out.at_ hb)
  have CO1 : Hid (∀ (W : World) (B : Option Addr) (d : Nat), Below Z.heap.size Z W → Rd W W.heap.size B L1 d → Calls Tryd.prog 12 #[.slice B k1 d, .slice A7 k1 c7] W fun e w' => e = .returned (.bool true) ∧ w' = W) := fun W B d hb hu => octets_any B A7 L1 L1 k1 k1 d c7 true W HK.out.1.symm HK.out.1.symm hu (HO7Z.out.at_ hb) (by simp)
  have CO2 : Hid (∀ W : World, Below Z.heap.size Z W → Calls Tryd.prog 12 #[.slice A7 k1 c7, .slice A8 k2 c8] W fun e w' => e = .returned (.bool r) ∧ w' = W) := fun W hb => octets_any A7 A8 L1 L2 k1 k2 c7 c8 r W HK.out.1.symm HK.out.2.symm (HO7Z.out.at_ hb) (HO8Z.out.at_ hb) HQ.out.1
  have CS : Hid (∀ W : World, Below Z.heap.size Z W → Calls Tryd.prog 18 #[.agg #[.slice A1 n1 c1, .int .i64 (t1 : Int), .bool ov1, .bool li1], .agg #[.slice A2 n2 c2, .int .i64 (t2 : Int), .bool ov2, .bool li2]] W fun e w' => e = .returned (.bool r) ∧ Below W.heap.size W w') := fun W hb => esame_any A1 A2 l1 l2 n1 n2 c1 c2 (t1 : Int) (t2 : Int) ov1 ov2 li1 li2 r W HN1.out.symm HN2.out.symm (HR1Z.out.at_ hb) (HR2Z.out.at_ hb) HQ.out.2
  have CW : Hid (∀ W : World, Below Z.heap.size Z W → Calls Tryd.prog 15 #[] W fun e w' => e = .returned (.bool true) ∧ Below W.heap.size W w') := fun W hb => awake_any W (HLD.out.below (bCall HBZ.out hb))
  clear CKA HR1Z HR2Z HO7Z HO8Z HR3
  refine wp_region_held_drew (S := fun W => rowOf W w.heap.size = (wy X room A n c).toArray ∧ isRow W 38 w.heap.size 64 = true ∧ W.cell? ⟨b9, 0, none⟩ = some (.slice A3 n1 c3) ∧ W.cell? ⟨b9, 1, none⟩ = some (.int .i64 (t1 : Int)) ∧ W.cell? ⟨b9, 2, none⟩ = some (.bool ov1) ∧ W.cell? ⟨b9, 3, none⟩ = some (.bool li1) ∧ W.cell? ⟨b5, 0, none⟩ = some (.slice A1 n1 c1) ∧ W.cell? ⟨b5, 1, none⟩ = some (.int .i64 (t1 : Int)) ∧ W.cell? ⟨b5, 2, none⟩ = some (.bool ov1) ∧ W.cell? ⟨b5, 3, none⟩ = some (.bool li1) ∧ W.cell? ⟨b6, 0, none⟩ = some (.slice A2 n2 c2) ∧ W.cell? ⟨b6, 1, none⟩ = some (.int .i64 (t2 : Int)) ∧ W.cell? ⟨b6, 2, none⟩ = some (.bool ov2) ∧ W.cell? ⟨b6, 3, none⟩ = some (.bool li2) ∧ Below Z.heap.size Z W) (by kernel_rfl) (s3 GZ.out (Below.refl _ _).drew) (fun hHeld => ?_)
  refine wpAnyH_take (i := 0) (oi := { dst := some 40, op := Op.fieldAddr 38 (Operand.tmp 2) 0, type := 0, pos := "law.go:64", after := #[], guard := none }) (v := .pointer (some ⟨w.heap.size, 0, none⟩)) rfl (by kernel_rfl) (by kernel_rfl) (by kernel_rfl) (fun _ _ _ h => h) (Or.inl ⟨by rfl, fun W hW => ?_⟩) hHeld ?_
  · obtain ⟨q0, q1, q2, q3, q4, q5, q6, q7, q8, q9, q10, q11, q12, q13, q14⟩ := hW
    go_simp
  simp only [Act.put, List.setIfInBounds_toArray, List.set_cons_zero, List.set_cons_succ]
  refine wpAnyH_take (i := 1) (oi := { dst := some 41, op := Op.load 25 (Operand.tmp 40), type := 25, pos := "law.go:64", after := #[{ on := 0, ground := Ground.data }], guard := none }) (v := tv X) rfl (by kernel_rfl) (by kernel_rfl) (by kernel_rfl) (fun _ _ _ h => h) (Or.inl ⟨by rfl, fun W hW => ?_⟩) hHeld ?_
  · obtain ⟨q0, q1, q2, q3, q4, q5, q6, q7, q8, q9, q10, q11, q12, q13, q14⟩ := hW
    go_simp
  simp only [Act.put, List.setIfInBounds_toArray, List.set_cons_zero, List.set_cons_succ]
  refine wpAnyH_take (i := 2) (oi := { dst := some 42, op := Op.load 30 (Operand.tmp 9), type := 30, pos := "law.go:64", after := #[], guard := none }) (v := .agg #[.slice A3 n1 c3, .int .i64 (t1 : Int), .bool ov1, .bool li1]) rfl (by kernel_rfl) (by kernel_rfl) (by kernel_rfl) (fun _ _ _ h => h) (Or.inl ⟨by rfl, fun W hW => ?_⟩) hHeld ?_
  · obtain ⟨q0, q1, q2, q3, q4, q5, q6, q7, q8, q9, q10, q11, q12, q13, q14⟩ := hW
    go_simp
  simp only [Act.put, List.setIfInBounds_toArray, List.set_cons_zero, List.set_cons_succ]
  refine wpAnyH_take (i := 4) (oi := { dst := some 44, op := Op.move (Operand.tmp 7), type := 26, pos := "law.go:64", after := #[], guard := none }) (v := .slice A7 k1 c7) rfl (by kernel_rfl) (by kernel_rfl) (by kernel_rfl) (fun _ _ _ h => h) (Or.inl ⟨by rfl, fun W hW => ?_⟩) hHeld ?_
  · obtain ⟨q0, q1, q2, q3, q4, q5, q6, q7, q8, q9, q10, q11, q12, q13, q14⟩ := hW
    go_simp
  simp only [Act.put, List.setIfInBounds_toArray, List.set_cons_zero, List.set_cons_succ]
  refine wpAnyH_ready (rs := [3]) (by kernel_rfl) (by simp) ?_
  refine AllReadyH.cons (o := { dst := some 43, op := Op.call { callee := Callee.value (Operand.func 13), args := #[Operand.tmp 41, Operand.tmp 42], argTypes := #[25, 30] }, type := 26, pos := "law.go:64", after := #[{ on := 1, ground := Ground.data }, { on := 2, ground := Ground.data }], guard := none }) rfl (fun K hK => ?_) AllReadyH.nil
  go_simp
  with_reducible refine (CK3.out _ (Below.refl _ _).drew).mono ?_
  rintro e w6 ⟨⟨A10, c10, rfl, ho10⟩, hb10⟩
  have HB10 : Hid (Below Z.heap.size Z w6) := bCall (Below.refl _ _).drew hb10
  go_wp2_with fail
  refine hK.out _ _ (s3 GZ.out HB10.out) (fun hHeld2 => ?_)
  clear hK K hHeld
  have hHeld := hHeld2
  clear hHeld2
  try simp only [Act.put, List.setIfInBounds_toArray, List.set_cons_zero, List.set_cons_succ]
  refine wpAnyH_ready (rs := [5]) (by kernel_rfl) (by simp) ?_
  refine AllReadyH.cons (o := { dst := some 45, op := Op.call { callee := Callee.value (Operand.func 12), args := #[Operand.tmp 43, Operand.tmp 44], argTypes := #[26, 26] }, type := 4, pos := "law.go:64", after := #[{ on := 3, ground := Ground.data }, { on := 4, ground := Ground.data }, { on := 3, ground := Ground.chain }], guard := none }) rfl (fun K hK => ?_) AllReadyH.nil
  go_simp
  with_reducible refine (CO1.out _ A10 c10 HB10.out ho10.rdOf).mono ?_
  rintro e w7 ⟨rfl, hw7⟩
  rw [hw7]
  go_wp2_with fail
  refine hK.out _ _ (s3 GZ.out HB10.out) (fun hHeld2 => ?_)
  clear hK K hHeld
  have hHeld := hHeld2
  clear hHeld2
  try simp only [Act.put, List.setIfInBounds_toArray, List.set_cons_zero, List.set_cons_succ]
  refine wpAnyH_take (i := 6) (oi := { dst := some 46, op := Op.move (Operand.tmp 45), type := 4, pos := "law.go:64", after := #[{ on := 5, ground := Ground.data }, { on := 5, ground := Ground.chain }], guard := none }) (v := .bool true) rfl (by kernel_rfl) (by kernel_rfl) (by kernel_rfl) (fun _ _ _ h => h) (Or.inl ⟨by rfl, fun W hW => ?_⟩) hHeld ?_
  · obtain ⟨q0, q1, q2, q3, q4, q5, q6, q7, q8, q9, q10, q11, q12, q13, q14⟩ := hW
    go_simp
  simp only [Act.put, List.setIfInBounds_toArray, List.set_cons_zero, List.set_cons_succ]
  refine wpAnyH_take (i := 7) (oi := { dst := some 47, op := Op.move (Operand.tmp 7), type := 26, pos := "law.go:64", after := #[{ on := 6, ground := Ground.guard }], guard := some (6, true) }) (v := .slice A7 k1 c7) rfl (by kernel_rfl) (by kernel_rfl) (by kernel_rfl) (fun _ _ _ h => h) (Or.inl ⟨by rfl, fun W hW => ?_⟩) hHeld ?_
  · obtain ⟨q0, q1, q2, q3, q4, q5, q6, q7, q8, q9, q10, q11, q12, q13, q14⟩ := hW
    go_simp
  simp only [Act.put, List.setIfInBounds_toArray, List.set_cons_zero, List.set_cons_succ]
  refine wpAnyH_take (i := 8) (oi := { dst := some 48, op := Op.move (Operand.tmp 8), type := 26, pos := "law.go:64", after := #[{ on := 6, ground := Ground.guard }], guard := some (6, true) }) (v := .slice A8 k2 c8) rfl (by kernel_rfl) (by kernel_rfl) (by kernel_rfl) (fun _ _ _ h => h) (Or.inl ⟨by rfl, fun W hW => ?_⟩) hHeld ?_
  · obtain ⟨q0, q1, q2, q3, q4, q5, q6, q7, q8, q9, q10, q11, q12, q13, q14⟩ := hW
    go_simp
  simp only [Act.put, List.setIfInBounds_toArray, List.set_cons_zero, List.set_cons_succ]
  refine wpAnyH_take (i := 10) (oi := { dst := some 50, op := Op.load 30 (Operand.tmp 5), type := 30, pos := "law.go:64", after := #[{ on := 6, ground := Ground.guard }], guard := some (6, true) }) (v := .agg #[.slice A1 n1 c1, .int .i64 (t1 : Int), .bool ov1, .bool li1]) rfl (by kernel_rfl) (by kernel_rfl) (by kernel_rfl) (fun _ _ _ h => h) (Or.inl ⟨by rfl, fun W hW => ?_⟩) hHeld ?_
  · obtain ⟨q0, q1, q2, q3, q4, q5, q6, q7, q8, q9, q10, q11, q12, q13, q14⟩ := hW
    go_simp
  simp only [Act.put, List.setIfInBounds_toArray, List.set_cons_zero, List.set_cons_succ]
  refine wpAnyH_take (i := 11) (oi := { dst := some 51, op := Op.load 30 (Operand.tmp 6), type := 30, pos := "law.go:64", after := #[{ on := 6, ground := Ground.guard }], guard := some (6, true) }) (v := .agg #[.slice A2 n2 c2, .int .i64 (t2 : Int), .bool ov2, .bool li2]) rfl (by kernel_rfl) (by kernel_rfl) (by kernel_rfl) (fun _ _ _ h => h) (Or.inl ⟨by rfl, fun W hW => ?_⟩) hHeld ?_
  · obtain ⟨q0, q1, q2, q3, q4, q5, q6, q7, q8, q9, q10, q11, q12, q13, q14⟩ := hW
    go_simp
  simp only [Act.put, List.setIfInBounds_toArray, List.set_cons_zero, List.set_cons_succ]
  refine wpAnyH_ready (rs := [9]) (by kernel_rfl) (by simp) ?_
  refine AllReadyH.cons (o := { dst := some 49, op := Op.call { callee := Callee.value (Operand.func 12), args := #[Operand.tmp 47, Operand.tmp 48], argTypes := #[26, 26] }, type := 4, pos := "law.go:64", after := #[{ on := 7, ground := Ground.data }, { on := 8, ground := Ground.data }, { on := 6, ground := Ground.chain }, { on := 6, ground := Ground.guard }], guard := some (6, true) }) rfl (fun K hK => ?_) AllReadyH.nil
  go_simp
  with_reducible refine (CO2.out _ HB10.out).mono ?_
  rintro e w8 ⟨rfl, hw8⟩
  rw [hw8]
  go_wp2_with fail
  refine hK.out _ _ (s3 GZ.out HB10.out) (fun hHeld2 => ?_)
  clear hK K hHeld
  have hHeld := hHeld2
  clear hHeld2
  try simp only [Act.put, List.setIfInBounds_toArray, List.set_cons_zero, List.set_cons_succ]
  refine wpAnyH_ready (rs := [12]) (by kernel_rfl) (by simp) ?_
  refine AllReadyH.cons (o := { dst := some 52, op := Op.call { callee := Callee.value (Operand.func 18), args := #[Operand.tmp 50, Operand.tmp 51], argTypes := #[30, 30] }, type := 4, pos := "law.go:64", after := #[{ on := 10, ground := Ground.data }, { on := 11, ground := Ground.data }, { on := 9, ground := Ground.chain }, { on := 6, ground := Ground.guard }], guard := some (6, true) }) rfl (fun K hK => ?_) AllReadyH.nil
  go_simp
  with_reducible refine (CS.out _ HB10.out).mono ?_
  rintro e w9 ⟨rfl, hb12⟩
  have HB12 : Hid (Below Z.heap.size Z w9) := bCall HB10.out hb12
  go_wp2_with fail
  refine hK.out _ _ (s3 GZ.out HB12.out) (fun hHeld2 => ?_)
  clear hK K hHeld
  have hHeld := hHeld2
  clear hHeld2
  try simp only [Act.put, List.setIfInBounds_toArray, List.set_cons_zero, List.set_cons_succ]
  refine wpAnyH_take (i := 13) (oi := { dst := some 53, op := Op.binOp BinOp.eql 4 (Operand.tmp 49) (Operand.tmp 52) 4, type := 4, pos := "law.go:64", after := #[{ on := 9, ground := Ground.data }, { on := 12, ground := Ground.data }, { on := 6, ground := Ground.guard }], guard := some (6, true) }) (v := .bool true) rfl (by kernel_rfl) (by kernel_rfl) (by kernel_rfl) (fun _ _ _ h => h) (Or.inl ⟨by rfl, fun W hW => ?_⟩) hHeld ?_
  · obtain ⟨q0, q1, q2, q3, q4, q5, q6, q7, q8, q9, q10, q11, q12, q13, q14⟩ := hW
    have hrr : (r == r) = true := by simp
    go_simp
  simp only [Act.put, List.setIfInBounds_toArray, List.set_cons_zero, List.set_cons_succ]
  refine wpAnyH_take (i := 14) (oi := { dst := some 54, op := Op.pick (Operand.tmp 46) (Operand.tmp 53) (Operand.const (Value.bool false)), type := 4, pos := "law.go:64", after := #[{ on := 6, ground := Ground.data }, { on := 13, ground := Ground.data }], guard := none }) (v := .bool true) rfl (by kernel_rfl) (by kernel_rfl) (by kernel_rfl) (fun _ _ _ h => h) (Or.inl ⟨by rfl, fun W hW => ?_⟩) hHeld ?_
  · obtain ⟨q0, q1, q2, q3, q4, q5, q6, q7, q8, q9, q10, q11, q12, q13, q14⟩ := hW
    go_simp
  simp only [Act.put, List.setIfInBounds_toArray, List.set_cons_zero, List.set_cons_succ]
  refine wpAnyH_take (i := 15) (oi := { dst := some 55, op := Op.move (Operand.tmp 54), type := 4, pos := "law.go:64", after := #[{ on := 14, ground := Ground.data }, { on := 12, ground := Ground.chain }], guard := none }) (v := .bool true) rfl (by kernel_rfl) (by kernel_rfl) (by kernel_rfl) (fun _ _ _ h => h) (Or.inl ⟨by rfl, fun W hW => ?_⟩) hHeld ?_
  · obtain ⟨q0, q1, q2, q3, q4, q5, q6, q7, q8, q9, q10, q11, q12, q13, q14⟩ := hW
    go_simp
  simp only [Act.put, List.setIfInBounds_toArray, List.set_cons_zero, List.set_cons_succ]
  refine wpAnyH_ready (rs := [16]) (by kernel_rfl) (by simp) ?_
  refine AllReadyH.cons (o := { dst := some 56, op := Op.call { callee := Callee.value (Operand.func 15), args := #[], argTypes := #[] }, type := 4, pos := "law.go:64", after := #[{ on := 15, ground := Ground.chain }, { on := 15, ground := Ground.guard }], guard := some (15, true) }) rfl (fun K hK => ?_) AllReadyH.nil
  go_simp
  with_reducible refine (CW.out _ HB12.out).mono ?_
  rintro e w10 ⟨rfl, hb13⟩
  have HB13 : Hid (Below Z.heap.size Z w10) := bCall HB12.out hb13
  go_wp2_with fail
  refine hK.out _ _ (s3 GZ.out HB13.out) (fun hHeld2 => ?_)
  clear hK K hHeld
  have hHeld := hHeld2
  clear hHeld2
  try simp only [Act.put, List.setIfInBounds_toArray, List.set_cons_zero, List.set_cons_succ]
  refine wpAnyH_take (i := 17) (oi := { dst := some 57, op := Op.pick (Operand.tmp 55) (Operand.tmp 56) (Operand.const (Value.bool false)), type := 4, pos := "law.go:64", after := #[{ on := 15, ground := Ground.data }, { on := 16, ground := Ground.data }], guard := none }) (v := .bool true) rfl (by kernel_rfl) (by kernel_rfl) (by kernel_rfl) (fun _ _ _ h => h) (Or.inl ⟨by rfl, fun W hW => ?_⟩) hHeld ?_
  · obtain ⟨q0, q1, q2, q3, q4, q5, q6, q7, q8, q9, q10, q11, q12, q13, q14⟩ := hW
    go_simp
  simp only [Act.put, List.setIfInBounds_toArray, List.set_cons_zero, List.set_cons_succ]
  refine wpAnyH_take (i := 18) (oi := { dst := some 4, op := Op.assign (Operand.tmp 57), type := 4, pos := "law.go:64", after := #[{ on := 17, ground := Ground.data }, { on := 16, ground := Ground.chain }, { on := 0, ground := Ground.phase }, { on := 1, ground := Ground.phase }, { on := 2, ground := Ground.phase }, { on := 3, ground := Ground.phase }, { on := 4, ground := Ground.phase }, { on := 5, ground := Ground.phase }, { on := 6, ground := Ground.phase }, { on := 7, ground := Ground.phase }, { on := 8, ground := Ground.phase }, { on := 9, ground := Ground.phase }, { on := 10, ground := Ground.phase }, { on := 11, ground := Ground.phase }, { on := 12, ground := Ground.phase }, { on := 13, ground := Ground.phase }, { on := 14, ground := Ground.phase }, { on := 15, ground := Ground.phase }, { on := 16, ground := Ground.phase }, { on := 17, ground := Ground.phase }], guard := none }) (v := .bool true) rfl (by kernel_rfl) (by kernel_rfl) (by kernel_rfl) (fun _ _ _ h => h) (Or.inl ⟨by rfl, fun W hW => ?_⟩) hHeld ?_
  · obtain ⟨q0, q1, q2, q3, q4, q5, q6, q7, q8, q9, q10, q11, q12, q13, q14⟩ := hW
    go_simp
  simp only [Act.put, List.setIfInBounds_toArray, List.set_cons_zero, List.set_cons_succ]
  refine wpAnyH_done (by kernel_rfl) ?_ _
  go_wp2_with fail
  go_ret
  exact ⟨rfl, bCall HBZ.out HB13.out⟩

end Go.Proofs.YtecihodifgjkoaaDoor
