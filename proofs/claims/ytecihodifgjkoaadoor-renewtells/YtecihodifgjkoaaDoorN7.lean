/-
  The contract of reached. No conditions beyond those each theorem states.
-/
import Derived.Test.YtecihodifgjkoaaDoorW2
namespace Go.Proofs.YtecihodifgjkoaaDoor
open Go.RowKit
set_option maxRecDepth 100000

attribute [local go_sem ↓] ex_ld25 ex_st25 ex_al25 ex_bu25 ex_ix25 ex_eq25 ex_ne25 ex_eq23 ex_ne23 ex_ld25o ex_st65 ex_al65 ex_bu65 ex_bu65s ex_ld38 ex_ld25w ex_bu38
attribute [local go_sem] ptrB_at okPtr_at aggC_at agg62 agg69 isC_at isT_at eqV_t eqV_c isRow_new isRow_new65 World.setRow_alloc_new ptr4_at okPtr4_at cutT_at isI_at isS_at bW_at bWs_at ptrW_at okPtrW_at cutW_at isL_at bY_at

/-- A state that is answered. -/
def GotSt (w : World) (l : List UInt8) (n : Nat) (z : Int) (ov li : Bool) (e : Ending) (w' : World) : Prop :=
  ∃ A c, e = .returned (.agg #[.slice A n c, .int .i64 z, .bool ov, .bool li]) ∧ Rd w' w'.heap.size A l c ∧ Below w.heap.size w w'
theorem wz_new (w : World) (cs : List Value) (V : World) (hV : (w.alloc (.cells cs.toArray 38)).alloc (.cells #[.slice none 0 0, .int .i64 0, .bool false, .bool false] 30) = V) : Hid (SR 38 V w.heap.size cs) ∧ Hid (SR 30 V (w.heap.size + 1) [.slice none 0 0, .int .i64 0, .bool false, .bool false]) ∧ Hid (Below w.heap.size w V) := by
  subst hV
  refine ⟨SR.alloc (SR.new 38 w _) _, ?_, bAlloc (bAlloc (Below.refl _ _) _) _⟩
  have := SR.new 30 (w.alloc (.cells cs.toArray 38)) [.slice none 0 0, .int .i64 0, .bool false, .bool false]
  rw [World.size_alloc] at this
  exact this

set_option maxHeartbeats 4000000 in
theorem reached_any (X : Tb) (room : Int) (A : Option Addr) (us : List UInt8) (n c : Nat) (w : World) (hn : n = us.length) (hr : Rd w w.heap.size A us c) (s : Ed) (m : Nat) (hs : (playE X room ⟨zE, [], 0⟩ (fewK us)).s = s) (hm : s.l.length = m) :
    Calls Tryd.prog 16 #[.agg (wy X room A n c).toArray] w (GotSt w s.l m (s.t : Int) s.ov s.li) := by
  obtain ⟨l1, t1, ov1, li1⟩ := s
  obtain ⟨j, hj⟩ : ∃ j, (fewK us).length = j := ⟨_, rfl⟩
  have hjl : j ≤ 200 := by rw [← hj]; exact fewK_le _
  obtain ⟨es1, be1, hpl⟩ : ∃ es1 be1, playE X room ⟨⟨[], 0, false, false⟩, [], 0⟩ (fewK us) = ⟨⟨l1, t1, ov1, li1⟩, es1, be1⟩ := ⟨_, _, by rw [← hs]; rfl⟩
  obtain ⟨m1, hm1⟩ : ∃ m1, es1.length = m1 := ⟨_, rfl⟩
  obtain ⟨n1, hn1⟩ : ∃ n1, l1.length = n1 := ⟨_, rfl⟩
  have hmn : n1 = m := by rw [← hm, ← hn1]
  subst hmn
  have CK := keepd fun W : World => keys_any A us n c j W hn (by rw [hn]; exact hr.1) hj
  have CP0 := keepd fun (W : World) (h : Rd W W.heap.size A (fewK us) c) => play_any X room none [] 0 0 0 false false A (fewK us) j c W rfl (Rd.nil _ _) (Nat.le_refl _) (by omega) hj.symm h (by omega) l1 n1 t1 ov1 li1 es1 m1 be1 hpl hn1 hm1
  have HR0 : Hid (Rd w w.heap.size A (fewK us) c) := hr.take 200
  rw [show (((0 : Nat) : Nat) : Int) = 0 from rfl] at CP0
  clear hn hr hs hm hj hjl hpl hm1 hn1
  show Calls _ _ _ _ (GotSt w l1 n1 (t1 : Int) ov1 li1)
  go_enter Tryd.func16, Tryd.ntmps16
  go_upto_region 1 with fail
  generalize hV : (w.alloc (.cells (wy X room A n c).toArray 38)).alloc (.cells #[.slice none 0 0, .int .i64 0, .bool false, .bool false] 30) = V
  obtain ⟨HW, HZ, HB⟩ := wz_new _ _ _ hV
  clear hV
  have CP : Hid (∀ W : World, Below V.heap.size V W → Calls Tryd.prog 17 #[tv X, .int .i64 room, .agg #[.slice none 0 0, .int .i64 0, .bool false, .bool false], .slice A j c] W (GotP W l1 n1 (t1 : Int) ov1 li1 es1 m1 (be1 : Int))) := fun W hb => CP0.out W ((HR0.out.at_ HB.out).at_ hb)
  clear CP0 HR0
  go_cut [3] from 4 to 18 (fun s3 wx => ∃ b8 : Nat, s3 = .pointer (some ⟨b8, 0, none⟩) ∧ ∃ (Ax : Option Addr) (cx : Nat) (Bx : Option Addr) (dx : Nat), Hid (MidG V b8 l1 Ax n1 cx (t1 : Int) ov1 li1 es1 Bx m1 dx wx))
  case first =>
    refine wp_region_held_drew (S := fun W => rowOf W w.heap.size = (wy X room A n c).toArray ∧ isRow W 38 w.heap.size 64 = true ∧ W.cell? ⟨w.heap.size, 62, none⟩ = some (.int .i64 room) ∧ W.cell? ⟨w.heap.size, 63, none⟩ = some (.slice A n c) ∧ Below V.heap.size V W) (by kernel_rfl) (sWy HW.out (Below.refl V.heap.size V).drew) (fun hHeld => ?_)
    refine wpAnyH_take (i := 0) (oi := { dst := some 7, op := Op.fieldAddr 38 (Operand.tmp 1) 0, type := 0, pos := "law.go:32", after := #[], guard := none }) (v := .pointer (some ⟨w.heap.size, 0, none⟩)) rfl (by kernel_rfl) (by kernel_rfl) (by kernel_rfl) (fun _ _ _ h => h) (Or.inl ⟨by rfl, fun W hW => ?_⟩) hHeld ?_
    · obtain ⟨q0, q1, q2, q3, q4⟩ := hW
      go_simp
    simp only [Act.put, List.setIfInBounds_toArray, List.set_cons_zero, List.set_cons_succ]
    refine wpAnyH_take (i := 1) (oi := { dst := some 8, op := Op.load 25 (Operand.tmp 7), type := 25, pos := "law.go:32", after := #[{ on := 0, ground := Ground.data }], guard := none }) (v := tv X) rfl (by kernel_rfl) (by kernel_rfl) (by kernel_rfl) (fun _ _ _ h => h) (Or.inl ⟨by rfl, fun W hW => ?_⟩) hHeld ?_
    · obtain ⟨q0, q1, q2, q3, q4⟩ := hW
      go_simp
    simp only [Act.put, List.setIfInBounds_toArray, List.set_cons_zero, List.set_cons_succ]
    refine wpAnyH_take (i := 2) (oi := { dst := some 9, op := Op.fieldAddr 38 (Operand.tmp 1) 1, type := 0, pos := "law.go:32", after := #[], guard := none }) (v := .pointer (some ⟨w.heap.size, 62, none⟩)) rfl (by kernel_rfl) (by kernel_rfl) (by kernel_rfl) (fun _ _ _ h => h) (Or.inl ⟨by rfl, fun W hW => ?_⟩) hHeld ?_
    · obtain ⟨q0, q1, q2, q3, q4⟩ := hW
      go_simp
    simp only [Act.put, List.setIfInBounds_toArray, List.set_cons_zero, List.set_cons_succ]
    refine wpAnyH_take (i := 3) (oi := { dst := some 10, op := Op.load 3 (Operand.tmp 9), type := 3, pos := "law.go:32", after := #[{ on := 2, ground := Ground.data }], guard := none }) (v := .int .i64 room) rfl (by kernel_rfl) (by kernel_rfl) (by kernel_rfl) (fun _ _ _ h => h) (Or.inl ⟨by rfl, fun W hW => ?_⟩) hHeld ?_
    · obtain ⟨q0, q1, q2, q3, q4⟩ := hW
      go_simp
    simp only [Act.put, List.setIfInBounds_toArray, List.set_cons_zero, List.set_cons_succ]
    refine wpAnyH_take (i := 4) (oi := { dst := some 11, op := Op.build 30 #[], type := 30, pos := "law.go:32", after := #[], guard := none }) (v := .agg #[.slice none 0 0, .int .i64 0, .bool false, .bool false]) rfl (by kernel_rfl) (by kernel_rfl) (by kernel_rfl) (fun _ _ _ h => h) (Or.inl ⟨by rfl, fun W hW => ?_⟩) hHeld ?_
    · obtain ⟨q0, q1, q2, q3, q4⟩ := hW
      go_simp
    simp only [Act.put, List.setIfInBounds_toArray, List.set_cons_zero, List.set_cons_succ]
    refine wpAnyH_take (i := 5) (oi := { dst := some 12, op := Op.fieldAddr 38 (Operand.tmp 1) 2, type := 0, pos := "law.go:32", after := #[], guard := none }) (v := .pointer (some ⟨w.heap.size, 63, none⟩)) rfl (by kernel_rfl) (by kernel_rfl) (by kernel_rfl) (fun _ _ _ h => h) (Or.inl ⟨by rfl, fun W hW => ?_⟩) hHeld ?_
    · obtain ⟨q0, q1, q2, q3, q4⟩ := hW
      go_simp
    simp only [Act.put, List.setIfInBounds_toArray, List.set_cons_zero, List.set_cons_succ]
    refine wpAnyH_take (i := 6) (oi := { dst := some 13, op := Op.load 26 (Operand.tmp 12), type := 26, pos := "law.go:32", after := #[{ on := 5, ground := Ground.data }], guard := none }) (v := .slice A n c) rfl (by kernel_rfl) (by kernel_rfl) (by kernel_rfl) (fun _ _ _ h => h) (Or.inl ⟨by rfl, fun W hW => ?_⟩) hHeld ?_
    · obtain ⟨q0, q1, q2, q3, q4⟩ := hW
      go_simp
    simp only [Act.put, List.setIfInBounds_toArray, List.set_cons_zero, List.set_cons_succ]
    refine wpAnyH_ready (rs := [7, 13]) (by kernel_rfl) (by simp) ?_
    refine AllReadyH.cons (o := { dst := some 14, op := Op.call { callee := Callee.value (Operand.func 19), args := #[Operand.tmp 13], argTypes := #[26] }, type := 26, pos := "law.go:32", after := #[{ on := 6, ground := Ground.data }], guard := none }) rfl (fun K hK => ?_) (AllReadyH.cons (o := { dst := some 3, op := Op.alloc 30, type := 0, pos := "law.go:32", after := #[], guard := none }) rfl (fun K hK => ?_) AllReadyH.nil)
    · go_simp
      with_reducible refine (CK.out _).mono ?_
      rintro e w1 ⟨rfl, hw1⟩
      rw [hw1]
      go_wp2_with fail
      refine hK.out _ _ (sWy HW.out (Below.refl V.heap.size V).drew) (fun hHeld2 => ?_)
      clear hK K hHeld
      have hHeld := hHeld2
      clear hHeld2
      try simp only [Act.put, List.setIfInBounds_toArray, List.set_cons_zero, List.set_cons_succ]
      refine wpAnyH_ready (rs := [8, 13]) (by kernel_rfl) (by simp) ?_
      refine AllReadyH.cons (o := { dst := some 15, op := Op.call { callee := Callee.value (Operand.func 17), args := #[Operand.tmp 8, Operand.tmp 10, Operand.tmp 11, Operand.tmp 14], argTypes := #[25, 3, 30, 26] }, type := 41, pos := "law.go:32", after := #[{ on := 1, ground := Ground.data }, { on := 3, ground := Ground.data }, { on := 4, ground := Ground.data }, { on := 7, ground := Ground.data }, { on := 7, ground := Ground.chain }], guard := none }) rfl (fun K hK => ?_) (AllReadyH.cons (o := { dst := some 3, op := Op.alloc 30, type := 0, pos := "law.go:32", after := #[], guard := none }) rfl (fun K hK => ?_) AllReadyH.nil)
      · go_simp
        with_reducible refine (CP.out (V).drew (Below.refl V.heap.size V).drew).mono ?_
        rintro e w2 ⟨Ax, cx, Bx, dx, Lx, rfl, e1x, e2x, hx2, hy2, hc2⟩
        have hb2 : Below V.heap.size V w2 := bCall (Below.refl V.heap.size V).drew hc2
        go_wp2_with fail
        refine hK.out _ _ (sWy HW.out hb2) (fun hHeld2 => ?_)
        clear hK K hHeld
        have hHeld := hHeld2
        clear hHeld2
        try simp only [Act.put, List.setIfInBounds_toArray, List.set_cons_zero, List.set_cons_succ]
        refine wpAnyH_take (i := 9) (oi := { dst := some 6, op := Op.move (Operand.tmp 15), type := 41, pos := "law.go:32", after := #[{ on := 8, ground := Ground.data }], guard := none }) (v := .tuple #[.agg #[.slice Ax n1 cx, .int .i64 (t1 : Int), .bool ov1, .bool li1], .slice Bx m1 dx, .int .i64 (be1 : Int)]) rfl (by kernel_rfl) (by kernel_rfl) (by kernel_rfl) (fun _ _ _ h => h) (Or.inl ⟨by rfl, fun W hW => ?_⟩) hHeld ?_
        · obtain ⟨q0, q1, q2, q3, q4⟩ := hW
          go_simp
        simp only [Act.put, List.setIfInBounds_toArray, List.set_cons_zero, List.set_cons_succ]
        refine wpAnyH_take (i := 10) (oi := { dst := some 16, op := Op.extract (Operand.tmp 6) 0, type := 30, pos := "law.go:32", after := #[{ on := 9, ground := Ground.data }], guard := none }) (v := .agg #[.slice Ax n1 cx, .int .i64 (t1 : Int), .bool ov1, .bool li1]) rfl (by kernel_rfl) (by kernel_rfl) (by kernel_rfl) (fun _ _ _ h => h) (Or.inl ⟨by rfl, fun W hW => ?_⟩) hHeld ?_
        · obtain ⟨q0, q1, q2, q3, q4⟩ := hW
          go_simp
        simp only [Act.put, List.setIfInBounds_toArray, List.set_cons_zero, List.set_cons_succ]
        refine wpAnyH_take (i := 11) (oi := { dst := some 17, op := Op.extract (Operand.tmp 6) 1, type := 40, pos := "law.go:32", after := #[{ on := 9, ground := Ground.data }, { on := 14, ground := Ground.gcOnly Departure.lateStores }], guard := none }) (v := .slice Bx m1 dx) rfl (by kernel_rfl) (by kernel_rfl) (by kernel_rfl) (fun _ _ _ h => h) (Or.inl ⟨by rfl, fun W hW => ?_⟩) hHeld ?_
        · obtain ⟨q0, q1, q2, q3, q4⟩ := hW
          go_simp
        simp only [Act.put, List.setIfInBounds_toArray, List.set_cons_zero, List.set_cons_succ]
        refine wpAnyH_take (i := 12) (oi := { dst := some 18, op := Op.extract (Operand.tmp 6) 2, type := 3, pos := "law.go:32", after := #[{ on := 9, ground := Ground.data }, { on := 15, ground := Ground.gcOnly Departure.lateStores }], guard := none }) (v := .int .i64 (be1 : Int)) rfl (by kernel_rfl) (by kernel_rfl) (by kernel_rfl) (fun _ _ _ h => h) (Or.inl ⟨by rfl, fun W hW => ?_⟩) hHeld ?_
        · obtain ⟨q0, q1, q2, q3, q4⟩ := hW
          go_simp
        simp only [Act.put, List.setIfInBounds_toArray, List.set_cons_zero, List.set_cons_succ]
        refine wpAnyH_ready (rs := [13]) (by kernel_rfl) (by simp) ?_
        refine AllReadyH.cons (o := { dst := some 3, op := Op.alloc 30, type := 0, pos := "law.go:32", after := #[], guard := none }) rfl (fun K hK => ?_) AllReadyH.nil
        go_simp
        have hb3 : Below V.heap.size V (w2.alloc (.cells #[.slice none 0 0, .int .i64 0, .bool false, .bool false] 30)) := bAlloc hb2 (.cells #[.slice none 0 0, .int .i64 0, .bool false, .bool false] 30)
        have hz3 : SR 30 (w2.alloc (.cells #[.slice none 0 0, .int .i64 0, .bool false, .bool false] 30)) (w2.heap.size) [.slice none 0 0, .int .i64 0, .bool false, .bool false] := SR.new 30 (w2) [.slice none 0 0, .int .i64 0, .bool false, .bool false]
        have hv3 : V.heap.size ≤ w2.heap.size := by have h0 := Below.size hb2; exact h0
        have hx3 := (hx2).at_ (bAlloc (Below.refl _ _) (.cells #[.slice none 0 0, .int .i64 0, .bool false, .bool false] 30))
        have hy3 := (hy2).at_ (bAlloc (Below.refl _ _) (.cells #[.slice none 0 0, .int .i64 0, .bool false, .bool false] 30))
        refine hK.out _ _ (sWy HW.out hb3) (fun hHeld2 => ?_)
        clear hK K hHeld
        have hHeld := hHeld2
        clear hHeld2
        try simp only [Act.put, List.setIfInBounds_toArray, List.set_cons_zero, List.set_cons_succ]
        have HM := keepd (midg_a (n := n1) (z := (t1 : Int)) (ov := ov1) (li := li1) hb2 e1x e2x hx2 hy2)
        refine wpAnyH_ready (rs := [14]) (by kernel_rfl) (by simp) ?_
        refine AllReadyH.cons (o := { dst := none, op := Op.store 30 (Operand.tmp 3) (Operand.tmp 16), type := 0, pos := "law.go:32", after := #[{ on := 13, ground := Ground.data }, { on := 10, ground := Ground.data }, { on := 8, ground := Ground.chain }, { on := 0, ground := Ground.phase }, { on := 1, ground := Ground.phase }, { on := 2, ground := Ground.phase }, { on := 3, ground := Ground.phase }, { on := 4, ground := Ground.phase }, { on := 5, ground := Ground.phase }, { on := 6, ground := Ground.phase }, { on := 7, ground := Ground.phase }, { on := 8, ground := Ground.phase }, { on := 9, ground := Ground.phase }, { on := 10, ground := Ground.phase }, { on := 11, ground := Ground.textOnly Departure.lateStores }, { on := 12, ground := Ground.textOnly Departure.lateStores }, { on := 13, ground := Ground.phase }], guard := none }) rfl (fun K hK => ?_) AllReadyH.nil
        go_simp
        refine hK.out _ _ (sWy HW.out HM.out.2.2.2) (fun hHeld2 => ?_)
        clear hK K hHeld
        have hHeld := hHeld2
        clear hHeld2
        try simp only [Act.put, List.setIfInBounds_toArray, List.set_cons_zero, List.set_cons_succ]
        refine wpAnyH_take (i := 15) (oi := { dst := some 4, op := Op.assign (Operand.tmp 17), type := 40, pos := "law.go:32", after := #[{ on := 11, ground := Ground.data }, { on := 14, ground := Ground.chain }, { on := 0, ground := Ground.phase }, { on := 1, ground := Ground.phase }, { on := 2, ground := Ground.phase }, { on := 3, ground := Ground.phase }, { on := 4, ground := Ground.phase }, { on := 5, ground := Ground.phase }, { on := 6, ground := Ground.phase }, { on := 7, ground := Ground.phase }, { on := 8, ground := Ground.phase }, { on := 9, ground := Ground.phase }, { on := 10, ground := Ground.phase }, { on := 11, ground := Ground.phase }, { on := 12, ground := Ground.textOnly Departure.lateStores }, { on := 13, ground := Ground.phase }, { on := 14, ground := Ground.phase }], guard := none }) (v := .slice Bx m1 dx) rfl (by kernel_rfl) (by kernel_rfl) (by kernel_rfl) (fun _ _ _ h => h) (Or.inl ⟨by rfl, fun W hW => ?_⟩) hHeld ?_
        · obtain ⟨q0, q1, q2, q3, q4⟩ := hW
          go_simp
        simp only [Act.put, List.setIfInBounds_toArray, List.set_cons_zero, List.set_cons_succ]
        refine wpAnyH_take (i := 16) (oi := { dst := some 5, op := Op.assign (Operand.tmp 18), type := 3, pos := "law.go:32", after := #[{ on := 12, ground := Ground.data }, { on := 15, ground := Ground.chain }, { on := 0, ground := Ground.phase }, { on := 1, ground := Ground.phase }, { on := 2, ground := Ground.phase }, { on := 3, ground := Ground.phase }, { on := 4, ground := Ground.phase }, { on := 5, ground := Ground.phase }, { on := 6, ground := Ground.phase }, { on := 7, ground := Ground.phase }, { on := 8, ground := Ground.phase }, { on := 9, ground := Ground.phase }, { on := 10, ground := Ground.phase }, { on := 11, ground := Ground.phase }, { on := 12, ground := Ground.phase }, { on := 13, ground := Ground.phase }, { on := 14, ground := Ground.phase }, { on := 15, ground := Ground.phase }], guard := none }) (v := .int .i64 (be1 : Int)) rfl (by kernel_rfl) (by kernel_rfl) (by kernel_rfl) (fun _ _ _ h => h) (Or.inl ⟨by rfl, fun W hW => ?_⟩) hHeld ?_
        · obtain ⟨q0, q1, q2, q3, q4⟩ := hW
          go_simp
        simp only [Act.put, List.setIfInBounds_toArray, List.set_cons_zero, List.set_cons_succ]
        refine wpAnyH_done (by kernel_rfl) ?_ _
        go_wp2_with fail
        go_meet
        exact ⟨_, rfl, _, _, _, _, HM⟩
      · go_simp
        have hb4 : Below V.heap.size V (V.alloc (.cells #[.slice none 0 0, .int .i64 0, .bool false, .bool false] 30)).drew := bAlloc (Below.refl V.heap.size V).drew (.cells #[.slice none 0 0, .int .i64 0, .bool false, .bool false] 30)
        have hz4 : SR 30 (V.alloc (.cells #[.slice none 0 0, .int .i64 0, .bool false, .bool false] 30)).drew (V.heap.size) [.slice none 0 0, .int .i64 0, .bool false, .bool false] := SR.new 30 (V) [.slice none 0 0, .int .i64 0, .bool false, .bool false]
        have hv4 : V.heap.size ≤ V.heap.size := by have h0 := Below.size (Below.refl V.heap.size V).drew; exact h0
        refine hK.out _ _ (sWy HW.out hb4) (fun hHeld2 => ?_)
        clear hK K hHeld
        have hHeld := hHeld2
        clear hHeld2
        try simp only [Act.put, List.setIfInBounds_toArray, List.set_cons_zero, List.set_cons_succ]
        refine wpAnyH_ready (rs := [8]) (by kernel_rfl) (by simp) ?_
        refine AllReadyH.cons (o := { dst := some 15, op := Op.call { callee := Callee.value (Operand.func 17), args := #[Operand.tmp 8, Operand.tmp 10, Operand.tmp 11, Operand.tmp 14], argTypes := #[25, 3, 30, 26] }, type := 41, pos := "law.go:32", after := #[{ on := 1, ground := Ground.data }, { on := 3, ground := Ground.data }, { on := 4, ground := Ground.data }, { on := 7, ground := Ground.data }, { on := 7, ground := Ground.chain }], guard := none }) rfl (fun K hK => ?_) AllReadyH.nil
        go_simp
        with_reducible refine (CP.out ((V.alloc (.cells #[.slice none 0 0, .int .i64 0, .bool false, .bool false] 30))).drew hb4).mono ?_
        rintro e w5 ⟨Ax, cx, Bx, dx, Lx, rfl, e1x, e2x, hx5, hy5, hc5⟩
        have hb5 : Below V.heap.size V w5 := bCall hb4 hc5
        have hz5 := SR.call hz4 hc5 (hz4).lt
        go_wp2_with fail
        refine hK.out _ _ (sWy HW.out hb5) (fun hHeld2 => ?_)
        clear hK K hHeld
        have hHeld := hHeld2
        clear hHeld2
        try simp only [Act.put, List.setIfInBounds_toArray, List.set_cons_zero, List.set_cons_succ]
        refine wpAnyH_take (i := 9) (oi := { dst := some 6, op := Op.move (Operand.tmp 15), type := 41, pos := "law.go:32", after := #[{ on := 8, ground := Ground.data }], guard := none }) (v := .tuple #[.agg #[.slice Ax n1 cx, .int .i64 (t1 : Int), .bool ov1, .bool li1], .slice Bx m1 dx, .int .i64 (be1 : Int)]) rfl (by kernel_rfl) (by kernel_rfl) (by kernel_rfl) (fun _ _ _ h => h) (Or.inl ⟨by rfl, fun W hW => ?_⟩) hHeld ?_
        · obtain ⟨q0, q1, q2, q3, q4⟩ := hW
          go_simp
        simp only [Act.put, List.setIfInBounds_toArray, List.set_cons_zero, List.set_cons_succ]
        refine wpAnyH_take (i := 10) (oi := { dst := some 16, op := Op.extract (Operand.tmp 6) 0, type := 30, pos := "law.go:32", after := #[{ on := 9, ground := Ground.data }], guard := none }) (v := .agg #[.slice Ax n1 cx, .int .i64 (t1 : Int), .bool ov1, .bool li1]) rfl (by kernel_rfl) (by kernel_rfl) (by kernel_rfl) (fun _ _ _ h => h) (Or.inl ⟨by rfl, fun W hW => ?_⟩) hHeld ?_
        · obtain ⟨q0, q1, q2, q3, q4⟩ := hW
          go_simp
        simp only [Act.put, List.setIfInBounds_toArray, List.set_cons_zero, List.set_cons_succ]
        refine wpAnyH_take (i := 11) (oi := { dst := some 17, op := Op.extract (Operand.tmp 6) 1, type := 40, pos := "law.go:32", after := #[{ on := 9, ground := Ground.data }, { on := 14, ground := Ground.gcOnly Departure.lateStores }], guard := none }) (v := .slice Bx m1 dx) rfl (by kernel_rfl) (by kernel_rfl) (by kernel_rfl) (fun _ _ _ h => h) (Or.inl ⟨by rfl, fun W hW => ?_⟩) hHeld ?_
        · obtain ⟨q0, q1, q2, q3, q4⟩ := hW
          go_simp
        simp only [Act.put, List.setIfInBounds_toArray, List.set_cons_zero, List.set_cons_succ]
        refine wpAnyH_take (i := 12) (oi := { dst := some 18, op := Op.extract (Operand.tmp 6) 2, type := 3, pos := "law.go:32", after := #[{ on := 9, ground := Ground.data }, { on := 15, ground := Ground.gcOnly Departure.lateStores }], guard := none }) (v := .int .i64 (be1 : Int)) rfl (by kernel_rfl) (by kernel_rfl) (by kernel_rfl) (fun _ _ _ h => h) (Or.inl ⟨by rfl, fun W hW => ?_⟩) hHeld ?_
        · obtain ⟨q0, q1, q2, q3, q4⟩ := hW
          go_simp
        simp only [Act.put, List.setIfInBounds_toArray, List.set_cons_zero, List.set_cons_succ]
        obtain ⟨y0, y1, y2, y3, y4, y5, y6, y7, y8⟩ := st_facts hz5
        have HM := keepd (midg_b (n := n1) (z := (t1 : Int)) (ov := ov1) (li := li1) hz5 hv4 hb5 e1x e2x hx5 hy5)
        refine wpAnyH_ready (rs := [14]) (by kernel_rfl) (by simp) ?_
        refine AllReadyH.cons (o := { dst := none, op := Op.store 30 (Operand.tmp 3) (Operand.tmp 16), type := 0, pos := "law.go:32", after := #[{ on := 13, ground := Ground.data }, { on := 10, ground := Ground.data }, { on := 8, ground := Ground.chain }, { on := 0, ground := Ground.phase }, { on := 1, ground := Ground.phase }, { on := 2, ground := Ground.phase }, { on := 3, ground := Ground.phase }, { on := 4, ground := Ground.phase }, { on := 5, ground := Ground.phase }, { on := 6, ground := Ground.phase }, { on := 7, ground := Ground.phase }, { on := 8, ground := Ground.phase }, { on := 9, ground := Ground.phase }, { on := 10, ground := Ground.phase }, { on := 11, ground := Ground.textOnly Departure.lateStores }, { on := 12, ground := Ground.textOnly Departure.lateStores }, { on := 13, ground := Ground.phase }], guard := none }) rfl (fun K hK => ?_) AllReadyH.nil
        go_simp
        refine hK.out _ _ (sWy HW.out HM.out.2.2.2) (fun hHeld2 => ?_)
        clear hK K hHeld
        have hHeld := hHeld2
        clear hHeld2
        try simp only [Act.put, List.setIfInBounds_toArray, List.set_cons_zero, List.set_cons_succ]
        refine wpAnyH_take (i := 15) (oi := { dst := some 4, op := Op.assign (Operand.tmp 17), type := 40, pos := "law.go:32", after := #[{ on := 11, ground := Ground.data }, { on := 14, ground := Ground.chain }, { on := 0, ground := Ground.phase }, { on := 1, ground := Ground.phase }, { on := 2, ground := Ground.phase }, { on := 3, ground := Ground.phase }, { on := 4, ground := Ground.phase }, { on := 5, ground := Ground.phase }, { on := 6, ground := Ground.phase }, { on := 7, ground := Ground.phase }, { on := 8, ground := Ground.phase }, { on := 9, ground := Ground.phase }, { on := 10, ground := Ground.phase }, { on := 11, ground := Ground.phase }, { on := 12, ground := Ground.textOnly Departure.lateStores }, { on := 13, ground := Ground.phase }, { on := 14, ground := Ground.phase }], guard := none }) (v := .slice Bx m1 dx) rfl (by kernel_rfl) (by kernel_rfl) (by kernel_rfl) (fun _ _ _ h => h) (Or.inl ⟨by rfl, fun W hW => ?_⟩) hHeld ?_
        · obtain ⟨q0, q1, q2, q3, q4⟩ := hW
          go_simp
        simp only [Act.put, List.setIfInBounds_toArray, List.set_cons_zero, List.set_cons_succ]
        refine wpAnyH_take (i := 16) (oi := { dst := some 5, op := Op.assign (Operand.tmp 18), type := 3, pos := "law.go:32", after := #[{ on := 12, ground := Ground.data }, { on := 15, ground := Ground.chain }, { on := 0, ground := Ground.phase }, { on := 1, ground := Ground.phase }, { on := 2, ground := Ground.phase }, { on := 3, ground := Ground.phase }, { on := 4, ground := Ground.phase }, { on := 5, ground := Ground.phase }, { on := 6, ground := Ground.phase }, { on := 7, ground := Ground.phase }, { on := 8, ground := Ground.phase }, { on := 9, ground := Ground.phase }, { on := 10, ground := Ground.phase }, { on := 11, ground := Ground.phase }, { on := 12, ground := Ground.phase }, { on := 13, ground := Ground.phase }, { on := 14, ground := Ground.phase }, { on := 15, ground := Ground.phase }], guard := none }) (v := .int .i64 (be1 : Int)) rfl (by kernel_rfl) (by kernel_rfl) (by kernel_rfl) (fun _ _ _ h => h) (Or.inl ⟨by rfl, fun W hW => ?_⟩) hHeld ?_
        · obtain ⟨q0, q1, q2, q3, q4⟩ := hW
          go_simp
        simp only [Act.put, List.setIfInBounds_toArray, List.set_cons_zero, List.set_cons_succ]
        refine wpAnyH_done (by kernel_rfl) ?_ _
        go_wp2_with fail
        go_meet
        exact ⟨_, rfl, _, _, _, _, HM⟩
    · go_simp
      have hb6 : Below V.heap.size V (V.alloc (.cells #[.slice none 0 0, .int .i64 0, .bool false, .bool false] 30)).drew := bAlloc (Below.refl V.heap.size V).drew (.cells #[.slice none 0 0, .int .i64 0, .bool false, .bool false] 30)
      have hz6 : SR 30 (V.alloc (.cells #[.slice none 0 0, .int .i64 0, .bool false, .bool false] 30)).drew (V.heap.size) [.slice none 0 0, .int .i64 0, .bool false, .bool false] := SR.new 30 (V) [.slice none 0 0, .int .i64 0, .bool false, .bool false]
      have hv6 : V.heap.size ≤ V.heap.size := by have h0 := Below.size (Below.refl V.heap.size V).drew; exact h0
      refine hK.out _ _ (sWy HW.out hb6) (fun hHeld2 => ?_)
      clear hK K hHeld
      have hHeld := hHeld2
      clear hHeld2
      try simp only [Act.put, List.setIfInBounds_toArray, List.set_cons_zero, List.set_cons_succ]
      refine wpAnyH_ready (rs := [7]) (by kernel_rfl) (by simp) ?_
      refine AllReadyH.cons (o := { dst := some 14, op := Op.call { callee := Callee.value (Operand.func 19), args := #[Operand.tmp 13], argTypes := #[26] }, type := 26, pos := "law.go:32", after := #[{ on := 6, ground := Ground.data }], guard := none }) rfl (fun K hK => ?_) AllReadyH.nil
      go_simp
      with_reducible refine (CK.out _).mono ?_
      rintro e w7 ⟨rfl, hw7⟩
      rw [hw7]
      go_wp2_with fail
      refine hK.out _ _ (sWy HW.out hb6) (fun hHeld2 => ?_)
      clear hK K hHeld
      have hHeld := hHeld2
      clear hHeld2
      try simp only [Act.put, List.setIfInBounds_toArray, List.set_cons_zero, List.set_cons_succ]
      refine wpAnyH_ready (rs := [8]) (by kernel_rfl) (by simp) ?_
      refine AllReadyH.cons (o := { dst := some 15, op := Op.call { callee := Callee.value (Operand.func 17), args := #[Operand.tmp 8, Operand.tmp 10, Operand.tmp 11, Operand.tmp 14], argTypes := #[25, 3, 30, 26] }, type := 41, pos := "law.go:32", after := #[{ on := 1, ground := Ground.data }, { on := 3, ground := Ground.data }, { on := 4, ground := Ground.data }, { on := 7, ground := Ground.data }, { on := 7, ground := Ground.chain }], guard := none }) rfl (fun K hK => ?_) AllReadyH.nil
      go_simp
      with_reducible refine (CP.out ((V.alloc (.cells #[.slice none 0 0, .int .i64 0, .bool false, .bool false] 30))).drew hb6).mono ?_
      rintro e w8 ⟨Ax, cx, Bx, dx, Lx, rfl, e1x, e2x, hx8, hy8, hc8⟩
      have hb8 : Below V.heap.size V w8 := bCall hb6 hc8
      have hz8 := SR.call hz6 hc8 (hz6).lt
      go_wp2_with fail
      refine hK.out _ _ (sWy HW.out hb8) (fun hHeld2 => ?_)
      clear hK K hHeld
      have hHeld := hHeld2
      clear hHeld2
      try simp only [Act.put, List.setIfInBounds_toArray, List.set_cons_zero, List.set_cons_succ]
      refine wpAnyH_take (i := 9) (oi := { dst := some 6, op := Op.move (Operand.tmp 15), type := 41, pos := "law.go:32", after := #[{ on := 8, ground := Ground.data }], guard := none }) (v := .tuple #[.agg #[.slice Ax n1 cx, .int .i64 (t1 : Int), .bool ov1, .bool li1], .slice Bx m1 dx, .int .i64 (be1 : Int)]) rfl (by kernel_rfl) (by kernel_rfl) (by kernel_rfl) (fun _ _ _ h => h) (Or.inl ⟨by rfl, fun W hW => ?_⟩) hHeld ?_
      · obtain ⟨q0, q1, q2, q3, q4⟩ := hW
        go_simp
      simp only [Act.put, List.setIfInBounds_toArray, List.set_cons_zero, List.set_cons_succ]
      refine wpAnyH_take (i := 10) (oi := { dst := some 16, op := Op.extract (Operand.tmp 6) 0, type := 30, pos := "law.go:32", after := #[{ on := 9, ground := Ground.data }], guard := none }) (v := .agg #[.slice Ax n1 cx, .int .i64 (t1 : Int), .bool ov1, .bool li1]) rfl (by kernel_rfl) (by kernel_rfl) (by kernel_rfl) (fun _ _ _ h => h) (Or.inl ⟨by rfl, fun W hW => ?_⟩) hHeld ?_
      · obtain ⟨q0, q1, q2, q3, q4⟩ := hW
        go_simp
      simp only [Act.put, List.setIfInBounds_toArray, List.set_cons_zero, List.set_cons_succ]
      refine wpAnyH_take (i := 11) (oi := { dst := some 17, op := Op.extract (Operand.tmp 6) 1, type := 40, pos := "law.go:32", after := #[{ on := 9, ground := Ground.data }, { on := 14, ground := Ground.gcOnly Departure.lateStores }], guard := none }) (v := .slice Bx m1 dx) rfl (by kernel_rfl) (by kernel_rfl) (by kernel_rfl) (fun _ _ _ h => h) (Or.inl ⟨by rfl, fun W hW => ?_⟩) hHeld ?_
      · obtain ⟨q0, q1, q2, q3, q4⟩ := hW
        go_simp
      simp only [Act.put, List.setIfInBounds_toArray, List.set_cons_zero, List.set_cons_succ]
      refine wpAnyH_take (i := 12) (oi := { dst := some 18, op := Op.extract (Operand.tmp 6) 2, type := 3, pos := "law.go:32", after := #[{ on := 9, ground := Ground.data }, { on := 15, ground := Ground.gcOnly Departure.lateStores }], guard := none }) (v := .int .i64 (be1 : Int)) rfl (by kernel_rfl) (by kernel_rfl) (by kernel_rfl) (fun _ _ _ h => h) (Or.inl ⟨by rfl, fun W hW => ?_⟩) hHeld ?_
      · obtain ⟨q0, q1, q2, q3, q4⟩ := hW
        go_simp
      simp only [Act.put, List.setIfInBounds_toArray, List.set_cons_zero, List.set_cons_succ]
      obtain ⟨y0, y1, y2, y3, y4, y5, y6, y7, y8⟩ := st_facts hz8
      have HM := keepd (midg_b (n := n1) (z := (t1 : Int)) (ov := ov1) (li := li1) hz8 hv6 hb8 e1x e2x hx8 hy8)
      refine wpAnyH_ready (rs := [14]) (by kernel_rfl) (by simp) ?_
      refine AllReadyH.cons (o := { dst := none, op := Op.store 30 (Operand.tmp 3) (Operand.tmp 16), type := 0, pos := "law.go:32", after := #[{ on := 13, ground := Ground.data }, { on := 10, ground := Ground.data }, { on := 8, ground := Ground.chain }, { on := 0, ground := Ground.phase }, { on := 1, ground := Ground.phase }, { on := 2, ground := Ground.phase }, { on := 3, ground := Ground.phase }, { on := 4, ground := Ground.phase }, { on := 5, ground := Ground.phase }, { on := 6, ground := Ground.phase }, { on := 7, ground := Ground.phase }, { on := 8, ground := Ground.phase }, { on := 9, ground := Ground.phase }, { on := 10, ground := Ground.phase }, { on := 11, ground := Ground.textOnly Departure.lateStores }, { on := 12, ground := Ground.textOnly Departure.lateStores }, { on := 13, ground := Ground.phase }], guard := none }) rfl (fun K hK => ?_) AllReadyH.nil
      go_simp
      refine hK.out _ _ (sWy HW.out HM.out.2.2.2) (fun hHeld2 => ?_)
      clear hK K hHeld
      have hHeld := hHeld2
      clear hHeld2
      try simp only [Act.put, List.setIfInBounds_toArray, List.set_cons_zero, List.set_cons_succ]
      refine wpAnyH_take (i := 15) (oi := { dst := some 4, op := Op.assign (Operand.tmp 17), type := 40, pos := "law.go:32", after := #[{ on := 11, ground := Ground.data }, { on := 14, ground := Ground.chain }, { on := 0, ground := Ground.phase }, { on := 1, ground := Ground.phase }, { on := 2, ground := Ground.phase }, { on := 3, ground := Ground.phase }, { on := 4, ground := Ground.phase }, { on := 5, ground := Ground.phase }, { on := 6, ground := Ground.phase }, { on := 7, ground := Ground.phase }, { on := 8, ground := Ground.phase }, { on := 9, ground := Ground.phase }, { on := 10, ground := Ground.phase }, { on := 11, ground := Ground.phase }, { on := 12, ground := Ground.textOnly Departure.lateStores }, { on := 13, ground := Ground.phase }, { on := 14, ground := Ground.phase }], guard := none }) (v := .slice Bx m1 dx) rfl (by kernel_rfl) (by kernel_rfl) (by kernel_rfl) (fun _ _ _ h => h) (Or.inl ⟨by rfl, fun W hW => ?_⟩) hHeld ?_
      · obtain ⟨q0, q1, q2, q3, q4⟩ := hW
        go_simp
      simp only [Act.put, List.setIfInBounds_toArray, List.set_cons_zero, List.set_cons_succ]
      refine wpAnyH_take (i := 16) (oi := { dst := some 5, op := Op.assign (Operand.tmp 18), type := 3, pos := "law.go:32", after := #[{ on := 12, ground := Ground.data }, { on := 15, ground := Ground.chain }, { on := 0, ground := Ground.phase }, { on := 1, ground := Ground.phase }, { on := 2, ground := Ground.phase }, { on := 3, ground := Ground.phase }, { on := 4, ground := Ground.phase }, { on := 5, ground := Ground.phase }, { on := 6, ground := Ground.phase }, { on := 7, ground := Ground.phase }, { on := 8, ground := Ground.phase }, { on := 9, ground := Ground.phase }, { on := 10, ground := Ground.phase }, { on := 11, ground := Ground.phase }, { on := 12, ground := Ground.phase }, { on := 13, ground := Ground.phase }, { on := 14, ground := Ground.phase }, { on := 15, ground := Ground.phase }], guard := none }) (v := .int .i64 (be1 : Int)) rfl (by kernel_rfl) (by kernel_rfl) (by kernel_rfl) (fun _ _ _ h => h) (Or.inl ⟨by rfl, fun W hW => ?_⟩) hHeld ?_
      · obtain ⟨q0, q1, q2, q3, q4⟩ := hW
        go_simp
      simp only [Act.put, List.setIfInBounds_toArray, List.set_cons_zero, List.set_cons_succ]
      refine wpAnyH_done (by kernel_rfl) ?_ _
      go_wp2_with fail
      go_meet
      exact ⟨_, rfl, _, _, _, _, HM⟩
  case rest =>
    obtain ⟨b8, rfl, Ax, cx, Bx, dx, HMG⟩ := hcut
    obtain ⟨V3, hV3⟩ : ∃ V3, V3 = wc := ⟨_, rfl⟩
    subst hV3
    obtain ⟨g1, g2, g3, g4⟩ := HMG.out
    have H8 := keepd g1
    have HR8 := keepd g2
    have HB8 := keepd (bCall HB.out g4)
    have HZ8 := keepd (SR.call HZ.out g4 HZ.out.lt)
    clear g1 g2 g3 g4 HMG
    obtain ⟨k0, k1, k2, k3, _, _, _, _, kt⟩ := st_facts H8.out
    obtain ⟨j0, j1, j2, j3, _, _, _, _, jt⟩ := st_facts HZ8.out
    go_wp2_with fail
    refine bodyPost_ret (v := .agg #[.slice Ax n1 cx, .int .i64 (t1 : Int), .bool ov1, .bool li1]) (by simp [results, Tryd.results16, go_sem, j0, j1, j2, j3]) rfl ?_
    exact ⟨Ax, cx, rfl, HR8.out.setSt (w' := set4 V3 (w.heap.size + 1) (.slice Ax n1 cx) (.int .i64 (t1 : Int)) (.bool ov1) (.bool li1)) HZ8.out (by rw [set4_size]; exact Nat.le_refl _) fun k hk => set4_heap _ _ _ _ _ _ hk, set4_below HB8.out (by omega)⟩

end Go.Proofs.YtecihodifgjkoaaDoor
