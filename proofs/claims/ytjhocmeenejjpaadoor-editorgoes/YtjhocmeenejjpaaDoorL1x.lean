/-
  EditorGoes' walk. No conditions beyond those each theorem states.
-/
import Derived.Test.YtjhocmeenejjpaaDoorD2
namespace Go.Proofs.YtjhocmeenejjpaaDoor
open Go.RowKit
set_option maxRecDepth 100000

attribute [local go_sem ↓] ex_ld25 ex_st25 ex_al25 ex_bu25 ex_ix25 ex_eq25 ex_ne25 ex_eq23 ex_ne23 ex_ld25o ex_st65 ex_al65 ex_bu65 ex_bu65s ex_ld25d
attribute [local go_sem] ptrB_at okPtr_at aggC_at agg62 agg69 isC_at isT_at eqV_t eqV_c isRow_new isRow_new65 World.setRow_alloc_new ptr4_at okPtr4_at cutT_at isI_at isS_at bW_at bWs_at ptrD_at okPtrD_at cutD_at

set_option maxHeartbeats 16000000 in
theorem goes_law (X : Tb) (room : Int) (A : Option Addr) (l : List UInt8) (c : Nat) (z : Int) (ov li : Bool) (K1 : Option Addr) (us1 : List UInt8) (c1 : Nat) (K2 : Option Addr) (us2 : List UInt8) (c2 : Nat) (w : World) (hL : Laid w) (hr : Rd w w.heap.size A l c) (hr1 : Rd w w.heap.size K1 us1 c1) (hr2 : Rd w w.heap.size K2 us2 c2) :
    Calls Tryd.prog 4 #[.agg (dk X room A l.length c z ov li).toArray, .slice K1 us1.length c1, .slice K2 us2.length c2] w fun e w' => e = .returned (.bool true) ∧ Below w.heap.size w w' := by
  obtain ⟨n, hn⟩ : ∃ n, n = l.length := ⟨_, rfl⟩
  obtain ⟨n1', hn1⟩ : ∃ n1, n1 = us1.length := ⟨_, rfl⟩
  obtain ⟨n2', hn2⟩ : ∃ n2, n2 = us2.length := ⟨_, rfl⟩
  rw [← hn, ← hn1, ← hn2]
  have HR0 := keepd hr
  have HR1 := keepd hr1
  have HR2 := keepd hr2
  have HN := keepd hn
  have HLD := keepd hL
  obtain ⟨m, hm⟩ : ∃ m, (fewL l).length = m := ⟨_, rfl⟩
  obtain ⟨j1, hj1⟩ : ∃ m, (fewK us1).length = m := ⟨_, rfl⟩
  obtain ⟨j2, hj2⟩ : ∃ m, (fewK us2).length = m := ⟨_, rfl⟩
  have HM := keepd hm
  have CK1 := keepd fun W => keys_any K1 us1 n1' c1 j1 W hn1 (by rw [hn1]; exact hr1.1) hj1
  have CK2 := keepd fun W => keys_any K2 us2 n2' c2 j2 W hn2 (by rw [hn2]; exact hr2.1) hj2
  have HJ1 := keepd hj1.symm
  have HJ2 := keepd hj2.symm
  have HLE : Hid (m ≤ 4100 ∧ j1 ≤ 200 ∧ j2 ≤ 200) := ⟨by rw [← hm]; exact (few_le l).1, by rw [← hj1]; exact fewK_le _, by rw [← hj2]; exact fewK_le _⟩
  clear hn hr hm hr1 hr2 hL hj1 hj2 hn1 hn2
  go_enter Tryd.func4, Tryd.ntmps4
  go_upto_region 1 with fail
  generalize hV : w.alloc (.cells (dk X room A n c z ov li).toArray 32) = V0
  obtain ⟨HD0, HB0⟩ := desk_new _ _ _ hV
  obtain ⟨⟨r0, r1⟩, r2, r3, r4, r5, r6⟩ := DK.facts HD0.out
  have CF := keepd (one_any A l n c m z ov li V0 HN.out (HR0.out.at_ HB0.out) HM.out)
  clear hV
  go_wp2_with fail
  with_reducible refine CF.out.mono ?_
  rintro e w1 ⟨rfl, hb1⟩
  have HB1 := keepd hb1
  clear hb1 CF r0 r1 r2 r3 r4 r5 r6
  go_wp2_with fail
  with_reducible refine (CK1.out _).mono ?_
  rintro e w2 ⟨rfl, rfl⟩
  go_wp2_with fail
  with_reducible refine (CK2.out _).mono ?_
  rintro e w1 ⟨rfl, rfl⟩
  go_upto_region 2 with fail
  generalize hV : w1.alloc (.cells #[.slice A m c, .int .i64 z, .bool ov, .bool li] 30) = V
  generalize hb7 : w1.heap.size = b7
  have HS7 : Hid (SR 30 V b7 [.slice A m c, .int .i64 z, .bool ov, .bool li]) := by rw [← hV, ← hb7]; exact heap_alloc_new w1 _
  have HBV : Hid (Below w.heap.size w V) := by rw [← hV]; exact bAlloc (bCall HB0.out HB1.out) _
  have HDV : Hid (DK V w.heap.size X room A n c z ov li) := by rw [← hV]; exact (SR.call HD0.out HB1.out (SR.lt HD0.out)).alloc _
  clear hV hb7 HD0 HB0 HB1 CK1 CK2
  have HRV := keepd (HR0.out.few.at_ HBV.out)
  have HX1 : Hid (Rd V V.heap.size K1 (fewK us1) c1) := (HR1.out.take 200).at_ HBV.out
  have HX2 : Hid (Rd V V.heap.size K2 (fewK us2) c2) := (HR2.out.take 200).at_ HBV.out
  generalize fewL l = x at *
  generalize fewK us1 = x1 at *
  generalize fewK us2 = x2 at *
  clear HR0 HR1 HR2 HN
  obtain ⟨kk, hkk⟩ : ∃ kk, (x1 ++ x2).length = kk := ⟨_, rfl⟩
  have HKK := keepd hkk
  obtain ⟨⟨l1, z1, ov1, li1, es1, be1'⟩, hG⟩ : ∃ r, playG X room x z ov li (x1 ++ x2) = r := ⟨_, rfl⟩
  obtain ⟨n1, hnn1⟩ : ∃ n1, l1.length = n1 := ⟨_, rfl⟩
  obtain ⟨m1, hmm1⟩ : ∃ m1, es1.length = m1 := ⟨_, rfl⟩
  obtain ⟨be1, hbe1⟩ : ∃ be1 : Int, (be1' : Int) = be1 := ⟨_, rfl⟩
  have HP : Hid (∀ (W : World) (K : Option Addr) (d : Nat), Below V.heap.size V W → Rd W W.heap.size K (x1 ++ x2) d → Calls Tryd.prog 11 #[tv X, .int .i64 room, .agg #[.slice A m c, .int .i64 z, .bool ov, .bool li], .slice K kk d] W (GotP W l1 n1 z1 ov1 li1 es1 m1 be1)) := fun W K d hb hu => by
    have := play_go X room A x m c z ov li K (x1 ++ x2) kk d W HM.out.symm (HRV.out.at_ hb) (by have := HLE.out; omega) hkk.symm hu (by rw [← hkk, List.length_append, ← HJ1.out, ← HJ2.out]; have := HLE.out; omega) _ hG n1 m1 hnn1 hmm1
    rw [hbe1] at this
    exact this
  have HG := keepd hG
  have HC1 := keepd (And.intro hnn1 (And.intro hmm1 hbe1))
  clear hG hnn1 hmm1 hbe1 hkk
  have FS := keepd (And.intro HDV.out HS7.out)
  go_cut [8, 9, 10] from 24 to 39 (fun s8 s9 s10 wx => ∃ (b8 : Nat) (Ax : Option Addr) (cx : Nat) (Bx : Option Addr) (dx : Nat), s8 = .pointer (some ⟨b8, 0, none⟩) ∧ s9 = .slice Bx m1 dx ∧ s10 = .int .i64 be1 ∧ Hid (MidG V b8 l1 Ax n1 cx z1 ov1 li1 es1 Bx m1 dx wx))
  case first =>
    refine wp_region_held_drew (S := fun W => rowOf W w.heap.size = (dk X room A n c z ov li).toArray ∧ isRow W 32 w.heap.size 67 = true ∧ W.cell? ⟨w.heap.size, 62, none⟩ = some (.int .i64 room) ∧ W.cell? ⟨b7, 0, none⟩ = some (.slice A m c) ∧ W.cell? ⟨b7, 1, none⟩ = some (.int .i64 z) ∧ W.cell? ⟨b7, 2, none⟩ = some (.bool ov) ∧ W.cell? ⟨b7, 3, none⟩ = some (.bool li) ∧ Below V.heap.size V W) (by kernel_rfl) (sDk FS.out (Below.refl _ _).drew) (fun hHeld => ?_)
    refine wpAnyH_take (i := 0) (oi := { dst := some 25, op := Op.fieldAddr 32 (Operand.tmp 3) 0, type := 0, pos := "law.go:65", after := #[], guard := none }) (v := .pointer (some ⟨w.heap.size, 0, none⟩)) rfl (by kernel_rfl) (by kernel_rfl) (by kernel_rfl) (fun _ _ _ h => h) (Or.inl ⟨by rfl, fun W hW => ?_⟩) hHeld ?_
    · obtain ⟨q0, q1, q2, q3, q4, q5, q6, q7⟩ := hW
      go_simp
    simp only [Act.put, List.setIfInBounds_toArray, List.set_cons_zero, List.set_cons_succ]
    refine wpAnyH_take (i := 1) (oi := { dst := some 26, op := Op.load 25 (Operand.tmp 25), type := 25, pos := "law.go:65", after := #[{ on := 0, ground := Ground.data }], guard := none }) (v := tv X) rfl (by kernel_rfl) (by kernel_rfl) (by kernel_rfl) (fun _ _ _ h => h) (Or.inl ⟨by rfl, fun W hW => ?_⟩) hHeld ?_
    · obtain ⟨q0, q1, q2, q3, q4, q5, q6, q7⟩ := hW
      go_simp
    simp only [Act.put, List.setIfInBounds_toArray, List.set_cons_zero, List.set_cons_succ]
    refine wpAnyH_take (i := 2) (oi := { dst := some 27, op := Op.fieldAddr 32 (Operand.tmp 3) 1, type := 0, pos := "law.go:65", after := #[], guard := none }) (v := .pointer (some ⟨w.heap.size, 62, none⟩)) rfl (by kernel_rfl) (by kernel_rfl) (by kernel_rfl) (fun _ _ _ h => h) (Or.inl ⟨by rfl, fun W hW => ?_⟩) hHeld ?_
    · obtain ⟨q0, q1, q2, q3, q4, q5, q6, q7⟩ := hW
      go_simp
    simp only [Act.put, List.setIfInBounds_toArray, List.set_cons_zero, List.set_cons_succ]
    refine wpAnyH_take (i := 3) (oi := { dst := some 28, op := Op.load 3 (Operand.tmp 27), type := 3, pos := "law.go:65", after := #[{ on := 2, ground := Ground.data }], guard := none }) (v := .int .i64 room) rfl (by kernel_rfl) (by kernel_rfl) (by kernel_rfl) (fun _ _ _ h => h) (Or.inl ⟨by rfl, fun W hW => ?_⟩) hHeld ?_
    · obtain ⟨q0, q1, q2, q3, q4, q5, q6, q7⟩ := hW
      go_simp
    simp only [Act.put, List.setIfInBounds_toArray, List.set_cons_zero, List.set_cons_succ]
    refine wpAnyH_take (i := 4) (oi := { dst := some 29, op := Op.load 30 (Operand.tmp 7), type := 30, pos := "law.go:65", after := #[], guard := none }) (v := .agg #[.slice A m c, .int .i64 z, .bool ov, .bool li]) rfl (by kernel_rfl) (by kernel_rfl) (by kernel_rfl) (fun _ _ _ h => h) (Or.inl ⟨by rfl, fun W hW => ?_⟩) hHeld ?_
    · obtain ⟨q0, q1, q2, q3, q4, q5, q6, q7⟩ := hW
      go_simp
    simp only [Act.put, List.setIfInBounds_toArray, List.set_cons_zero, List.set_cons_succ]
    refine wpAnyH_take (i := 6) (oi := { dst := some 31, op := Op.move (Operand.tmp 1), type := 26, pos := "law.go:65", after := #[], guard := none }) (v := .slice K1 j1 c1) rfl (by kernel_rfl) (by kernel_rfl) (by kernel_rfl) (fun _ _ _ h => h) (Or.inl ⟨by rfl, fun W hW => ?_⟩) hHeld ?_
    · obtain ⟨q0, q1, q2, q3, q4, q5, q6, q7⟩ := hW
      go_simp
    simp only [Act.put, List.setIfInBounds_toArray, List.set_cons_zero, List.set_cons_succ]
    refine wpAnyH_take (i := 8) (oi := { dst := some 33, op := Op.move (Operand.tmp 2), type := 26, pos := "law.go:65", after := #[], guard := none }) (v := .slice K2 j2 c2) rfl (by kernel_rfl) (by kernel_rfl) (by kernel_rfl) (fun _ _ _ h => h) (Or.inl ⟨by rfl, fun W hW => ?_⟩) hHeld ?_
    · obtain ⟨q0, q1, q2, q3, q4, q5, q6, q7⟩ := hW
      go_simp
    simp only [Act.put, List.setIfInBounds_toArray, List.set_cons_zero, List.set_cons_succ]
    refine wpAnyH_ready (rs := [5, 15]) (by kernel_rfl) (by simp) ?_
    refine AllReadyH.cons (o := { dst := some 30, op := Op.buildSlice 26 0 #[], type := 26, pos := "law.go:65", after := #[], guard := none }) rfl (fun K hK => ?_) (AllReadyH.cons (o := { dst := some 8, op := Op.alloc 30, type := 0, pos := "law.go:65", after := #[], guard := none }) rfl (fun K hK => ?_) AllReadyH.nil)
    · go_simp
      have hb1 : Below V.heap.size V (V.alloc (.cells #[] 5)).drew := bAlloc (Below.refl V.heap.size V).drew (.cells #[] 5)
      have ho1 : Own (V.alloc (.cells #[] 5)).drew V.heap.size (.slice (some ⟨V.heap.size, 0, none⟩) 0 0) [] := by have := empty_own (V) V.heap.size (by have h0 := Below.size (Below.refl V.heap.size V).drew; exact h0); exact this
      refine hK.out _ _ (sDk FS.out hb1) (fun hHeld2 => ?_)
      clear hK K hHeld
      have hHeld := hHeld2
      clear hHeld2
      try simp only [Act.put, List.setIfInBounds_toArray, List.set_cons_zero, List.set_cons_succ]
      refine wpAnyH_ready (rs := [7, 15]) (by kernel_rfl) (by simp) ?_
      refine AllReadyH.cons (o := { dst := some 32, op := Op.call { callee := Callee.builtin Builtin.append, args := #[Operand.tmp 30, Operand.tmp 31], argTypes := #[26, 26] }, type := 26, pos := "law.go:65", after := #[{ on := 5, ground := Ground.data }, { on := 6, ground := Ground.data }], guard := none }) rfl (fun K hK => ?_) (AllReadyH.cons (o := { dst := some 8, op := Op.alloc 30, type := 0, pos := "law.go:65", after := #[], guard := none }) rfl (fun K hK => ?_) AllReadyH.nil)
      · refine step_app _ rfl (.tmp 30) (.tmp 31) rfl V.heap.size (.slice (some ⟨V.heap.size, 0, none⟩) 0 0) [] rfl ho1 _ K1 j1 c1 x1 rfl HJ1.out (HX1.out.at_ hb1) ?_ (Below.size hb1) ?_
        · have := HLE.out; have := HJ1.out; have := HJ2.out; simp only [List.length_nil]; omega
        intro v2 w2 ho2 hg2 hat2
        have hb2 : Below V.heap.size V w2 := hb1.trans (grown_below ho1 hg2 (hb1).size)
        clear hg2 hat2
        refine hK.out _ _ (sDk FS.out hb2) (fun hHeld2 => ?_)
        clear hK K hHeld
        have hHeld := hHeld2
        clear hHeld2
        try simp only [Act.put, List.setIfInBounds_toArray, List.set_cons_zero, List.set_cons_succ]
        refine wpAnyH_ready (rs := [9, 15]) (by kernel_rfl) (by simp) ?_
        refine AllReadyH.cons (o := { dst := some 34, op := Op.call { callee := Callee.builtin Builtin.append, args := #[Operand.tmp 32, Operand.tmp 33], argTypes := #[26, 26] }, type := 26, pos := "law.go:65", after := #[{ on := 7, ground := Ground.data }, { on := 8, ground := Ground.data }, { on := 7, ground := Ground.chain }], guard := none }) rfl (fun K hK => ?_) (AllReadyH.cons (o := { dst := some 8, op := Op.alloc 30, type := 0, pos := "law.go:65", after := #[], guard := none }) rfl (fun K hK => ?_) AllReadyH.nil)
        · refine step_app _ rfl (.tmp 32) (.tmp 33) rfl V.heap.size v2 ([] ++ x1) rfl ho2 _ K2 j2 c2 x2 rfl HJ2.out (HX2.out.at_ hb2) ?_ (Below.size hb2) ?_
          · have := HLE.out; have := HJ1.out; have := HJ2.out; simp only [List.length_append, List.length_nil]; omega
          intro v3 w3 ho3 hg3 hat3
          have hb3 : Below V.heap.size V w3 := hb2.trans (grown_below ho2 hg3 (hb2).size)
          clear hg3 hat3
          obtain ⟨D3, d3, hv3e, hr3⟩ := ho3.rd
          have hll3 : ((([] ++ x1) ++ x2)).length = kk := by rw [List.nil_append]; exact HKK.out
          rw [hll3] at hv3e
          subst hv3e
          refine hK.out _ _ (sDk FS.out hb3) (fun hHeld2 => ?_)
          clear hK K hHeld
          have hHeld := hHeld2
          clear hHeld2
          try simp only [Act.put, List.setIfInBounds_toArray, List.set_cons_zero, List.set_cons_succ]
          refine wpAnyH_ready (rs := [10, 15]) (by kernel_rfl) (by simp) ?_
          refine AllReadyH.cons (o := { dst := some 35, op := Op.call { callee := Callee.value (Operand.func 11), args := #[Operand.tmp 26, Operand.tmp 28, Operand.tmp 29, Operand.tmp 34], argTypes := #[25, 3, 30, 26] }, type := 36, pos := "law.go:65", after := #[{ on := 1, ground := Ground.data }, { on := 3, ground := Ground.data }, { on := 4, ground := Ground.data }, { on := 9, ground := Ground.data }, { on := 9, ground := Ground.chain }], guard := none }) rfl (fun K hK => ?_) (AllReadyH.cons (o := { dst := some 8, op := Op.alloc 30, type := 0, pos := "law.go:65", after := #[], guard := none }) rfl (fun K hK => ?_) AllReadyH.nil)
          · go_simp
            with_reducible refine (HP.out w3 D3 d3 hb3 (by have := hr3; rw [List.nil_append] at this; exact this)).mono ?_
            rintro e w4 ⟨Ax, cx, Bx, dx, Lx, rfl, e1x, e2x, hx4, hy4, hc4⟩
            have hb4 : Below V.heap.size V w4 := bCall hb3 hc4
            go_wp2_with fail
            refine hK.out _ _ (sDk FS.out hb4) (fun hHeld2 => ?_)
            clear hK K hHeld
            have hHeld := hHeld2
            clear hHeld2
            try simp only [Act.put, List.setIfInBounds_toArray, List.set_cons_zero, List.set_cons_succ]
            refine wpAnyH_take (i := 11) (oi := { dst := some 24, op := Op.move (Operand.tmp 35), type := 36, pos := "law.go:65", after := #[{ on := 10, ground := Ground.data }], guard := none }) (v := .tuple #[.agg #[.slice Ax n1 cx, .int .i64 z1, .bool ov1, .bool li1], .slice Bx m1 dx, .int .i64 be1]) rfl (by kernel_rfl) (by kernel_rfl) (by kernel_rfl) (fun _ _ _ h => h) (Or.inl ⟨by rfl, fun W hW => ?_⟩) hHeld ?_
            · obtain ⟨q0, q1, q2, q3, q4, q5, q6, q7⟩ := hW
              go_simp
            simp only [Act.put, List.setIfInBounds_toArray, List.set_cons_zero, List.set_cons_succ]
            refine wpAnyH_take (i := 12) (oi := { dst := some 36, op := Op.extract (Operand.tmp 24) 0, type := 30, pos := "law.go:65", after := #[{ on := 11, ground := Ground.data }], guard := none }) (v := .agg #[.slice Ax n1 cx, .int .i64 z1, .bool ov1, .bool li1]) rfl (by kernel_rfl) (by kernel_rfl) (by kernel_rfl) (fun _ _ _ h => h) (Or.inl ⟨by rfl, fun W hW => ?_⟩) hHeld ?_
            · obtain ⟨q0, q1, q2, q3, q4, q5, q6, q7⟩ := hW
              go_simp
            simp only [Act.put, List.setIfInBounds_toArray, List.set_cons_zero, List.set_cons_succ]
            refine wpAnyH_take (i := 13) (oi := { dst := some 37, op := Op.extract (Operand.tmp 24) 1, type := 35, pos := "law.go:65", after := #[{ on := 11, ground := Ground.data }, { on := 16, ground := Ground.gcOnly Departure.lateStores }], guard := none }) (v := .slice Bx m1 dx) rfl (by kernel_rfl) (by kernel_rfl) (by kernel_rfl) (fun _ _ _ h => h) (Or.inl ⟨by rfl, fun W hW => ?_⟩) hHeld ?_
            · obtain ⟨q0, q1, q2, q3, q4, q5, q6, q7⟩ := hW
              go_simp
            simp only [Act.put, List.setIfInBounds_toArray, List.set_cons_zero, List.set_cons_succ]
            refine wpAnyH_take (i := 14) (oi := { dst := some 38, op := Op.extract (Operand.tmp 24) 2, type := 3, pos := "law.go:65", after := #[{ on := 11, ground := Ground.data }, { on := 17, ground := Ground.gcOnly Departure.lateStores }], guard := none }) (v := .int .i64 be1) rfl (by kernel_rfl) (by kernel_rfl) (by kernel_rfl) (fun _ _ _ h => h) (Or.inl ⟨by rfl, fun W hW => ?_⟩) hHeld ?_
            · obtain ⟨q0, q1, q2, q3, q4, q5, q6, q7⟩ := hW
              go_simp
            simp only [Act.put, List.setIfInBounds_toArray, List.set_cons_zero, List.set_cons_succ]
            refine wpAnyH_ready (rs := [15]) (by kernel_rfl) (by simp) ?_
            refine AllReadyH.cons (o := { dst := some 8, op := Op.alloc 30, type := 0, pos := "law.go:65", after := #[], guard := none }) rfl (fun K hK => ?_) AllReadyH.nil
            go_simp
            have hb5 : Below V.heap.size V (w4.alloc (.cells #[.slice none 0 0, .int .i64 0, .bool false, .bool false] 30)) := bAlloc hb4 (.cells #[.slice none 0 0, .int .i64 0, .bool false, .bool false] 30)
            have hz5 : SR 30 (w4.alloc (.cells #[.slice none 0 0, .int .i64 0, .bool false, .bool false] 30)) (w4.heap.size) [.slice none 0 0, .int .i64 0, .bool false, .bool false] := by have : SR 30 (w4.alloc (.cells #[.slice none 0 0, .int .i64 0, .bool false, .bool false] 30)) w4.heap.size [.slice none 0 0, .int .i64 0, .bool false, .bool false] := heap_alloc_new w4 _; exact this
            have hv5 : V.heap.size ≤ w4.heap.size := by
              have : V.heap.size ≤ w4.heap.size := by have h0 := Below.size hb4; exact h0
              exact this
            have hx5 := (hx4).at_ (bAlloc (Below.refl _ _) (.cells #[.slice none 0 0, .int .i64 0, .bool false, .bool false] 30))
            have hy5 := (hy4).at_ (bAlloc (Below.refl _ _) (.cells #[.slice none 0 0, .int .i64 0, .bool false, .bool false] 30))
            refine hK.out _ _ (sDk FS.out hb5) (fun hHeld2 => ?_)
            clear hK K hHeld
            have hHeld := hHeld2
            clear hHeld2
            try simp only [Act.put, List.setIfInBounds_toArray, List.set_cons_zero, List.set_cons_succ]
            have HM := keepd (midg_a (n := n1) (z := z1) (ov := ov1) (li := li1) hb4 e1x e2x hx4 hy4)
            refine wpAnyH_ready (rs := [16]) (by kernel_rfl) (by simp) ?_
            refine AllReadyH.cons (o := { dst := none, op := Op.store 30 (Operand.tmp 8) (Operand.tmp 36), type := 0, pos := "law.go:65", after := #[{ on := 15, ground := Ground.data }, { on := 12, ground := Ground.data }, { on := 10, ground := Ground.chain }, { on := 0, ground := Ground.phase }, { on := 1, ground := Ground.phase }, { on := 2, ground := Ground.phase }, { on := 3, ground := Ground.phase }, { on := 4, ground := Ground.phase }, { on := 5, ground := Ground.phase }, { on := 6, ground := Ground.phase }, { on := 7, ground := Ground.phase }, { on := 8, ground := Ground.phase }, { on := 9, ground := Ground.phase }, { on := 10, ground := Ground.phase }, { on := 11, ground := Ground.phase }, { on := 12, ground := Ground.phase }, { on := 13, ground := Ground.textOnly Departure.lateStores }, { on := 14, ground := Ground.textOnly Departure.lateStores }, { on := 15, ground := Ground.phase }], guard := none }) rfl (fun K hK => ?_) AllReadyH.nil
            go_simp
            refine hK.out _ _ (sDk FS.out HM.out.2.2.2) (fun hHeld2 => ?_)
            clear hK K hHeld
            have hHeld := hHeld2
            clear hHeld2
            try simp only [Act.put, List.setIfInBounds_toArray, List.set_cons_zero, List.set_cons_succ]
            refine wpAnyH_take (i := 17) (oi := { dst := some 9, op := Op.assign (Operand.tmp 37), type := 35, pos := "law.go:65", after := #[{ on := 13, ground := Ground.data }, { on := 16, ground := Ground.chain }, { on := 0, ground := Ground.phase }, { on := 1, ground := Ground.phase }, { on := 2, ground := Ground.phase }, { on := 3, ground := Ground.phase }, { on := 4, ground := Ground.phase }, { on := 5, ground := Ground.phase }, { on := 6, ground := Ground.phase }, { on := 7, ground := Ground.phase }, { on := 8, ground := Ground.phase }, { on := 9, ground := Ground.phase }, { on := 10, ground := Ground.phase }, { on := 11, ground := Ground.phase }, { on := 12, ground := Ground.phase }, { on := 13, ground := Ground.phase }, { on := 14, ground := Ground.textOnly Departure.lateStores }, { on := 15, ground := Ground.phase }, { on := 16, ground := Ground.phase }], guard := none }) (v := .slice Bx m1 dx) rfl (by kernel_rfl) (by kernel_rfl) (by kernel_rfl) (fun _ _ _ h => h) (Or.inl ⟨by rfl, fun W hW => ?_⟩) hHeld ?_
            · obtain ⟨q0, q1, q2, q3, q4, q5, q6, q7⟩ := hW
              go_simp
            simp only [Act.put, List.setIfInBounds_toArray, List.set_cons_zero, List.set_cons_succ]
            refine wpAnyH_take (i := 18) (oi := { dst := some 10, op := Op.assign (Operand.tmp 38), type := 3, pos := "law.go:65", after := #[{ on := 14, ground := Ground.data }, { on := 17, ground := Ground.chain }, { on := 0, ground := Ground.phase }, { on := 1, ground := Ground.phase }, { on := 2, ground := Ground.phase }, { on := 3, ground := Ground.phase }, { on := 4, ground := Ground.phase }, { on := 5, ground := Ground.phase }, { on := 6, ground := Ground.phase }, { on := 7, ground := Ground.phase }, { on := 8, ground := Ground.phase }, { on := 9, ground := Ground.phase }, { on := 10, ground := Ground.phase }, { on := 11, ground := Ground.phase }, { on := 12, ground := Ground.phase }, { on := 13, ground := Ground.phase }, { on := 14, ground := Ground.phase }, { on := 15, ground := Ground.phase }, { on := 16, ground := Ground.phase }, { on := 17, ground := Ground.phase }], guard := none }) (v := .int .i64 be1) rfl (by kernel_rfl) (by kernel_rfl) (by kernel_rfl) (fun _ _ _ h => h) (Or.inl ⟨by rfl, fun W hW => ?_⟩) hHeld ?_
            · obtain ⟨q0, q1, q2, q3, q4, q5, q6, q7⟩ := hW
              go_simp
            simp only [Act.put, List.setIfInBounds_toArray, List.set_cons_zero, List.set_cons_succ]
            refine wpAnyH_done (by kernel_rfl) ?_ _
            go_wp2_with fail
            go_meet
            exact ⟨_, _, _, _, _, rfl, rfl, rfl, HM⟩
          · go_simp
            have hb6 : Below V.heap.size V (w3.alloc (.cells #[.slice none 0 0, .int .i64 0, .bool false, .bool false] 30)) := bAlloc hb3 (.cells #[.slice none 0 0, .int .i64 0, .bool false, .bool false] 30)
            have hz6 : SR 30 (w3.alloc (.cells #[.slice none 0 0, .int .i64 0, .bool false, .bool false] 30)) (w3.heap.size) [.slice none 0 0, .int .i64 0, .bool false, .bool false] := by have : SR 30 (w3.alloc (.cells #[.slice none 0 0, .int .i64 0, .bool false, .bool false] 30)) w3.heap.size [.slice none 0 0, .int .i64 0, .bool false, .bool false] := heap_alloc_new w3 _; exact this
            have hv6 : V.heap.size ≤ w3.heap.size := by
              have : V.heap.size ≤ w3.heap.size := by have h0 := Below.size hb3; exact h0
              exact this
            have hr6 := (hr3).at_ (bAlloc (Below.refl _ _) (.cells #[.slice none 0 0, .int .i64 0, .bool false, .bool false] 30))
            refine hK.out _ _ (sDk FS.out hb6) (fun hHeld2 => ?_)
            clear hK K hHeld
            have hHeld := hHeld2
            clear hHeld2
            try simp only [Act.put, List.setIfInBounds_toArray, List.set_cons_zero, List.set_cons_succ]
            refine wpAnyH_ready (rs := [10]) (by kernel_rfl) (by simp) ?_
            refine AllReadyH.cons (o := { dst := some 35, op := Op.call { callee := Callee.value (Operand.func 11), args := #[Operand.tmp 26, Operand.tmp 28, Operand.tmp 29, Operand.tmp 34], argTypes := #[25, 3, 30, 26] }, type := 36, pos := "law.go:65", after := #[{ on := 1, ground := Ground.data }, { on := 3, ground := Ground.data }, { on := 4, ground := Ground.data }, { on := 9, ground := Ground.data }, { on := 9, ground := Ground.chain }], guard := none }) rfl (fun K hK => ?_) AllReadyH.nil
            go_simp
            with_reducible refine (HP.out (w3.alloc (.cells #[.slice none 0 0, .int .i64 0, .bool false, .bool false] 30)) D3 d3 hb6 (by have := hr6; rw [List.nil_append] at this; exact this)).mono ?_
            rintro e w7 ⟨Ax, cx, Bx, dx, Lx, rfl, e1x, e2x, hx7, hy7, hc7⟩
            have hb7 : Below V.heap.size V w7 := bCall hb6 hc7
            have hz7 := SR.call hz6 hc7 (hz6).lt
            go_wp2_with fail
            refine hK.out _ _ (sDk FS.out hb7) (fun hHeld2 => ?_)
            clear hK K hHeld
            have hHeld := hHeld2
            clear hHeld2
            try simp only [Act.put, List.setIfInBounds_toArray, List.set_cons_zero, List.set_cons_succ]
            refine wpAnyH_take (i := 11) (oi := { dst := some 24, op := Op.move (Operand.tmp 35), type := 36, pos := "law.go:65", after := #[{ on := 10, ground := Ground.data }], guard := none }) (v := .tuple #[.agg #[.slice Ax n1 cx, .int .i64 z1, .bool ov1, .bool li1], .slice Bx m1 dx, .int .i64 be1]) rfl (by kernel_rfl) (by kernel_rfl) (by kernel_rfl) (fun _ _ _ h => h) (Or.inl ⟨by rfl, fun W hW => ?_⟩) hHeld ?_
            · obtain ⟨q0, q1, q2, q3, q4, q5, q6, q7⟩ := hW
              go_simp
            simp only [Act.put, List.setIfInBounds_toArray, List.set_cons_zero, List.set_cons_succ]
            refine wpAnyH_take (i := 12) (oi := { dst := some 36, op := Op.extract (Operand.tmp 24) 0, type := 30, pos := "law.go:65", after := #[{ on := 11, ground := Ground.data }], guard := none }) (v := .agg #[.slice Ax n1 cx, .int .i64 z1, .bool ov1, .bool li1]) rfl (by kernel_rfl) (by kernel_rfl) (by kernel_rfl) (fun _ _ _ h => h) (Or.inl ⟨by rfl, fun W hW => ?_⟩) hHeld ?_
            · obtain ⟨q0, q1, q2, q3, q4, q5, q6, q7⟩ := hW
              go_simp
            simp only [Act.put, List.setIfInBounds_toArray, List.set_cons_zero, List.set_cons_succ]
            refine wpAnyH_take (i := 13) (oi := { dst := some 37, op := Op.extract (Operand.tmp 24) 1, type := 35, pos := "law.go:65", after := #[{ on := 11, ground := Ground.data }, { on := 16, ground := Ground.gcOnly Departure.lateStores }], guard := none }) (v := .slice Bx m1 dx) rfl (by kernel_rfl) (by kernel_rfl) (by kernel_rfl) (fun _ _ _ h => h) (Or.inl ⟨by rfl, fun W hW => ?_⟩) hHeld ?_
            · obtain ⟨q0, q1, q2, q3, q4, q5, q6, q7⟩ := hW
              go_simp
            simp only [Act.put, List.setIfInBounds_toArray, List.set_cons_zero, List.set_cons_succ]
            refine wpAnyH_take (i := 14) (oi := { dst := some 38, op := Op.extract (Operand.tmp 24) 2, type := 3, pos := "law.go:65", after := #[{ on := 11, ground := Ground.data }, { on := 17, ground := Ground.gcOnly Departure.lateStores }], guard := none }) (v := .int .i64 be1) rfl (by kernel_rfl) (by kernel_rfl) (by kernel_rfl) (fun _ _ _ h => h) (Or.inl ⟨by rfl, fun W hW => ?_⟩) hHeld ?_
            · obtain ⟨q0, q1, q2, q3, q4, q5, q6, q7⟩ := hW
              go_simp
            simp only [Act.put, List.setIfInBounds_toArray, List.set_cons_zero, List.set_cons_succ]
            obtain ⟨y0, y1, y2, y3, y4, y5, y6, y7, y8⟩ := st_facts hz7
            have HM := keepd (midg_b (n := n1) (z := z1) (ov := ov1) (li := li1) hz7 hv6 hb7 e1x e2x hx7 hy7)
            refine wpAnyH_ready (rs := [16]) (by kernel_rfl) (by simp) ?_
            refine AllReadyH.cons (o := { dst := none, op := Op.store 30 (Operand.tmp 8) (Operand.tmp 36), type := 0, pos := "law.go:65", after := #[{ on := 15, ground := Ground.data }, { on := 12, ground := Ground.data }, { on := 10, ground := Ground.chain }, { on := 0, ground := Ground.phase }, { on := 1, ground := Ground.phase }, { on := 2, ground := Ground.phase }, { on := 3, ground := Ground.phase }, { on := 4, ground := Ground.phase }, { on := 5, ground := Ground.phase }, { on := 6, ground := Ground.phase }, { on := 7, ground := Ground.phase }, { on := 8, ground := Ground.phase }, { on := 9, ground := Ground.phase }, { on := 10, ground := Ground.phase }, { on := 11, ground := Ground.phase }, { on := 12, ground := Ground.phase }, { on := 13, ground := Ground.textOnly Departure.lateStores }, { on := 14, ground := Ground.textOnly Departure.lateStores }, { on := 15, ground := Ground.phase }], guard := none }) rfl (fun K hK => ?_) AllReadyH.nil
            go_simp
            refine hK.out _ _ (sDk FS.out HM.out.2.2.2) (fun hHeld2 => ?_)
            clear hK K hHeld
            have hHeld := hHeld2
            clear hHeld2
            try simp only [Act.put, List.setIfInBounds_toArray, List.set_cons_zero, List.set_cons_succ]
            refine wpAnyH_take (i := 17) (oi := { dst := some 9, op := Op.assign (Operand.tmp 37), type := 35, pos := "law.go:65", after := #[{ on := 13, ground := Ground.data }, { on := 16, ground := Ground.chain }, { on := 0, ground := Ground.phase }, { on := 1, ground := Ground.phase }, { on := 2, ground := Ground.phase }, { on := 3, ground := Ground.phase }, { on := 4, ground := Ground.phase }, { on := 5, ground := Ground.phase }, { on := 6, ground := Ground.phase }, { on := 7, ground := Ground.phase }, { on := 8, ground := Ground.phase }, { on := 9, ground := Ground.phase }, { on := 10, ground := Ground.phase }, { on := 11, ground := Ground.phase }, { on := 12, ground := Ground.phase }, { on := 13, ground := Ground.phase }, { on := 14, ground := Ground.textOnly Departure.lateStores }, { on := 15, ground := Ground.phase }, { on := 16, ground := Ground.phase }], guard := none }) (v := .slice Bx m1 dx) rfl (by kernel_rfl) (by kernel_rfl) (by kernel_rfl) (fun _ _ _ h => h) (Or.inl ⟨by rfl, fun W hW => ?_⟩) hHeld ?_
            · obtain ⟨q0, q1, q2, q3, q4, q5, q6, q7⟩ := hW
              go_simp
            simp only [Act.put, List.setIfInBounds_toArray, List.set_cons_zero, List.set_cons_succ]
            refine wpAnyH_take (i := 18) (oi := { dst := some 10, op := Op.assign (Operand.tmp 38), type := 3, pos := "law.go:65", after := #[{ on := 14, ground := Ground.data }, { on := 17, ground := Ground.chain }, { on := 0, ground := Ground.phase }, { on := 1, ground := Ground.phase }, { on := 2, ground := Ground.phase }, { on := 3, ground := Ground.phase }, { on := 4, ground := Ground.phase }, { on := 5, ground := Ground.phase }, { on := 6, ground := Ground.phase }, { on := 7, ground := Ground.phase }, { on := 8, ground := Ground.phase }, { on := 9, ground := Ground.phase }, { on := 10, ground := Ground.phase }, { on := 11, ground := Ground.phase }, { on := 12, ground := Ground.phase }, { on := 13, ground := Ground.phase }, { on := 14, ground := Ground.phase }, { on := 15, ground := Ground.phase }, { on := 16, ground := Ground.phase }, { on := 17, ground := Ground.phase }], guard := none }) (v := .int .i64 be1) rfl (by kernel_rfl) (by kernel_rfl) (by kernel_rfl) (fun _ _ _ h => h) (Or.inl ⟨by rfl, fun W hW => ?_⟩) hHeld ?_
            · obtain ⟨q0, q1, q2, q3, q4, q5, q6, q7⟩ := hW
              go_simp
            simp only [Act.put, List.setIfInBounds_toArray, List.set_cons_zero, List.set_cons_succ]
            refine wpAnyH_done (by kernel_rfl) ?_ _
            go_wp2_with fail
            go_meet
            exact ⟨_, _, _, _, _, rfl, rfl, rfl, HM⟩
        · go_simp
          have hb8 : Below V.heap.size V (w2.alloc (.cells #[.slice none 0 0, .int .i64 0, .bool false, .bool false] 30)) := bAlloc hb2 (.cells #[.slice none 0 0, .int .i64 0, .bool false, .bool false] 30)
          have hz8 : SR 30 (w2.alloc (.cells #[.slice none 0 0, .int .i64 0, .bool false, .bool false] 30)) (w2.heap.size) [.slice none 0 0, .int .i64 0, .bool false, .bool false] := by have : SR 30 (w2.alloc (.cells #[.slice none 0 0, .int .i64 0, .bool false, .bool false] 30)) w2.heap.size [.slice none 0 0, .int .i64 0, .bool false, .bool false] := heap_alloc_new w2 _; exact this
          have hv8 : V.heap.size ≤ w2.heap.size := by
            have : V.heap.size ≤ w2.heap.size := by have h0 := Below.size hb2; exact h0
            exact this
          have hne8 : v2.ownBlock ≠ some (w2.heap.size) := by have h0 : Own w2 V.heap.size v2 ([] ++ x1) := ho2; have := ne_new h0; exact this
          have ho8 : Own (w2.alloc (.cells #[.slice none 0 0, .int .i64 0, .bool false, .bool false] 30)) V.heap.size v2 ([] ++ x1) := Own.alloc ho2 _
          refine hK.out _ _ (sDk FS.out hb8) (fun hHeld2 => ?_)
          clear hK K hHeld
          have hHeld := hHeld2
          clear hHeld2
          try simp only [Act.put, List.setIfInBounds_toArray, List.set_cons_zero, List.set_cons_succ]
          refine wpAnyH_ready (rs := [9]) (by kernel_rfl) (by simp) ?_
          refine AllReadyH.cons (o := { dst := some 34, op := Op.call { callee := Callee.builtin Builtin.append, args := #[Operand.tmp 32, Operand.tmp 33], argTypes := #[26, 26] }, type := 26, pos := "law.go:65", after := #[{ on := 7, ground := Ground.data }, { on := 8, ground := Ground.data }, { on := 7, ground := Ground.chain }], guard := none }) rfl (fun K hK => ?_) AllReadyH.nil
          refine step_app _ rfl (.tmp 32) (.tmp 33) rfl V.heap.size v2 ([] ++ x1) rfl ho8 _ K2 j2 c2 x2 rfl HJ2.out (HX2.out.at_ hb8) ?_ (Below.size hb8) ?_
          · have := HLE.out; have := HJ1.out; have := HJ2.out; simp only [List.length_append, List.length_nil]; omega
          intro v9 w9 ho9 hg9 hat9
          have hb9 : Below V.heap.size V w9 := hb8.trans (grown_below ho8 hg9 (hb8).size)
          have hne9 : v9.ownBlock ≠ some (w2.heap.size) := ne_step hne8 (hz8).lt hat9
          have hz9 : SR 30 w9 (w2.heap.size) [.slice none 0 0, .int .i64 0, .bool false, .bool false] := sr_grow hz8 hg9 hne8
          clear hg9 hat9
          obtain ⟨D9, d9, hv9e, hr9⟩ := ho9.rd
          have hll9 : ((([] ++ x1) ++ x2)).length = kk := by rw [List.nil_append]; exact HKK.out
          rw [hll9] at hv9e
          subst hv9e
          refine hK.out _ _ (sDk FS.out hb9) (fun hHeld2 => ?_)
          clear hK K hHeld
          have hHeld := hHeld2
          clear hHeld2
          try simp only [Act.put, List.setIfInBounds_toArray, List.set_cons_zero, List.set_cons_succ]
          refine wpAnyH_ready (rs := [10]) (by kernel_rfl) (by simp) ?_
          refine AllReadyH.cons (o := { dst := some 35, op := Op.call { callee := Callee.value (Operand.func 11), args := #[Operand.tmp 26, Operand.tmp 28, Operand.tmp 29, Operand.tmp 34], argTypes := #[25, 3, 30, 26] }, type := 36, pos := "law.go:65", after := #[{ on := 1, ground := Ground.data }, { on := 3, ground := Ground.data }, { on := 4, ground := Ground.data }, { on := 9, ground := Ground.data }, { on := 9, ground := Ground.chain }], guard := none }) rfl (fun K hK => ?_) AllReadyH.nil
          go_simp
          with_reducible refine (HP.out w9 D9 d9 hb9 (by have := hr9; rw [List.nil_append] at this; exact this)).mono ?_
          rintro e w10 ⟨Ax, cx, Bx, dx, Lx, rfl, e1x, e2x, hx10, hy10, hc10⟩
          have hb10 : Below V.heap.size V w10 := bCall hb9 hc10
          have hz10 := SR.call hz9 hc10 (hz9).lt
          go_wp2_with fail
          refine hK.out _ _ (sDk FS.out hb10) (fun hHeld2 => ?_)
          clear hK K hHeld
          have hHeld := hHeld2
          clear hHeld2
          try simp only [Act.put, List.setIfInBounds_toArray, List.set_cons_zero, List.set_cons_succ]
          refine wpAnyH_take (i := 11) (oi := { dst := some 24, op := Op.move (Operand.tmp 35), type := 36, pos := "law.go:65", after := #[{ on := 10, ground := Ground.data }], guard := none }) (v := .tuple #[.agg #[.slice Ax n1 cx, .int .i64 z1, .bool ov1, .bool li1], .slice Bx m1 dx, .int .i64 be1]) rfl (by kernel_rfl) (by kernel_rfl) (by kernel_rfl) (fun _ _ _ h => h) (Or.inl ⟨by rfl, fun W hW => ?_⟩) hHeld ?_
          · obtain ⟨q0, q1, q2, q3, q4, q5, q6, q7⟩ := hW
            go_simp
          simp only [Act.put, List.setIfInBounds_toArray, List.set_cons_zero, List.set_cons_succ]
          refine wpAnyH_take (i := 12) (oi := { dst := some 36, op := Op.extract (Operand.tmp 24) 0, type := 30, pos := "law.go:65", after := #[{ on := 11, ground := Ground.data }], guard := none }) (v := .agg #[.slice Ax n1 cx, .int .i64 z1, .bool ov1, .bool li1]) rfl (by kernel_rfl) (by kernel_rfl) (by kernel_rfl) (fun _ _ _ h => h) (Or.inl ⟨by rfl, fun W hW => ?_⟩) hHeld ?_
          · obtain ⟨q0, q1, q2, q3, q4, q5, q6, q7⟩ := hW
            go_simp
          simp only [Act.put, List.setIfInBounds_toArray, List.set_cons_zero, List.set_cons_succ]
          refine wpAnyH_take (i := 13) (oi := { dst := some 37, op := Op.extract (Operand.tmp 24) 1, type := 35, pos := "law.go:65", after := #[{ on := 11, ground := Ground.data }, { on := 16, ground := Ground.gcOnly Departure.lateStores }], guard := none }) (v := .slice Bx m1 dx) rfl (by kernel_rfl) (by kernel_rfl) (by kernel_rfl) (fun _ _ _ h => h) (Or.inl ⟨by rfl, fun W hW => ?_⟩) hHeld ?_
          · obtain ⟨q0, q1, q2, q3, q4, q5, q6, q7⟩ := hW
            go_simp
          simp only [Act.put, List.setIfInBounds_toArray, List.set_cons_zero, List.set_cons_succ]
          refine wpAnyH_take (i := 14) (oi := { dst := some 38, op := Op.extract (Operand.tmp 24) 2, type := 3, pos := "law.go:65", after := #[{ on := 11, ground := Ground.data }, { on := 17, ground := Ground.gcOnly Departure.lateStores }], guard := none }) (v := .int .i64 be1) rfl (by kernel_rfl) (by kernel_rfl) (by kernel_rfl) (fun _ _ _ h => h) (Or.inl ⟨by rfl, fun W hW => ?_⟩) hHeld ?_
          · obtain ⟨q0, q1, q2, q3, q4, q5, q6, q7⟩ := hW
            go_simp
          simp only [Act.put, List.setIfInBounds_toArray, List.set_cons_zero, List.set_cons_succ]
          obtain ⟨y0, y1, y2, y3, y4, y5, y6, y7, y8⟩ := st_facts hz10
          have HM := keepd (midg_b (n := n1) (z := z1) (ov := ov1) (li := li1) hz10 hv8 hb10 e1x e2x hx10 hy10)
          refine wpAnyH_ready (rs := [16]) (by kernel_rfl) (by simp) ?_
          refine AllReadyH.cons (o := { dst := none, op := Op.store 30 (Operand.tmp 8) (Operand.tmp 36), type := 0, pos := "law.go:65", after := #[{ on := 15, ground := Ground.data }, { on := 12, ground := Ground.data }, { on := 10, ground := Ground.chain }, { on := 0, ground := Ground.phase }, { on := 1, ground := Ground.phase }, { on := 2, ground := Ground.phase }, { on := 3, ground := Ground.phase }, { on := 4, ground := Ground.phase }, { on := 5, ground := Ground.phase }, { on := 6, ground := Ground.phase }, { on := 7, ground := Ground.phase }, { on := 8, ground := Ground.phase }, { on := 9, ground := Ground.phase }, { on := 10, ground := Ground.phase }, { on := 11, ground := Ground.phase }, { on := 12, ground := Ground.phase }, { on := 13, ground := Ground.textOnly Departure.lateStores }, { on := 14, ground := Ground.textOnly Departure.lateStores }, { on := 15, ground := Ground.phase }], guard := none }) rfl (fun K hK => ?_) AllReadyH.nil
          go_simp
          refine hK.out _ _ (sDk FS.out HM.out.2.2.2) (fun hHeld2 => ?_)
          clear hK K hHeld
          have hHeld := hHeld2
          clear hHeld2
          try simp only [Act.put, List.setIfInBounds_toArray, List.set_cons_zero, List.set_cons_succ]
          refine wpAnyH_take (i := 17) (oi := { dst := some 9, op := Op.assign (Operand.tmp 37), type := 35, pos := "law.go:65", after := #[{ on := 13, ground := Ground.data }, { on := 16, ground := Ground.chain }, { on := 0, ground := Ground.phase }, { on := 1, ground := Ground.phase }, { on := 2, ground := Ground.phase }, { on := 3, ground := Ground.phase }, { on := 4, ground := Ground.phase }, { on := 5, ground := Ground.phase }, { on := 6, ground := Ground.phase }, { on := 7, ground := Ground.phase }, { on := 8, ground := Ground.phase }, { on := 9, ground := Ground.phase }, { on := 10, ground := Ground.phase }, { on := 11, ground := Ground.phase }, { on := 12, ground := Ground.phase }, { on := 13, ground := Ground.phase }, { on := 14, ground := Ground.textOnly Departure.lateStores }, { on := 15, ground := Ground.phase }, { on := 16, ground := Ground.phase }], guard := none }) (v := .slice Bx m1 dx) rfl (by kernel_rfl) (by kernel_rfl) (by kernel_rfl) (fun _ _ _ h => h) (Or.inl ⟨by rfl, fun W hW => ?_⟩) hHeld ?_
          · obtain ⟨q0, q1, q2, q3, q4, q5, q6, q7⟩ := hW
            go_simp
          simp only [Act.put, List.setIfInBounds_toArray, List.set_cons_zero, List.set_cons_succ]
          refine wpAnyH_take (i := 18) (oi := { dst := some 10, op := Op.assign (Operand.tmp 38), type := 3, pos := "law.go:65", after := #[{ on := 14, ground := Ground.data }, { on := 17, ground := Ground.chain }, { on := 0, ground := Ground.phase }, { on := 1, ground := Ground.phase }, { on := 2, ground := Ground.phase }, { on := 3, ground := Ground.phase }, { on := 4, ground := Ground.phase }, { on := 5, ground := Ground.phase }, { on := 6, ground := Ground.phase }, { on := 7, ground := Ground.phase }, { on := 8, ground := Ground.phase }, { on := 9, ground := Ground.phase }, { on := 10, ground := Ground.phase }, { on := 11, ground := Ground.phase }, { on := 12, ground := Ground.phase }, { on := 13, ground := Ground.phase }, { on := 14, ground := Ground.phase }, { on := 15, ground := Ground.phase }, { on := 16, ground := Ground.phase }, { on := 17, ground := Ground.phase }], guard := none }) (v := .int .i64 be1) rfl (by kernel_rfl) (by kernel_rfl) (by kernel_rfl) (fun _ _ _ h => h) (Or.inl ⟨by rfl, fun W hW => ?_⟩) hHeld ?_
          · obtain ⟨q0, q1, q2, q3, q4, q5, q6, q7⟩ := hW
            go_simp
          simp only [Act.put, List.setIfInBounds_toArray, List.set_cons_zero, List.set_cons_succ]
          refine wpAnyH_done (by kernel_rfl) ?_ _
          go_wp2_with fail
          go_meet
          exact ⟨_, _, _, _, _, rfl, rfl, rfl, HM⟩
      · go_simp
        have hb11 : Below V.heap.size V ((V.alloc (.cells #[] 5)).alloc (.cells #[.slice none 0 0, .int .i64 0, .bool false, .bool false] 30)).drew := bAlloc hb1 (.cells #[.slice none 0 0, .int .i64 0, .bool false, .bool false] 30)
        have hz11 : SR 30 ((V.alloc (.cells #[] 5)).alloc (.cells #[.slice none 0 0, .int .i64 0, .bool false, .bool false] 30)).drew (V.heap.size + 1) [.slice none 0 0, .int .i64 0, .bool false, .bool false] := by have : SR 30 ((V.alloc (.cells #[] 5)).alloc (.cells #[.slice none 0 0, .int .i64 0, .bool false, .bool false] 30)) (V.alloc (.cells #[] 5)).heap.size [.slice none 0 0, .int .i64 0, .bool false, .bool false] := heap_alloc_new (V.alloc (.cells #[] 5)) _; rw [World.size_alloc] at this; exact this
        have hv11 : V.heap.size ≤ V.heap.size + 1 := by
          have : V.heap.size ≤ (V.alloc (.cells #[] 5)).heap.size := by have h0 := Below.size hb1; exact h0
          rw [World.size_alloc] at this; exact this
        have hne11 : (Value.slice (some ⟨V.heap.size, 0, none⟩) 0 0).ownBlock ≠ some (V.heap.size + 1) := by have h0 : Own (V.alloc (.cells #[] 5)) V.heap.size (.slice (some ⟨V.heap.size, 0, none⟩) 0 0) [] := ho1; have := ne_new h0; rw [World.size_alloc] at this; exact this
        have ho11 : Own ((V.alloc (.cells #[] 5)).alloc (.cells #[.slice none 0 0, .int .i64 0, .bool false, .bool false] 30)).drew V.heap.size (.slice (some ⟨V.heap.size, 0, none⟩) 0 0) [] := Own.alloc ho1 _
        refine hK.out _ _ (sDk FS.out hb11) (fun hHeld2 => ?_)
        clear hK K hHeld
        have hHeld := hHeld2
        clear hHeld2
        try simp only [Act.put, List.setIfInBounds_toArray, List.set_cons_zero, List.set_cons_succ]
        refine wpAnyH_ready (rs := [7]) (by kernel_rfl) (by simp) ?_
        refine AllReadyH.cons (o := { dst := some 32, op := Op.call { callee := Callee.builtin Builtin.append, args := #[Operand.tmp 30, Operand.tmp 31], argTypes := #[26, 26] }, type := 26, pos := "law.go:65", after := #[{ on := 5, ground := Ground.data }, { on := 6, ground := Ground.data }], guard := none }) rfl (fun K hK => ?_) AllReadyH.nil
        refine step_app _ rfl (.tmp 30) (.tmp 31) rfl V.heap.size (.slice (some ⟨V.heap.size, 0, none⟩) 0 0) [] rfl ho11 _ K1 j1 c1 x1 rfl HJ1.out (HX1.out.at_ hb11) ?_ (Below.size hb11) ?_
        · have := HLE.out; have := HJ1.out; have := HJ2.out; simp only [List.length_nil]; omega
        intro v12 w12 ho12 hg12 hat12
        have hb12 : Below V.heap.size V w12 := hb11.trans (grown_below ho11 hg12 (hb11).size)
        have hne12 : v12.ownBlock ≠ some (V.heap.size + 1) := ne_step hne11 (hz11).lt hat12
        have hz12 : SR 30 w12 (V.heap.size + 1) [.slice none 0 0, .int .i64 0, .bool false, .bool false] := sr_grow hz11 hg12 hne11
        clear hg12 hat12
        refine hK.out _ _ (sDk FS.out hb12) (fun hHeld2 => ?_)
        clear hK K hHeld
        have hHeld := hHeld2
        clear hHeld2
        try simp only [Act.put, List.setIfInBounds_toArray, List.set_cons_zero, List.set_cons_succ]
        refine wpAnyH_ready (rs := [9]) (by kernel_rfl) (by simp) ?_
        refine AllReadyH.cons (o := { dst := some 34, op := Op.call { callee := Callee.builtin Builtin.append, args := #[Operand.tmp 32, Operand.tmp 33], argTypes := #[26, 26] }, type := 26, pos := "law.go:65", after := #[{ on := 7, ground := Ground.data }, { on := 8, ground := Ground.data }, { on := 7, ground := Ground.chain }], guard := none }) rfl (fun K hK => ?_) AllReadyH.nil
        refine step_app _ rfl (.tmp 32) (.tmp 33) rfl V.heap.size v12 ([] ++ x1) rfl ho12 _ K2 j2 c2 x2 rfl HJ2.out (HX2.out.at_ hb12) ?_ (Below.size hb12) ?_
        · have := HLE.out; have := HJ1.out; have := HJ2.out; simp only [List.length_append, List.length_nil]; omega
        intro v13 w13 ho13 hg13 hat13
        have hb13 : Below V.heap.size V w13 := hb12.trans (grown_below ho12 hg13 (hb12).size)
        have hne13 : v13.ownBlock ≠ some (V.heap.size + 1) := ne_step hne12 (hz12).lt hat13
        have hz13 : SR 30 w13 (V.heap.size + 1) [.slice none 0 0, .int .i64 0, .bool false, .bool false] := sr_grow hz12 hg13 hne12
        clear hg13 hat13
        obtain ⟨D13, d13, hv13e, hr13⟩ := ho13.rd
        have hll13 : ((([] ++ x1) ++ x2)).length = kk := by rw [List.nil_append]; exact HKK.out
        rw [hll13] at hv13e
        subst hv13e
        refine hK.out _ _ (sDk FS.out hb13) (fun hHeld2 => ?_)
        clear hK K hHeld
        have hHeld := hHeld2
        clear hHeld2
        try simp only [Act.put, List.setIfInBounds_toArray, List.set_cons_zero, List.set_cons_succ]
        refine wpAnyH_ready (rs := [10]) (by kernel_rfl) (by simp) ?_
        refine AllReadyH.cons (o := { dst := some 35, op := Op.call { callee := Callee.value (Operand.func 11), args := #[Operand.tmp 26, Operand.tmp 28, Operand.tmp 29, Operand.tmp 34], argTypes := #[25, 3, 30, 26] }, type := 36, pos := "law.go:65", after := #[{ on := 1, ground := Ground.data }, { on := 3, ground := Ground.data }, { on := 4, ground := Ground.data }, { on := 9, ground := Ground.data }, { on := 9, ground := Ground.chain }], guard := none }) rfl (fun K hK => ?_) AllReadyH.nil
        go_simp
        with_reducible refine (HP.out w13 D13 d13 hb13 (by have := hr13; rw [List.nil_append] at this; exact this)).mono ?_
        rintro e w14 ⟨Ax, cx, Bx, dx, Lx, rfl, e1x, e2x, hx14, hy14, hc14⟩
        have hb14 : Below V.heap.size V w14 := bCall hb13 hc14
        have hz14 := SR.call hz13 hc14 (hz13).lt
        go_wp2_with fail
        refine hK.out _ _ (sDk FS.out hb14) (fun hHeld2 => ?_)
        clear hK K hHeld
        have hHeld := hHeld2
        clear hHeld2
        try simp only [Act.put, List.setIfInBounds_toArray, List.set_cons_zero, List.set_cons_succ]
        refine wpAnyH_take (i := 11) (oi := { dst := some 24, op := Op.move (Operand.tmp 35), type := 36, pos := "law.go:65", after := #[{ on := 10, ground := Ground.data }], guard := none }) (v := .tuple #[.agg #[.slice Ax n1 cx, .int .i64 z1, .bool ov1, .bool li1], .slice Bx m1 dx, .int .i64 be1]) rfl (by kernel_rfl) (by kernel_rfl) (by kernel_rfl) (fun _ _ _ h => h) (Or.inl ⟨by rfl, fun W hW => ?_⟩) hHeld ?_
        · obtain ⟨q0, q1, q2, q3, q4, q5, q6, q7⟩ := hW
          go_simp
        simp only [Act.put, List.setIfInBounds_toArray, List.set_cons_zero, List.set_cons_succ]
        refine wpAnyH_take (i := 12) (oi := { dst := some 36, op := Op.extract (Operand.tmp 24) 0, type := 30, pos := "law.go:65", after := #[{ on := 11, ground := Ground.data }], guard := none }) (v := .agg #[.slice Ax n1 cx, .int .i64 z1, .bool ov1, .bool li1]) rfl (by kernel_rfl) (by kernel_rfl) (by kernel_rfl) (fun _ _ _ h => h) (Or.inl ⟨by rfl, fun W hW => ?_⟩) hHeld ?_
        · obtain ⟨q0, q1, q2, q3, q4, q5, q6, q7⟩ := hW
          go_simp
        simp only [Act.put, List.setIfInBounds_toArray, List.set_cons_zero, List.set_cons_succ]
        refine wpAnyH_take (i := 13) (oi := { dst := some 37, op := Op.extract (Operand.tmp 24) 1, type := 35, pos := "law.go:65", after := #[{ on := 11, ground := Ground.data }, { on := 16, ground := Ground.gcOnly Departure.lateStores }], guard := none }) (v := .slice Bx m1 dx) rfl (by kernel_rfl) (by kernel_rfl) (by kernel_rfl) (fun _ _ _ h => h) (Or.inl ⟨by rfl, fun W hW => ?_⟩) hHeld ?_
        · obtain ⟨q0, q1, q2, q3, q4, q5, q6, q7⟩ := hW
          go_simp
        simp only [Act.put, List.setIfInBounds_toArray, List.set_cons_zero, List.set_cons_succ]
        refine wpAnyH_take (i := 14) (oi := { dst := some 38, op := Op.extract (Operand.tmp 24) 2, type := 3, pos := "law.go:65", after := #[{ on := 11, ground := Ground.data }, { on := 17, ground := Ground.gcOnly Departure.lateStores }], guard := none }) (v := .int .i64 be1) rfl (by kernel_rfl) (by kernel_rfl) (by kernel_rfl) (fun _ _ _ h => h) (Or.inl ⟨by rfl, fun W hW => ?_⟩) hHeld ?_
        · obtain ⟨q0, q1, q2, q3, q4, q5, q6, q7⟩ := hW
          go_simp
        simp only [Act.put, List.setIfInBounds_toArray, List.set_cons_zero, List.set_cons_succ]
        obtain ⟨y0, y1, y2, y3, y4, y5, y6, y7, y8⟩ := st_facts hz14
        have HM := keepd (midg_b (n := n1) (z := z1) (ov := ov1) (li := li1) hz14 hv11 hb14 e1x e2x hx14 hy14)
        refine wpAnyH_ready (rs := [16]) (by kernel_rfl) (by simp) ?_
        refine AllReadyH.cons (o := { dst := none, op := Op.store 30 (Operand.tmp 8) (Operand.tmp 36), type := 0, pos := "law.go:65", after := #[{ on := 15, ground := Ground.data }, { on := 12, ground := Ground.data }, { on := 10, ground := Ground.chain }, { on := 0, ground := Ground.phase }, { on := 1, ground := Ground.phase }, { on := 2, ground := Ground.phase }, { on := 3, ground := Ground.phase }, { on := 4, ground := Ground.phase }, { on := 5, ground := Ground.phase }, { on := 6, ground := Ground.phase }, { on := 7, ground := Ground.phase }, { on := 8, ground := Ground.phase }, { on := 9, ground := Ground.phase }, { on := 10, ground := Ground.phase }, { on := 11, ground := Ground.phase }, { on := 12, ground := Ground.phase }, { on := 13, ground := Ground.textOnly Departure.lateStores }, { on := 14, ground := Ground.textOnly Departure.lateStores }, { on := 15, ground := Ground.phase }], guard := none }) rfl (fun K hK => ?_) AllReadyH.nil
        go_simp
        refine hK.out _ _ (sDk FS.out HM.out.2.2.2) (fun hHeld2 => ?_)
        clear hK K hHeld
        have hHeld := hHeld2
        clear hHeld2
        try simp only [Act.put, List.setIfInBounds_toArray, List.set_cons_zero, List.set_cons_succ]
        refine wpAnyH_take (i := 17) (oi := { dst := some 9, op := Op.assign (Operand.tmp 37), type := 35, pos := "law.go:65", after := #[{ on := 13, ground := Ground.data }, { on := 16, ground := Ground.chain }, { on := 0, ground := Ground.phase }, { on := 1, ground := Ground.phase }, { on := 2, ground := Ground.phase }, { on := 3, ground := Ground.phase }, { on := 4, ground := Ground.phase }, { on := 5, ground := Ground.phase }, { on := 6, ground := Ground.phase }, { on := 7, ground := Ground.phase }, { on := 8, ground := Ground.phase }, { on := 9, ground := Ground.phase }, { on := 10, ground := Ground.phase }, { on := 11, ground := Ground.phase }, { on := 12, ground := Ground.phase }, { on := 13, ground := Ground.phase }, { on := 14, ground := Ground.textOnly Departure.lateStores }, { on := 15, ground := Ground.phase }, { on := 16, ground := Ground.phase }], guard := none }) (v := .slice Bx m1 dx) rfl (by kernel_rfl) (by kernel_rfl) (by kernel_rfl) (fun _ _ _ h => h) (Or.inl ⟨by rfl, fun W hW => ?_⟩) hHeld ?_
        · obtain ⟨q0, q1, q2, q3, q4, q5, q6, q7⟩ := hW
          go_simp
        simp only [Act.put, List.setIfInBounds_toArray, List.set_cons_zero, List.set_cons_succ]
        refine wpAnyH_take (i := 18) (oi := { dst := some 10, op := Op.assign (Operand.tmp 38), type := 3, pos := "law.go:65", after := #[{ on := 14, ground := Ground.data }, { on := 17, ground := Ground.chain }, { on := 0, ground := Ground.phase }, { on := 1, ground := Ground.phase }, { on := 2, ground := Ground.phase }, { on := 3, ground := Ground.phase }, { on := 4, ground := Ground.phase }, { on := 5, ground := Ground.phase }, { on := 6, ground := Ground.phase }, { on := 7, ground := Ground.phase }, { on := 8, ground := Ground.phase }, { on := 9, ground := Ground.phase }, { on := 10, ground := Ground.phase }, { on := 11, ground := Ground.phase }, { on := 12, ground := Ground.phase }, { on := 13, ground := Ground.phase }, { on := 14, ground := Ground.phase }, { on := 15, ground := Ground.phase }, { on := 16, ground := Ground.phase }, { on := 17, ground := Ground.phase }], guard := none }) (v := .int .i64 be1) rfl (by kernel_rfl) (by kernel_rfl) (by kernel_rfl) (fun _ _ _ h => h) (Or.inl ⟨by rfl, fun W hW => ?_⟩) hHeld ?_
        · obtain ⟨q0, q1, q2, q3, q4, q5, q6, q7⟩ := hW
          go_simp
        simp only [Act.put, List.setIfInBounds_toArray, List.set_cons_zero, List.set_cons_succ]
        refine wpAnyH_done (by kernel_rfl) ?_ _
        go_wp2_with fail
        go_meet
        exact ⟨_, _, _, _, _, rfl, rfl, rfl, HM⟩
    · go_simp
      have hb15 : Below V.heap.size V (V.alloc (.cells #[.slice none 0 0, .int .i64 0, .bool false, .bool false] 30)).drew := bAlloc (Below.refl V.heap.size V).drew (.cells #[.slice none 0 0, .int .i64 0, .bool false, .bool false] 30)
      have hz15 : SR 30 (V.alloc (.cells #[.slice none 0 0, .int .i64 0, .bool false, .bool false] 30)).drew (V.heap.size) [.slice none 0 0, .int .i64 0, .bool false, .bool false] := by have : SR 30 (V.alloc (.cells #[.slice none 0 0, .int .i64 0, .bool false, .bool false] 30)) V.heap.size [.slice none 0 0, .int .i64 0, .bool false, .bool false] := heap_alloc_new V _; exact this
      have hv15 : V.heap.size ≤ V.heap.size := by
        have : V.heap.size ≤ V.heap.size := by have h0 := Below.size (Below.refl V.heap.size V).drew; exact h0
        exact this
      refine hK.out _ _ (sDk FS.out hb15) (fun hHeld2 => ?_)
      clear hK K hHeld
      have hHeld := hHeld2
      clear hHeld2
      try simp only [Act.put, List.setIfInBounds_toArray, List.set_cons_zero, List.set_cons_succ]
      refine wpAnyH_ready (rs := [5]) (by kernel_rfl) (by simp) ?_
      refine AllReadyH.cons (o := { dst := some 30, op := Op.buildSlice 26 0 #[], type := 26, pos := "law.go:65", after := #[], guard := none }) rfl (fun K hK => ?_) AllReadyH.nil
      go_simp
      have hb16 : Below V.heap.size V ((V.alloc (.cells #[.slice none 0 0, .int .i64 0, .bool false, .bool false] 30)).alloc (.cells #[] 5)).drew := bAlloc hb15 (.cells #[] 5)
      have ho16 : Own ((V.alloc (.cells #[.slice none 0 0, .int .i64 0, .bool false, .bool false] 30)).alloc (.cells #[] 5)).drew V.heap.size (.slice (some ⟨V.heap.size + 1, 0, none⟩) 0 0) [] := by have := empty_own ((V.alloc (.cells #[.slice none 0 0, .int .i64 0, .bool false, .bool false] 30))) V.heap.size (by have h0 := Below.size hb15; exact h0); rw [World.size_alloc] at this; exact this
      have hne16 : (Value.slice (some ⟨V.heap.size + 1, 0, none⟩) 0 0).ownBlock ≠ some (V.heap.size) := by have := empty_ne (w := (V.alloc (.cells #[.slice none 0 0, .int .i64 0, .bool false, .bool false] 30))) (b8 := (V.heap.size)) (SR.lt hz15); rw [World.size_alloc] at this; exact this
      have hz16 : SR 30 ((V.alloc (.cells #[.slice none 0 0, .int .i64 0, .bool false, .bool false] 30)).alloc (.cells #[] 5)).drew (V.heap.size) [.slice none 0 0, .int .i64 0, .bool false, .bool false] := SR.alloc hz15 _
      refine hK.out _ _ (sDk FS.out hb16) (fun hHeld2 => ?_)
      clear hK K hHeld
      have hHeld := hHeld2
      clear hHeld2
      try simp only [Act.put, List.setIfInBounds_toArray, List.set_cons_zero, List.set_cons_succ]
      refine wpAnyH_ready (rs := [7]) (by kernel_rfl) (by simp) ?_
      refine AllReadyH.cons (o := { dst := some 32, op := Op.call { callee := Callee.builtin Builtin.append, args := #[Operand.tmp 30, Operand.tmp 31], argTypes := #[26, 26] }, type := 26, pos := "law.go:65", after := #[{ on := 5, ground := Ground.data }, { on := 6, ground := Ground.data }], guard := none }) rfl (fun K hK => ?_) AllReadyH.nil
      refine step_app _ rfl (.tmp 30) (.tmp 31) rfl V.heap.size (.slice (some ⟨V.heap.size + 1, 0, none⟩) 0 0) [] rfl ho16 _ K1 j1 c1 x1 rfl HJ1.out (HX1.out.at_ hb16) ?_ (Below.size hb16) ?_
      · have := HLE.out; have := HJ1.out; have := HJ2.out; simp only [List.length_nil]; omega
      intro v17 w17 ho17 hg17 hat17
      have hb17 : Below V.heap.size V w17 := hb16.trans (grown_below ho16 hg17 (hb16).size)
      have hne17 : v17.ownBlock ≠ some (V.heap.size) := ne_step hne16 (hz16).lt hat17
      have hz17 : SR 30 w17 (V.heap.size) [.slice none 0 0, .int .i64 0, .bool false, .bool false] := sr_grow hz16 hg17 hne16
      clear hg17 hat17
      refine hK.out _ _ (sDk FS.out hb17) (fun hHeld2 => ?_)
      clear hK K hHeld
      have hHeld := hHeld2
      clear hHeld2
      try simp only [Act.put, List.setIfInBounds_toArray, List.set_cons_zero, List.set_cons_succ]
      refine wpAnyH_ready (rs := [9]) (by kernel_rfl) (by simp) ?_
      refine AllReadyH.cons (o := { dst := some 34, op := Op.call { callee := Callee.builtin Builtin.append, args := #[Operand.tmp 32, Operand.tmp 33], argTypes := #[26, 26] }, type := 26, pos := "law.go:65", after := #[{ on := 7, ground := Ground.data }, { on := 8, ground := Ground.data }, { on := 7, ground := Ground.chain }], guard := none }) rfl (fun K hK => ?_) AllReadyH.nil
      refine step_app _ rfl (.tmp 32) (.tmp 33) rfl V.heap.size v17 ([] ++ x1) rfl ho17 _ K2 j2 c2 x2 rfl HJ2.out (HX2.out.at_ hb17) ?_ (Below.size hb17) ?_
      · have := HLE.out; have := HJ1.out; have := HJ2.out; simp only [List.length_append, List.length_nil]; omega
      intro v18 w18 ho18 hg18 hat18
      have hb18 : Below V.heap.size V w18 := hb17.trans (grown_below ho17 hg18 (hb17).size)
      have hne18 : v18.ownBlock ≠ some (V.heap.size) := ne_step hne17 (hz17).lt hat18
      have hz18 : SR 30 w18 (V.heap.size) [.slice none 0 0, .int .i64 0, .bool false, .bool false] := sr_grow hz17 hg18 hne17
      clear hg18 hat18
      obtain ⟨D18, d18, hv18e, hr18⟩ := ho18.rd
      have hll18 : ((([] ++ x1) ++ x2)).length = kk := by rw [List.nil_append]; exact HKK.out
      rw [hll18] at hv18e
      subst hv18e
      refine hK.out _ _ (sDk FS.out hb18) (fun hHeld2 => ?_)
      clear hK K hHeld
      have hHeld := hHeld2
      clear hHeld2
      try simp only [Act.put, List.setIfInBounds_toArray, List.set_cons_zero, List.set_cons_succ]
      refine wpAnyH_ready (rs := [10]) (by kernel_rfl) (by simp) ?_
      refine AllReadyH.cons (o := { dst := some 35, op := Op.call { callee := Callee.value (Operand.func 11), args := #[Operand.tmp 26, Operand.tmp 28, Operand.tmp 29, Operand.tmp 34], argTypes := #[25, 3, 30, 26] }, type := 36, pos := "law.go:65", after := #[{ on := 1, ground := Ground.data }, { on := 3, ground := Ground.data }, { on := 4, ground := Ground.data }, { on := 9, ground := Ground.data }, { on := 9, ground := Ground.chain }], guard := none }) rfl (fun K hK => ?_) AllReadyH.nil
      go_simp
      with_reducible refine (HP.out w18 D18 d18 hb18 (by have := hr18; rw [List.nil_append] at this; exact this)).mono ?_
      rintro e w19 ⟨Ax, cx, Bx, dx, Lx, rfl, e1x, e2x, hx19, hy19, hc19⟩
      have hb19 : Below V.heap.size V w19 := bCall hb18 hc19
      have hz19 := SR.call hz18 hc19 (hz18).lt
      go_wp2_with fail
      refine hK.out _ _ (sDk FS.out hb19) (fun hHeld2 => ?_)
      clear hK K hHeld
      have hHeld := hHeld2
      clear hHeld2
      try simp only [Act.put, List.setIfInBounds_toArray, List.set_cons_zero, List.set_cons_succ]
      refine wpAnyH_take (i := 11) (oi := { dst := some 24, op := Op.move (Operand.tmp 35), type := 36, pos := "law.go:65", after := #[{ on := 10, ground := Ground.data }], guard := none }) (v := .tuple #[.agg #[.slice Ax n1 cx, .int .i64 z1, .bool ov1, .bool li1], .slice Bx m1 dx, .int .i64 be1]) rfl (by kernel_rfl) (by kernel_rfl) (by kernel_rfl) (fun _ _ _ h => h) (Or.inl ⟨by rfl, fun W hW => ?_⟩) hHeld ?_
      · obtain ⟨q0, q1, q2, q3, q4, q5, q6, q7⟩ := hW
        go_simp
      simp only [Act.put, List.setIfInBounds_toArray, List.set_cons_zero, List.set_cons_succ]
      refine wpAnyH_take (i := 12) (oi := { dst := some 36, op := Op.extract (Operand.tmp 24) 0, type := 30, pos := "law.go:65", after := #[{ on := 11, ground := Ground.data }], guard := none }) (v := .agg #[.slice Ax n1 cx, .int .i64 z1, .bool ov1, .bool li1]) rfl (by kernel_rfl) (by kernel_rfl) (by kernel_rfl) (fun _ _ _ h => h) (Or.inl ⟨by rfl, fun W hW => ?_⟩) hHeld ?_
      · obtain ⟨q0, q1, q2, q3, q4, q5, q6, q7⟩ := hW
        go_simp
      simp only [Act.put, List.setIfInBounds_toArray, List.set_cons_zero, List.set_cons_succ]
      refine wpAnyH_take (i := 13) (oi := { dst := some 37, op := Op.extract (Operand.tmp 24) 1, type := 35, pos := "law.go:65", after := #[{ on := 11, ground := Ground.data }, { on := 16, ground := Ground.gcOnly Departure.lateStores }], guard := none }) (v := .slice Bx m1 dx) rfl (by kernel_rfl) (by kernel_rfl) (by kernel_rfl) (fun _ _ _ h => h) (Or.inl ⟨by rfl, fun W hW => ?_⟩) hHeld ?_
      · obtain ⟨q0, q1, q2, q3, q4, q5, q6, q7⟩ := hW
        go_simp
      simp only [Act.put, List.setIfInBounds_toArray, List.set_cons_zero, List.set_cons_succ]
      refine wpAnyH_take (i := 14) (oi := { dst := some 38, op := Op.extract (Operand.tmp 24) 2, type := 3, pos := "law.go:65", after := #[{ on := 11, ground := Ground.data }, { on := 17, ground := Ground.gcOnly Departure.lateStores }], guard := none }) (v := .int .i64 be1) rfl (by kernel_rfl) (by kernel_rfl) (by kernel_rfl) (fun _ _ _ h => h) (Or.inl ⟨by rfl, fun W hW => ?_⟩) hHeld ?_
      · obtain ⟨q0, q1, q2, q3, q4, q5, q6, q7⟩ := hW
        go_simp
      simp only [Act.put, List.setIfInBounds_toArray, List.set_cons_zero, List.set_cons_succ]
      obtain ⟨y0, y1, y2, y3, y4, y5, y6, y7, y8⟩ := st_facts hz19
      have HM := keepd (midg_b (n := n1) (z := z1) (ov := ov1) (li := li1) hz19 hv15 hb19 e1x e2x hx19 hy19)
      refine wpAnyH_ready (rs := [16]) (by kernel_rfl) (by simp) ?_
      refine AllReadyH.cons (o := { dst := none, op := Op.store 30 (Operand.tmp 8) (Operand.tmp 36), type := 0, pos := "law.go:65", after := #[{ on := 15, ground := Ground.data }, { on := 12, ground := Ground.data }, { on := 10, ground := Ground.chain }, { on := 0, ground := Ground.phase }, { on := 1, ground := Ground.phase }, { on := 2, ground := Ground.phase }, { on := 3, ground := Ground.phase }, { on := 4, ground := Ground.phase }, { on := 5, ground := Ground.phase }, { on := 6, ground := Ground.phase }, { on := 7, ground := Ground.phase }, { on := 8, ground := Ground.phase }, { on := 9, ground := Ground.phase }, { on := 10, ground := Ground.phase }, { on := 11, ground := Ground.phase }, { on := 12, ground := Ground.phase }, { on := 13, ground := Ground.textOnly Departure.lateStores }, { on := 14, ground := Ground.textOnly Departure.lateStores }, { on := 15, ground := Ground.phase }], guard := none }) rfl (fun K hK => ?_) AllReadyH.nil
      go_simp
      refine hK.out _ _ (sDk FS.out HM.out.2.2.2) (fun hHeld2 => ?_)
      clear hK K hHeld
      have hHeld := hHeld2
      clear hHeld2
      try simp only [Act.put, List.setIfInBounds_toArray, List.set_cons_zero, List.set_cons_succ]
      refine wpAnyH_take (i := 17) (oi := { dst := some 9, op := Op.assign (Operand.tmp 37), type := 35, pos := "law.go:65", after := #[{ on := 13, ground := Ground.data }, { on := 16, ground := Ground.chain }, { on := 0, ground := Ground.phase }, { on := 1, ground := Ground.phase }, { on := 2, ground := Ground.phase }, { on := 3, ground := Ground.phase }, { on := 4, ground := Ground.phase }, { on := 5, ground := Ground.phase }, { on := 6, ground := Ground.phase }, { on := 7, ground := Ground.phase }, { on := 8, ground := Ground.phase }, { on := 9, ground := Ground.phase }, { on := 10, ground := Ground.phase }, { on := 11, ground := Ground.phase }, { on := 12, ground := Ground.phase }, { on := 13, ground := Ground.phase }, { on := 14, ground := Ground.textOnly Departure.lateStores }, { on := 15, ground := Ground.phase }, { on := 16, ground := Ground.phase }], guard := none }) (v := .slice Bx m1 dx) rfl (by kernel_rfl) (by kernel_rfl) (by kernel_rfl) (fun _ _ _ h => h) (Or.inl ⟨by rfl, fun W hW => ?_⟩) hHeld ?_
      · obtain ⟨q0, q1, q2, q3, q4, q5, q6, q7⟩ := hW
        go_simp
      simp only [Act.put, List.setIfInBounds_toArray, List.set_cons_zero, List.set_cons_succ]
      refine wpAnyH_take (i := 18) (oi := { dst := some 10, op := Op.assign (Operand.tmp 38), type := 3, pos := "law.go:65", after := #[{ on := 14, ground := Ground.data }, { on := 17, ground := Ground.chain }, { on := 0, ground := Ground.phase }, { on := 1, ground := Ground.phase }, { on := 2, ground := Ground.phase }, { on := 3, ground := Ground.phase }, { on := 4, ground := Ground.phase }, { on := 5, ground := Ground.phase }, { on := 6, ground := Ground.phase }, { on := 7, ground := Ground.phase }, { on := 8, ground := Ground.phase }, { on := 9, ground := Ground.phase }, { on := 10, ground := Ground.phase }, { on := 11, ground := Ground.phase }, { on := 12, ground := Ground.phase }, { on := 13, ground := Ground.phase }, { on := 14, ground := Ground.phase }, { on := 15, ground := Ground.phase }, { on := 16, ground := Ground.phase }, { on := 17, ground := Ground.phase }], guard := none }) (v := .int .i64 be1) rfl (by kernel_rfl) (by kernel_rfl) (by kernel_rfl) (fun _ _ _ h => h) (Or.inl ⟨by rfl, fun W hW => ?_⟩) hHeld ?_
      · obtain ⟨q0, q1, q2, q3, q4, q5, q6, q7⟩ := hW
        go_simp
      simp only [Act.put, List.setIfInBounds_toArray, List.set_cons_zero, List.set_cons_succ]
      refine wpAnyH_done (by kernel_rfl) ?_ _
      go_wp2_with fail
      go_meet
      exact ⟨_, _, _, _, _, rfl, rfl, rfl, HM⟩
  case rest =>
    obtain ⟨b8, Ax, cx, Bx, dx, rfl, rfl, rfl, HMG⟩ := hcut
    obtain ⟨V3, hV3⟩ : ∃ V3, V3 = wc := ⟨_, rfl⟩
    subst hV3
    obtain ⟨g1, g2, g3, g4⟩ := HMG.out
    have H8 := keepd g1
    have HR8 := keepd g2
    have HE8 := keepd g3
    have HBQ := keepd (bCall HBV.out g4)
    have HS73 := keepd (SR.call HS7.out g4 HS7.out.lt)
    have HD3 := keepd (SR.call HDV.out g4 (SR.lt HDV.out))
    have HX13 := keepd (HX1.out.at_ g4)
    have HX23 := keepd (HX2.out.at_ g4)
    have HRV3 := keepd (HRV.out.at_ g4)
    have hw63 : w.heap.size < V3.heap.size := SR.lt HD3.out
    clear g1 g2 g3 g4 HMG HS7 HDV HX1 HX2 HRV HP FS HBV
    obtain ⟨⟨l2, z2, ov2, li2, es2, be2'⟩, hG2⟩ : ∃ r, playG X room x z ov li x1 = r := ⟨_, rfl⟩
    obtain ⟨n2, hnn2⟩ : ∃ n1, l2.length = n1 := ⟨_, rfl⟩
    obtain ⟨m2, hmm2⟩ : ∃ m1, es2.length = m1 := ⟨_, rfl⟩
    obtain ⟨be2, hbe2⟩ : ∃ be1 : Int, (be2' : Int) = be1 := ⟨_, rfl⟩
    have hx1 : x.length ≤ 100000 := by have := HM.out; have := HLE.out; omega
    have hlen2 := playG_len X room x z ov li x1 hx1
    have htwo := playG_two X room x z ov li x1 x2
    rw [HG.out, hG2] at htwo
    rw [hG2] at hlen2
    simp only at htwo hlen2
    obtain ⟨⟨l4, z4, ov4, li4, es4, be4'⟩, hG4⟩ : ∃ r, playG X room l2 z2 ov2 li2 x2 = r := ⟨_, rfl⟩
    obtain ⟨n4, hnn4⟩ : ∃ n1, l4.length = n1 := ⟨_, rfl⟩
    obtain ⟨m4, hmm4⟩ : ∃ m1, es4.length = m1 := ⟨_, rfl⟩
    obtain ⟨be4, hbe4⟩ : ∃ be1 : Int, (be4' : Int) = be1 := ⟨_, rfl⟩
    have hlen4 := playG_len X room l2 z2 ov2 li2 x2 hlen2.1
    rw [hG4] at htwo hlen4
    simp only [RG.mk.injEq] at htwo hlen4
    obtain ⟨t1, t2, t3, t4, t5, t6⟩ := htwo
    have HTW := keepd (And.intro t1 (And.intro t2 (And.intro t3 (And.intro t4 (And.intro t5 t6)))))
    have HLN : Hid (m2 ≤ 200 ∧ m4 ≤ 200 ∧ m1 ≤ 400 ∧ 0 ≤ be2 ∧ be2 ≤ 200 ∧ 0 ≤ be4 ∧ be4 ≤ 200) := by
      have a1 := HLE.out
      have a2 := HJ1.out
      have a3 := HJ2.out
      have a4 := HC1.out.2.1
      have a5 := congrArg List.length t5
      rw [List.length_append] at a5
      exact ⟨by omega, by omega, by omega, by omega, by omega, by omega, by omega⟩
    have HP2 := keepd fun (W : World) (hb : Below V3.heap.size V3 W) => play_go X room A x m c z ov li K1 x1 j1 c1 W HM.out.symm (HRV3.out.at_ hb) (by have := HLE.out; omega) HJ1.out (HX13.out.at_ hb) (by have := HLE.out; omega) _ hG2 n2 m2 hnn2 hmm2
    have HP4 := keepd fun (W : World) (B : Option Addr) (d : Nat) (hb : Below V3.heap.size V3 W) (hr : Rd W W.heap.size B l2 d) => play_go X room B l2 n2 d z2 ov2 li2 K2 x2 j2 c2 W hnn2.symm hr (by rw [← hnn2]; exact hlen2.1) HJ2.out (HX23.out.at_ hb) (by have := HLE.out; omega) _ hG4 n4 m4 hnn4 hmm4
    simp only [hbe2] at HP2
    simp only [hbe4] at HP4
    have HBE : Hid (be1 = be2 + be4) := by
      show be1 = be2 + be4
      rw [← HC1.out.2.2, ← hbe2, ← hbe4, t6]
      simp
    have HN4 := keepd (And.intro hnn4 (And.intro hmm2 hmm4))
    clear t1 t2 t3 t4 t5 t6 hlen2 hlen4 hG2 hG4 hnn2 hmm2 hbe2 hnn4 hmm4 hbe4 hx1 HG
    obtain ⟨⟨r0, r1⟩, r2, _, _, _, _⟩ := DK.facts HD3.out
    obtain ⟨k0, k1, k2, k3, _, _, _, _, kt⟩ := st_facts HS73.out
    have CP2 := keepd (HP2.out V3 (Below.refl _ _))
    clear HP2
    go_wp2_with fail
    with_reducible refine CP2.out.mono ?_
    rintro e w2 ⟨A2, d2, B2, f2, L2, rfl, hl2, hm2, hr2, hre2, hb2⟩
    go_upto_region 4 with fail
    generalize hV : w2.alloc (.cells #[.slice A2 n2 d2, .int .i64 z2, .bool ov2, .bool li2] 30) = V4
    generalize hb11 : w2.heap.size = b11
    have HS11 : Hid (SR 30 V4 b11 [.slice A2 n2 d2, .int .i64 z2, .bool ov2, .bool li2]) := by rw [← hV, ← hb11]; exact heap_alloc_new w2 _
    have HB4 : Hid (Below V3.heap.size V3 V4) := by rw [← hV]; exact bAlloc hb2 _
    have HR4 : Hid (Rd V4 V4.heap.size A2 l2 d2) := by rw [← hV]; exact hr2.at_ (bAlloc (Below.refl _ _) _)
    have HE4 : Hid (RdE V4 B2 L2 f2) := by rw [← hV]; exact hre2.at_ (bAlloc (Below.refl _ _) _)
    have HL2 := keepd (And.intro hl2 hm2)
    have HD4 := keepd (SR.call HD3.out HB4.out (SR.lt HD3.out))
    clear hV hb11 hl2 hm2 hr2 hre2 hb2 CP2 HS73 HD3 k0 k1 k2 k3 kt r0 r1 r2 HRV3 HX13
    obtain ⟨⟨r0, r1⟩, r2, _, _, _, _⟩ := DK.facts HD4.out
    obtain ⟨k0, k1, k2, k3, _, _, _, _, kt⟩ := st_facts HS11.out
    have CP4 := keepd (HP4.out V4 A2 d2 HB4.out HR4.out)
    clear HP4
    go_wp2_with fail
    with_reducible refine CP4.out.mono ?_
    rintro e w4 ⟨A4, d4, B4, f4, L4, rfl, hl4, hm4, hr4, hre4, hb4⟩
    go_upto_region 5 with fail
    generalize hV : w4.alloc (.cells #[.slice A4 n4 d4, .int .i64 z4, .bool ov4, .bool li4] 30) = V5
    generalize hb14 : w4.heap.size = b14
    have HS14 : Hid (SR 30 V5 b14 [.slice A4 n4 d4, .int .i64 z4, .bool ov4, .bool li4]) := by rw [← hV, ← hb14]; exact heap_alloc_new w4 _
    have HB45 : Hid (Below V4.heap.size V4 V5) := by rw [← hV]; exact bAlloc hb4 _
    have HR5 : Hid (Rd V5 V5.heap.size A4 l4 d4) := by rw [← hV]; exact hr4.at_ (bAlloc (Below.refl _ _) _)
    have HE5 : Hid (RdE V5 B4 L4 f4) := by rw [← hV]; exact hre4.at_ (bAlloc (Below.refl _ _) _)
    have HL4 := keepd (And.intro hl4 hm4)
    have HB35 := keepd (bCall HB4.out HB45.out)
    have HE2 := keepd (HE4.out.at_ HB45.out)
    have HR85 := keepd (HR8.out.at_ HB35.out)
    have HS8 := keepd (SR.call H8.out HB35.out H8.out.lt)
    have HBZ := keepd (bCall HBQ.out HB35.out)
    obtain ⟨Lx, hlx1, hlx2, hlx3⟩ := HE8.out
    have HLX := keepd (And.intro hlx1 hlx2)
    have HEX := keepd (hlx3.at_ HB35.out)
    clear hV hb14 hl4 hm4 hr4 hre4 hb4 CP4 HS11 HD4 k0 k1 k2 k3 kt r0 r1 r2 HR4 HE4 HB4 HB45 HR8 H8 HE8 hlx1 hlx2 hlx3 HX23 HB35 HBQ
    obtain ⟨k0, k1, k2, k3, _, _, _, _, kt⟩ := st_facts HS8.out
    obtain ⟨j0, j1', j2', j3, _, _, _, _, jt⟩ := st_facts HS14.out
    have CS := keepd (esame_any Ax A4 l1 l4 n1 n4 cx d4 z1 z4 ov1 ov4 li1 li4 true V5 HC1.out.1.symm HN4.out.1.symm HR85.out HR5.out (sameS_iff.2 ⟨HTW.out.1, HTW.out.2.1, HTW.out.2.2.1, HTW.out.2.2.2.1⟩))
    clear HS8 HS14 HR85 HR5
    go_wp2_with fail
    with_reducible refine CS.out.mono ?_
    rintro e w5 ⟨rfl, hb5⟩
    have HE2b := keepd (HE2.out.at_ hb5)
    have HE5b := keepd (HE5.out.at_ hb5)
    have HEXb := keepd (HEX.out.at_ hb5)
    have HBZb := keepd (bCall HBZ.out hb5)
    clear hb5 CS HE2 HE5 HEX HBZ k0 k1 k2 k3 kt j0 j1' j2' j3 jt
    go_wp2_with (at_builtin; refine wpList_appEG _ (by rfl) (.tmp 66) (.tmp 67) rfl w5.heap.size _ [] rfl (empty_ownE w5 _ (Nat.le_refl _)) B2 m2 f2 L2 rfl HL2.out.2.symm (HE2b.out.at_ (bAlloc (Below.refl _ _) _)) ?_ ?_ ?_)
    · have h1 := HL2.out.2
      have h2 := HLN.out.1
      simp only [List.length_nil]
      omega
    · simp
    intro v6 w6 ho6 hg6 hat6
    have HB6 : Hid (Below w5.heap.size w5 w6) := (bAlloc (Below.refl _ _) _).trans (OwnE.belowE (empty_ownE w5 _ (Nat.le_refl _)) hg6 (by simp))
    have HO6 : Hid (OwnE w6 w5.heap.size v6 L2) := ho6
    clear ho6 hg6 hat6
    go_wp2_with (at_builtin; refine wpList_appEG _ (by rfl) (.tmp 68) (.tmp 69) rfl w5.heap.size v6 L2 rfl HO6.out B4 m4 f4 L4 rfl HL4.out.2.symm (HE5b.out.at_ HB6.out) ?_ ?_ ?_)
    · have h1 := HL2.out.2
      have h2 := HL4.out.2
      have h3 := HLN.out
      omega
    · exact HB6.out.size
    intro v7 w7 ho7 hg7 hat7
    have HB7 : Hid (Below w5.heap.size w5 w7) := HB6.out.trans (OwnE.belowE HO6.out hg7 HB6.out.size)
    obtain ⟨D7, f7, hv7, hr7⟩ := OwnE.rd ho7 (fun y hy => by
      rcases List.mem_append.1 hy with hy | hy
      · exact (HE2b.out.2.2.2 y hy).at_ HB7.out
      · exact (HE5b.out.2.2.2 y hy).at_ HB7.out)
    obtain ⟨q7, hq7⟩ : ∃ q, (L2 ++ L4).length = q := ⟨_, rfl⟩
    rw [hq7] at hv7
    subst hv7
    have CA := keepd (alike_any Bx D7 Lx (L2 ++ L4) m1 q7 dx f7 true w7 HLX.out.2.symm hq7.symm (HEXb.out.at_ HB7.out) hr7 (likeE_iff.2 (by rw [HLX.out.1, List.map_append, HL2.out.1, HL4.out.1]; exact HTW.out.2.2.2.2.1)) (by have := HLN.out; omega))
    have hw : IntKind.i64.wrap (be2 + be4) = be2 + be4 := by rw [IntKind.wrap_i64]; have := HLN.out; have := HC1.out.2.2; have := HBE.out; omega
    have he : (be1 == be2 + be4) = true := by simpa using HBE.out
    clear ho7 hg7 hat7 hr7 hq7
    go_wp2_with fail
    with_reducible refine CA.out.mono ?_
    rintro e w8 ⟨rfl, hb8⟩
    have HB8 := keepd (bCall HBZb.out (HB7.out.trans (hb8.mono HB7.out.size)))
    have CW := keepd (eawake_any w8 (HLD.out.below HB8.out))
    clear hb8 CA
    go_wp2_with fail
    with_reducible refine CW.out.mono ?_
    rintro e w9 ⟨rfl, hb9⟩
    have HB9 := keepd (bCall HB8.out hb9)
    clear hb9 CW
    go_wp2_with fail
    go_ret
    exact ⟨rfl, HB9.out⟩

end Go.Proofs.YtjhocmeenejjpaaDoor
