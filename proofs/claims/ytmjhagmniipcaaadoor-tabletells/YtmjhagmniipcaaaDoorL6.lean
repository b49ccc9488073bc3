/-
  The law TableTells. No conditions beyond those each theorem states.
-/
import Derived.Test.YtmjhagmniipcaaaDoorR4
import Derived.Test.YtmjhagmniipcaaaDoorL4
namespace Go.Proofs.YtmjhagmniipcaaaDoor
open Go.RowKit
set_option maxRecDepth 100000

attribute [local go_sem ↓] ex_ld25 ex_st25 ex_al25 ex_bu25 ex_ix25 ex_eq25 ex_ne25 ex_eq23 ex_ne23
attribute [local go_sem] ptrB_at okPtr_at aggC_at agg62 isC_at isT_at eqV_t eqV_c isRow_new World.setRow_alloc_new

theorem key_no {X : Tb} {f k : Int} (h : keyF X f = (k, false)) : k = 0 := by
  unfold keyF at h
  split at h
  · simp at h
  · split at h
    · simp at h
    · simp at h; exact h.symm
/-- Whatever change: out of range; or in range, and it may be, or may not. -/
theorem with_all (X : Tb) (f : Int) (c : Cl) : ((f < 1 ∨ 30 < f) ∧ withF X f c = (X, 1)) ∨ ∃ n : Nat, f = (n : Int) ∧ 0 < n ∧ n < 31 ∧ ((mayT (tset X n c) = true ∧ withF X f c = (tset X n c, 0)) ∨ (mayT (tset X n c) = false ∧ withF X f c = (X, 1))) := by
  unfold withF
  by_cases h : 0 < f ∧ f < 31
  · refine .inr ⟨f.toNat, by omega, by omega, by omega, ?_⟩
    cases hm : mayT (tset X f.toNat c)
    · exact .inr ⟨rfl, by rw [if_neg (by simp)]⟩
    · exact .inl ⟨rfl, by rw [if_pos ⟨h.1, h.2, rfl⟩]⟩
  · exact .inl ⟨by omega, by rw [if_neg (fun g => h ⟨g.1, g.2.1⟩)]⟩

set_option maxHeartbeats 8000000 in
theorem tells_law (X : Tb) (f : Int) (c : Cl) (q : Int) (w : World) (hx : ∀ i, 0 ≤ (X i).v ∧ (X i).v ≤ 255) (hL : Laid w) : Calls Tryd.prog 3 #[tv X, chv f c, .int .u8 q] w fun e w' => e = .returned (.bool true) ∧ Below w.heap.size w w' := by
  have HA := keepd (fun w h => awake_any w h)
  have HL := keepd hL
  clear hL
  obtain ⟨kk, is, hk⟩ : ∃ kk is, keyF X f = (kk, is) := ⟨_, _, rfl⟩
  obtain ⟨z, hz⟩ : ∃ z : Int, (if is then kk else 256) = z := ⟨_, rfl⟩
  have CK := keepd (key_any X f kk is hk)
  have CR := keepd (refKey_any X f kk is z hk hz hx)
  have HKB : Hid (0 ≤ kk ∧ kk ≤ 255) := by
    show _ ∧ _
    cases is
    · have := key_no hk; omega
    · rcases (key_is hk).2.2 with e | ⟨i, e⟩
      · omega
      · rw [e]; exact hx i
  have HK0 : Hid (is = false → kk = 0) := fun e => by subst e; exact key_no hk
  have HZz := keepd hz
  clear hk hz hx
  obtain ⟨m, hm⟩ : ∃ m, mayT X = m := ⟨_, rfl⟩
  have HC1 := keepd (check_any X m hm)
  have HC2 := keepd (refMay_any X m hm)
  obtain ⟨er, her⟩ : ∃ e : Int, (if m then 0 else 1) = e := ⟨_, rfl⟩
  have he0 : (er == 0) = m := by rw [← her]; cases m <;> rfl
  rw [her] at HC1
  obtain ⟨mm, hmm⟩ : ∃ k, meanF X q = k := ⟨_, rfl⟩
  have HM1 := keepd (meaning_any X q mm hmm)
  have HM2 := keepd (refMeaning_any X q mm hmm)
  clear hm her hmm
  have HE0 := keepd he0
  clear he0
  go_enter Tryd.func3, Tryd.ntmps3
  go_upto_region 1 with fail
  generalize hW : (w.alloc (.cells (cs X).toArray 25)).alloc (.cells #[.int .i64 f, .int .i64 c.lv, .int .u8 c.v] 27) = W
  obtain ⟨h1, h2, h4⟩ := two_ch w X (chs f c) W hW
  clear hW
  have HT := keepd h1
  have HU := keepd h2
  have HB := keepd h4
  clear h1 h2 h4
  generalize w.heap.size + 1 = b1 at *
  obtain ⟨b0, hb0⟩ : ∃ b, w.heap.size = b := ⟨_, rfl⟩
  rw [hb0] at HT ⊢
  clear hb0
  obtain ⟨r1, k1⟩ := TB.facts HT.out
  obtain ⟨p0, p1, p2⟩ := SR.ch HU.out
  go_wp2_with fail
  with_reducible refine (CK.out _).mono ?_
  rintro e v1 ⟨rfl, hb⟩
  have HT1 := keepd (SR.call HT.out hb (SR.lt HT.out))
  have HU1 := keepd (SR.call HU.out hb (SR.lt HU.out))
  have HB1 := keepd (bCall HB.out hb)
  clear hb r1 k1 p0 p1 p2 HT HU HB CK
  obtain ⟨r1, k1⟩ := TB.facts HT1.out
  obtain ⟨p0, p1, p2⟩ := SR.ch HU1.out
  go_wp2_with fail
  with_reducible refine (CR.out _).mono ?_
  rintro e V0 ⟨rfl, hb⟩
  have HT := keepd (SR.call HT1.out hb (SR.lt HT1.out))
  have HU := keepd (SR.call HU1.out hb (SR.lt HU1.out))
  have HB := keepd (bCall HB1.out hb)
  clear hb r1 k1 p0 p1 p2 HT1 HU1 HB1 CR
  have HLv := keepd (HL.out.below HB.out)
  go_upto_region 3 with fail
  go_cut [66] (fun s66 wx => s66 = .bool false ∧ Hid (Below V0.heap.size V0 wx))
  case first =>
    have hs := sameT_self stdT
    have he0 := HE0.out
    have hmm : (m == m) = true := by simp
    cases is
    · have hk0 := HK0.out rfl
      subst hk0
      obtain rfl : (256 : Int) = z := HZz.out
      clear HK0 HZz HKB
      refine wp_region_held_drew (S := (fun V => rowOf V b0 = (cs X).toArray ∧ isRow V 25 b0 62 = true ∧ Below V0.heap.size V0 V)) (by kernel_rfl) (tB HT.out (Below.drew (Below.refl _ _))) (fun hHeld => ?_)
      refine wpAnyH_take (i := 0) (oi := { dst := some 24, op := Op.load 25 (Operand.tmp 3), type := 25, pos := "law.go:29", after := #[], guard := none }) (v := tv X) rfl (by kernel_rfl) (by kernel_rfl) (by kernel_rfl) (fun _ _ _ h => h) (Or.inl ⟨by rfl, fun W hW => ?_⟩) hHeld ?_
      · obtain ⟨q1, q2, q3⟩ := hW
        go_simp
      simp only [Act.put, List.setIfInBounds_toArray, List.set_cons_zero, List.set_cons_succ]
      refine wpAnyH_take (i := 3) (oi := { dst := some 27, op := Op.load 25 (Operand.tmp 3), type := 25, pos := "law.go:29", after := #[], guard := none }) (v := tv X) rfl (by kernel_rfl) (by kernel_rfl) (by kernel_rfl) (fun _ _ _ h => h) (Or.inl ⟨by rfl, fun W hW => ?_⟩) hHeld ?_
      · obtain ⟨q1, q2, q3⟩ := hW
        go_simp
      simp only [Act.put, List.setIfInBounds_toArray, List.set_cons_zero, List.set_cons_succ]
      refine wpAnyH_ready (rs := [1]) (by kernel_rfl) (by simp) ?_
      refine AllReadyH.cons (o := { dst := some 25, op := Op.call { callee := Callee.value (Operand.func 11), args := #[Operand.tmp 24], argTypes := #[25] }, type := 31, pos := "law.go:29", after := #[{ on := 0, ground := Ground.data }], guard := none }) rfl (fun K hK => ?_) AllReadyH.nil
      go_simp
      with_reducible refine (HC1.out _).mono ?_
      rintro e x1 ⟨rfl, hb⟩
      have hb_x1 : Below V0.heap.size V0 x1 := bCall hHeld.2.2 hb
      clear hb
      go_wp2_with fail
      refine hK.out _ _ (tB HT.out hb_x1) (fun hHeld2 => ?_)
      clear hK K hHeld
      have hHeld := hHeld2
      clear hHeld2
      try simp only [Act.put, List.setIfInBounds_toArray, List.set_cons_zero, List.set_cons_succ]
      refine wpAnyH_take (i := 2) (oi := { dst := some 26, op := Op.binOp BinOp.eql 31 (Operand.tmp 25) (Operand.const (Value.int IntKind.i64 0)) 31, type := 4, pos := "law.go:29", after := #[{ on := 1, ground := Ground.data }], guard := none }) (v := .bool m) rfl (by kernel_rfl) (by kernel_rfl) (by kernel_rfl) (fun _ _ _ h => h) (Or.inl ⟨by rfl, fun W hW => ?_⟩) hHeld ?_
      · obtain ⟨q1, q2, q3⟩ := hW
        go_simp
      simp only [Act.put, List.setIfInBounds_toArray, List.set_cons_zero, List.set_cons_succ]
      refine wpAnyH_ready (rs := [4]) (by kernel_rfl) (by simp) ?_
      refine AllReadyH.cons (o := { dst := some 28, op := Op.call { callee := Callee.value (Operand.func 12), args := #[Operand.tmp 27], argTypes := #[25] }, type := 4, pos := "law.go:29", after := #[{ on := 3, ground := Ground.data }, { on := 1, ground := Ground.chain }], guard := none }) rfl (fun K hK => ?_) AllReadyH.nil
      go_simp
      with_reducible refine (HC2.out _).mono ?_
      rintro e x2 ⟨rfl, hb⟩
      have hb_x2 : Below V0.heap.size V0 x2 := bCall hHeld.2.2 hb
      clear hb
      go_wp2_with fail
      refine hK.out _ _ (tB HT.out hb_x2) (fun hHeld2 => ?_)
      clear hK K hHeld
      have hHeld := hHeld2
      clear hHeld2
      try simp only [Act.put, List.setIfInBounds_toArray, List.set_cons_zero, List.set_cons_succ]
      refine wpAnyH_take (i := 5) (oi := { dst := some 29, op := Op.binOp BinOp.neq 4 (Operand.tmp 26) (Operand.tmp 28) 4, type := 4, pos := "law.go:29", after := #[{ on := 2, ground := Ground.data }, { on := 4, ground := Ground.data }], guard := none }) (v := .bool false) rfl (by kernel_rfl) (by kernel_rfl) (by kernel_rfl) (fun _ _ _ h => h) (Or.inl ⟨by rfl, fun W hW => ?_⟩) hHeld ?_
      · obtain ⟨q1, q2, q3⟩ := hW
        go_simp
      simp only [Act.put, List.setIfInBounds_toArray, List.set_cons_zero, List.set_cons_succ]
      refine wpAnyH_take (i := 6) (oi := { dst := some 30, op := Op.move (Operand.tmp 29), type := 4, pos := "law.go:29", after := #[{ on := 5, ground := Ground.data }, { on := 4, ground := Ground.chain }], guard := none }) (v := .bool false) rfl (by kernel_rfl) (by kernel_rfl) (by kernel_rfl) (fun _ _ _ h => h) (Or.inl ⟨by rfl, fun W hW => ?_⟩) hHeld ?_
      · obtain ⟨q1, q2, q3⟩ := hW
        go_simp
      simp only [Act.put, List.setIfInBounds_toArray, List.set_cons_zero, List.set_cons_succ]
      refine wpAnyH_take (i := 7) (oi := { dst := some 31, op := Op.load 25 (Operand.tmp 3), type := 25, pos := "law.go:29", after := #[{ on := 6, ground := Ground.guard }], guard := some (6, false) }) (v := tv X) rfl (by kernel_rfl) (by kernel_rfl) (by kernel_rfl) (fun _ _ _ h => h) (Or.inl ⟨by rfl, fun W hW => ?_⟩) hHeld ?_
      · obtain ⟨q1, q2, q3⟩ := hW
        go_simp
      simp only [Act.put, List.setIfInBounds_toArray, List.set_cons_zero, List.set_cons_succ]
      refine wpAnyH_take (i := 8) (oi := { dst := some 32, op := Op.move (Operand.tmp 2), type := 5, pos := "law.go:29", after := #[{ on := 6, ground := Ground.guard }], guard := some (6, false) }) (v := .int .u8 q) rfl (by kernel_rfl) (by kernel_rfl) (by kernel_rfl) (fun _ _ _ h => h) (Or.inl ⟨by rfl, fun W hW => ?_⟩) hHeld ?_
      · obtain ⟨q1, q2, q3⟩ := hW
        go_simp
      simp only [Act.put, List.setIfInBounds_toArray, List.set_cons_zero, List.set_cons_succ]
      refine wpAnyH_take (i := 10) (oi := { dst := some 34, op := Op.load 25 (Operand.tmp 3), type := 25, pos := "law.go:29", after := #[{ on := 6, ground := Ground.guard }], guard := some (6, false) }) (v := tv X) rfl (by kernel_rfl) (by kernel_rfl) (by kernel_rfl) (fun _ _ _ h => h) (Or.inl ⟨by rfl, fun W hW => ?_⟩) hHeld ?_
      · obtain ⟨q1, q2, q3⟩ := hW
        go_simp
      simp only [Act.put, List.setIfInBounds_toArray, List.set_cons_zero, List.set_cons_succ]
      refine wpAnyH_take (i := 11) (oi := { dst := some 35, op := Op.move (Operand.tmp 2), type := 5, pos := "law.go:29", after := #[{ on := 6, ground := Ground.guard }], guard := some (6, false) }) (v := .int .u8 q) rfl (by kernel_rfl) (by kernel_rfl) (by kernel_rfl) (fun _ _ _ h => h) (Or.inl ⟨by rfl, fun W hW => ?_⟩) hHeld ?_
      · obtain ⟨q1, q2, q3⟩ := hW
        go_simp
      simp only [Act.put, List.setIfInBounds_toArray, List.set_cons_zero, List.set_cons_succ]
      refine wpAnyH_ready (rs := [9]) (by kernel_rfl) (by simp) ?_
      refine AllReadyH.cons (o := { dst := some 33, op := Op.call { callee := Callee.value (Operand.func 13), args := #[Operand.tmp 31, Operand.tmp 32], argTypes := #[25, 5] }, type := 3, pos := "law.go:29", after := #[{ on := 7, ground := Ground.data }, { on := 8, ground := Ground.data }, { on := 6, ground := Ground.chain }, { on := 6, ground := Ground.guard }], guard := some (6, false) }) rfl (fun K hK => ?_) AllReadyH.nil
      go_simp
      with_reducible refine (HM1.out _).mono ?_
      rintro e x3 ⟨rfl, hb⟩
      have hb_x3 : Below V0.heap.size V0 x3 := bCall hHeld.2.2 hb
      clear hb
      go_wp2_with fail
      refine hK.out _ _ (tB HT.out hb_x3) (fun hHeld2 => ?_)
      clear hK K hHeld
      have hHeld := hHeld2
      clear hHeld2
      try simp only [Act.put, List.setIfInBounds_toArray, List.set_cons_zero, List.set_cons_succ]
      refine wpAnyH_ready (rs := [12]) (by kernel_rfl) (by simp) ?_
      refine AllReadyH.cons (o := { dst := some 36, op := Op.call { callee := Callee.value (Operand.func 14), args := #[Operand.tmp 34, Operand.tmp 35], argTypes := #[25, 5] }, type := 3, pos := "law.go:29", after := #[{ on := 10, ground := Ground.data }, { on := 11, ground := Ground.data }, { on := 9, ground := Ground.chain }, { on := 6, ground := Ground.guard }], guard := some (6, false) }) rfl (fun K hK => ?_) AllReadyH.nil
      go_simp
      with_reducible refine (HM2.out _).mono ?_
      rintro e x4 ⟨rfl, hb⟩
      have hb_x4 : Below V0.heap.size V0 x4 := bCall hHeld.2.2 hb
      clear hb
      go_wp2_with fail
      refine hK.out _ _ (tB HT.out hb_x4) (fun hHeld2 => ?_)
      clear hK K hHeld
      have hHeld := hHeld2
      clear hHeld2
      try simp only [Act.put, List.setIfInBounds_toArray, List.set_cons_zero, List.set_cons_succ]
      refine wpAnyH_take (i := 13) (oi := { dst := some 37, op := Op.binOp BinOp.neq 3 (Operand.tmp 33) (Operand.tmp 36) 3, type := 4, pos := "law.go:29", after := #[{ on := 9, ground := Ground.data }, { on := 12, ground := Ground.data }, { on := 6, ground := Ground.guard }], guard := some (6, false) }) (v := .bool false) rfl (by kernel_rfl) (by kernel_rfl) (by kernel_rfl) (fun _ _ _ h => h) (Or.inl ⟨by rfl, fun W hW => ?_⟩) hHeld ?_
      · obtain ⟨q1, q2, q3⟩ := hW
        go_simp
      simp only [Act.put, List.setIfInBounds_toArray, List.set_cons_zero, List.set_cons_succ]
      refine wpAnyH_take (i := 14) (oi := { dst := some 38, op := Op.pick (Operand.tmp 30) (Operand.const (Value.bool true)) (Operand.tmp 37), type := 4, pos := "law.go:29", after := #[{ on := 6, ground := Ground.data }, { on := 13, ground := Ground.data }], guard := none }) (v := .bool false) rfl (by kernel_rfl) (by kernel_rfl) (by kernel_rfl) (fun _ _ _ h => h) (Or.inl ⟨by rfl, fun W hW => ?_⟩) hHeld ?_
      · obtain ⟨q1, q2, q3⟩ := hW
        go_simp
      simp only [Act.put, List.setIfInBounds_toArray, List.set_cons_zero, List.set_cons_succ]
      refine wpAnyH_take (i := 15) (oi := { dst := some 39, op := Op.move (Operand.tmp 38), type := 4, pos := "law.go:29", after := #[{ on := 14, ground := Ground.data }, { on := 12, ground := Ground.chain }], guard := none }) (v := .bool false) rfl (by kernel_rfl) (by kernel_rfl) (by kernel_rfl) (fun _ _ _ h => h) (Or.inl ⟨by rfl, fun W hW => ?_⟩) hHeld ?_
      · obtain ⟨q1, q2, q3⟩ := hW
        go_simp
      simp only [Act.put, List.setIfInBounds_toArray, List.set_cons_zero, List.set_cons_succ]
      refine wpAnyH_take (i := 16) (oi := { dst := some 40, op := Op.move (Operand.tmp 8), type := 4, pos := "law.go:29", after := #[{ on := 15, ground := Ground.guard }], guard := some (15, false) }) (v := .bool false) rfl (by kernel_rfl) (by kernel_rfl) (by kernel_rfl) (fun _ _ _ h => h) (Or.inl ⟨by rfl, fun W hW => ?_⟩) hHeld ?_
      · obtain ⟨q1, q2, q3⟩ := hW
        go_simp
      simp only [Act.put, List.setIfInBounds_toArray, List.set_cons_zero, List.set_cons_succ]
      refine wpAnyH_take (i := 17) (oi := { dst := some 41, op := Op.move (Operand.tmp 9), type := 3, pos := "law.go:29", after := #[{ on := 15, ground := Ground.guard }], guard := some (15, false) }) (v := .int .i64 256) rfl (by kernel_rfl) (by kernel_rfl) (by kernel_rfl) (fun _ _ _ h => h) (Or.inl ⟨by rfl, fun W hW => ?_⟩) hHeld ?_
      · obtain ⟨q1, q2, q3⟩ := hW
        go_simp
      simp only [Act.put, List.setIfInBounds_toArray, List.set_cons_zero, List.set_cons_succ]
      refine wpAnyH_take (i := 18) (oi := { dst := some 42, op := Op.binOp BinOp.lss 3 (Operand.tmp 41) (Operand.const (Value.int IntKind.i64 256)) 3, type := 4, pos := "law.go:29", after := #[{ on := 17, ground := Ground.data }, { on := 15, ground := Ground.guard }], guard := some (15, false) }) (v := .bool false) rfl (by kernel_rfl) (by kernel_rfl) (by kernel_rfl) (fun _ _ _ h => h) (Or.inl ⟨by rfl, fun W hW => ?_⟩) hHeld ?_
      · obtain ⟨q1, q2, q3⟩ := hW
        go_simp
      simp only [Act.put, List.setIfInBounds_toArray, List.set_cons_zero, List.set_cons_succ]
      refine wpAnyH_take (i := 19) (oi := { dst := some 43, op := Op.binOp BinOp.neq 4 (Operand.tmp 40) (Operand.tmp 42) 4, type := 4, pos := "law.go:29", after := #[{ on := 16, ground := Ground.data }, { on := 18, ground := Ground.data }, { on := 15, ground := Ground.guard }], guard := some (15, false) }) (v := .bool false) rfl (by kernel_rfl) (by kernel_rfl) (by kernel_rfl) (fun _ _ _ h => h) (Or.inl ⟨by rfl, fun W hW => ?_⟩) hHeld ?_
      · obtain ⟨q1, q2, q3⟩ := hW
        go_simp
      simp only [Act.put, List.setIfInBounds_toArray, List.set_cons_zero, List.set_cons_succ]
      refine wpAnyH_take (i := 20) (oi := { dst := some 44, op := Op.pick (Operand.tmp 39) (Operand.const (Value.bool true)) (Operand.tmp 43), type := 4, pos := "law.go:29", after := #[{ on := 15, ground := Ground.data }, { on := 19, ground := Ground.data }], guard := none }) (v := .bool false) rfl (by kernel_rfl) (by kernel_rfl) (by kernel_rfl) (fun _ _ _ h => h) (Or.inl ⟨by rfl, fun W hW => ?_⟩) hHeld ?_
      · obtain ⟨q1, q2, q3⟩ := hW
        go_simp
      simp only [Act.put, List.setIfInBounds_toArray, List.set_cons_zero, List.set_cons_succ]
      refine wpAnyH_take (i := 21) (oi := { dst := some 45, op := Op.move (Operand.tmp 44), type := 4, pos := "law.go:29", after := #[{ on := 20, ground := Ground.data }, { on := 15, ground := Ground.chain }], guard := none }) (v := .bool false) rfl (by kernel_rfl) (by kernel_rfl) (by kernel_rfl) (fun _ _ _ h => h) (Or.inl ⟨by rfl, fun W hW => ?_⟩) hHeld ?_
      · obtain ⟨q1, q2, q3⟩ := hW
        go_simp
      simp only [Act.put, List.setIfInBounds_toArray, List.set_cons_zero, List.set_cons_succ]
      refine wpAnyH_take (i := 22) (oi := { dst := some 46, op := Op.move (Operand.tmp 8), type := 4, pos := "law.go:29", after := #[{ on := 21, ground := Ground.guard }], guard := some (21, false) }) (v := .bool false) rfl (by kernel_rfl) (by kernel_rfl) (by kernel_rfl) (fun _ _ _ h => h) (Or.inl ⟨by rfl, fun W hW => ?_⟩) hHeld ?_
      · obtain ⟨q1, q2, q3⟩ := hW
        go_simp
      simp only [Act.put, List.setIfInBounds_toArray, List.set_cons_zero, List.set_cons_succ]
      refine wpAnyH_take (i := 23) (oi := { dst := some 47, op := Op.move (Operand.tmp 46), type := 4, pos := "law.go:29", after := #[{ on := 22, ground := Ground.data }, { on := 21, ground := Ground.chain }, { on := 21, ground := Ground.guard }], guard := some (21, false) }) (v := .bool false) rfl (by kernel_rfl) (by kernel_rfl) (by kernel_rfl) (fun _ _ _ h => h) (Or.inl ⟨by rfl, fun W hW => ?_⟩) hHeld ?_
      · obtain ⟨q1, q2, q3⟩ := hW
        go_simp
      simp only [Act.put, List.setIfInBounds_toArray, List.set_cons_zero, List.set_cons_succ]
      refine wpAnyH_take (i := 24) (oi := { dst := some 48, op := Op.move (Operand.tmp 7), type := 5, pos := "law.go:29", after := #[{ on := 23, ground := Ground.guard }], guard := some (23, true) }) (v := undef) rfl (by kernel_rfl) (by kernel_rfl) (by kernel_rfl) (fun _ _ _ h => h) (Or.inr ⟨by rfl, rfl⟩) hHeld ?_
      simp only [Act.put, List.setIfInBounds_toArray, List.set_cons_zero, List.set_cons_succ]
      refine wpAnyH_take (i := 25) (oi := { dst := some 49, op := Op.convert 5 3 (Operand.tmp 48), type := 3, pos := "law.go:29", after := #[{ on := 24, ground := Ground.data }, { on := 23, ground := Ground.guard }], guard := some (23, true) }) (v := undef) rfl (by kernel_rfl) (by kernel_rfl) (by kernel_rfl) (fun _ _ _ h => h) (Or.inr ⟨by rfl, rfl⟩) hHeld ?_
      simp only [Act.put, List.setIfInBounds_toArray, List.set_cons_zero, List.set_cons_succ]
      refine wpAnyH_take (i := 26) (oi := { dst := some 50, op := Op.move (Operand.tmp 9), type := 3, pos := "law.go:29", after := #[{ on := 23, ground := Ground.guard }], guard := some (23, true) }) (v := undef) rfl (by kernel_rfl) (by kernel_rfl) (by kernel_rfl) (fun _ _ _ h => h) (Or.inr ⟨by rfl, rfl⟩) hHeld ?_
      simp only [Act.put, List.setIfInBounds_toArray, List.set_cons_zero, List.set_cons_succ]
      refine wpAnyH_take (i := 27) (oi := { dst := some 51, op := Op.binOp BinOp.neq 3 (Operand.tmp 49) (Operand.tmp 50) 3, type := 4, pos := "law.go:29", after := #[{ on := 25, ground := Ground.data }, { on := 26, ground := Ground.data }, { on := 23, ground := Ground.guard }], guard := some (23, true) }) (v := undef) rfl (by kernel_rfl) (by kernel_rfl) (by kernel_rfl) (fun _ _ _ h => h) (Or.inr ⟨by rfl, rfl⟩) hHeld ?_
      simp only [Act.put, List.setIfInBounds_toArray, List.set_cons_zero, List.set_cons_succ]
      refine wpAnyH_take (i := 28) (oi := { dst := some 52, op := Op.pick (Operand.tmp 47) (Operand.tmp 51) (Operand.const (Value.bool false)), type := 4, pos := "law.go:29", after := #[{ on := 23, ground := Ground.data }, { on := 27, ground := Ground.data }, { on := 21, ground := Ground.guard }], guard := some (21, false) }) (v := .bool false) rfl (by kernel_rfl) (by kernel_rfl) (by kernel_rfl) (fun _ _ _ h => h) (Or.inl ⟨by rfl, fun W hW => ?_⟩) hHeld ?_
      · obtain ⟨q1, q2, q3⟩ := hW
        go_simp
      simp only [Act.put, List.setIfInBounds_toArray, List.set_cons_zero, List.set_cons_succ]
      refine wpAnyH_take (i := 29) (oi := { dst := some 53, op := Op.pick (Operand.tmp 45) (Operand.const (Value.bool true)) (Operand.tmp 52), type := 4, pos := "law.go:29", after := #[{ on := 21, ground := Ground.data }, { on := 28, ground := Ground.data }], guard := none }) (v := .bool false) rfl (by kernel_rfl) (by kernel_rfl) (by kernel_rfl) (fun _ _ _ h => h) (Or.inl ⟨by rfl, fun W hW => ?_⟩) hHeld ?_
      · obtain ⟨q1, q2, q3⟩ := hW
        go_simp
      simp only [Act.put, List.setIfInBounds_toArray, List.set_cons_zero, List.set_cons_succ]
      refine wpAnyH_take (i := 30) (oi := { dst := some 54, op := Op.move (Operand.tmp 53), type := 4, pos := "law.go:29", after := #[{ on := 29, ground := Ground.data }, { on := 23, ground := Ground.chain }], guard := none }) (v := .bool false) rfl (by kernel_rfl) (by kernel_rfl) (by kernel_rfl) (fun _ _ _ h => h) (Or.inl ⟨by rfl, fun W hW => ?_⟩) hHeld ?_
      · obtain ⟨q1, q2, q3⟩ := hW
        go_simp
      simp only [Act.put, List.setIfInBounds_toArray, List.set_cons_zero, List.set_cons_succ]
      refine wpAnyH_take (i := 31) (oi := { dst := some 55, op := Op.move (Operand.tmp 8), type := 4, pos := "law.go:29", after := #[{ on := 30, ground := Ground.guard }], guard := some (30, false) }) (v := .bool false) rfl (by kernel_rfl) (by kernel_rfl) (by kernel_rfl) (fun _ _ _ h => h) (Or.inl ⟨by rfl, fun W hW => ?_⟩) hHeld ?_
      · obtain ⟨q1, q2, q3⟩ := hW
        go_simp
      simp only [Act.put, List.setIfInBounds_toArray, List.set_cons_zero, List.set_cons_succ]
      refine wpAnyH_take (i := 32) (oi := { dst := some 56, op := Op.unOp UnOp.not 4 (Operand.tmp 55), type := 4, pos := "law.go:29", after := #[{ on := 31, ground := Ground.data }, { on := 30, ground := Ground.guard }], guard := some (30, false) }) (v := .bool true) rfl (by kernel_rfl) (by kernel_rfl) (by kernel_rfl) (fun _ _ _ h => h) (Or.inl ⟨by rfl, fun W hW => ?_⟩) hHeld ?_
      · obtain ⟨q1, q2, q3⟩ := hW
        go_simp
      simp only [Act.put, List.setIfInBounds_toArray, List.set_cons_zero, List.set_cons_succ]
      refine wpAnyH_take (i := 33) (oi := { dst := some 57, op := Op.move (Operand.tmp 56), type := 4, pos := "law.go:29", after := #[{ on := 32, ground := Ground.data }, { on := 30, ground := Ground.chain }, { on := 30, ground := Ground.guard }], guard := some (30, false) }) (v := .bool true) rfl (by kernel_rfl) (by kernel_rfl) (by kernel_rfl) (fun _ _ _ h => h) (Or.inl ⟨by rfl, fun W hW => ?_⟩) hHeld ?_
      · obtain ⟨q1, q2, q3⟩ := hW
        go_simp
      simp only [Act.put, List.setIfInBounds_toArray, List.set_cons_zero, List.set_cons_succ]
      refine wpAnyH_take (i := 34) (oi := { dst := some 58, op := Op.move (Operand.tmp 7), type := 5, pos := "law.go:29", after := #[{ on := 33, ground := Ground.guard }], guard := some (33, true) }) (v := .int .u8 0) rfl (by kernel_rfl) (by kernel_rfl) (by kernel_rfl) (fun _ _ _ h => h) (Or.inl ⟨by rfl, fun W hW => ?_⟩) hHeld ?_
      · obtain ⟨q1, q2, q3⟩ := hW
        go_simp
      simp only [Act.put, List.setIfInBounds_toArray, List.set_cons_zero, List.set_cons_succ]
      refine wpAnyH_take (i := 35) (oi := { dst := some 59, op := Op.binOp BinOp.neq 5 (Operand.tmp 58) (Operand.const (Value.int IntKind.u8 0)) 5, type := 4, pos := "law.go:29", after := #[{ on := 34, ground := Ground.data }, { on := 33, ground := Ground.guard }], guard := some (33, true) }) (v := .bool false) rfl (by kernel_rfl) (by kernel_rfl) (by kernel_rfl) (fun _ _ _ h => h) (Or.inl ⟨by rfl, fun W hW => ?_⟩) hHeld ?_
      · obtain ⟨q1, q2, q3⟩ := hW
        go_simp
      simp only [Act.put, List.setIfInBounds_toArray, List.set_cons_zero, List.set_cons_succ]
      refine wpAnyH_take (i := 36) (oi := { dst := some 60, op := Op.pick (Operand.tmp 57) (Operand.tmp 59) (Operand.const (Value.bool false)), type := 4, pos := "law.go:29", after := #[{ on := 33, ground := Ground.data }, { on := 35, ground := Ground.data }, { on := 30, ground := Ground.guard }], guard := some (30, false) }) (v := .bool false) rfl (by kernel_rfl) (by kernel_rfl) (by kernel_rfl) (fun _ _ _ h => h) (Or.inl ⟨by rfl, fun W hW => ?_⟩) hHeld ?_
      · obtain ⟨q1, q2, q3⟩ := hW
        go_simp
      simp only [Act.put, List.setIfInBounds_toArray, List.set_cons_zero, List.set_cons_succ]
      refine wpAnyH_take (i := 37) (oi := { dst := some 61, op := Op.pick (Operand.tmp 54) (Operand.const (Value.bool true)) (Operand.tmp 60), type := 4, pos := "law.go:29", after := #[{ on := 30, ground := Ground.data }, { on := 36, ground := Ground.data }], guard := none }) (v := .bool false) rfl (by kernel_rfl) (by kernel_rfl) (by kernel_rfl) (fun _ _ _ h => h) (Or.inl ⟨by rfl, fun W hW => ?_⟩) hHeld ?_
      · obtain ⟨q1, q2, q3⟩ := hW
        go_simp
      simp only [Act.put, List.setIfInBounds_toArray, List.set_cons_zero, List.set_cons_succ]
      refine wpAnyH_take (i := 38) (oi := { dst := some 62, op := Op.move (Operand.tmp 61), type := 4, pos := "law.go:29", after := #[{ on := 37, ground := Ground.data }, { on := 33, ground := Ground.chain }], guard := none }) (v := .bool false) rfl (by kernel_rfl) (by kernel_rfl) (by kernel_rfl) (fun _ _ _ h => h) (Or.inl ⟨by rfl, fun W hW => ?_⟩) hHeld ?_
      · obtain ⟨q1, q2, q3⟩ := hW
        go_simp
      simp only [Act.put, List.setIfInBounds_toArray, List.set_cons_zero, List.set_cons_succ]
      refine wpAnyH_ready (rs := [39]) (by kernel_rfl) (by simp) ?_
      refine AllReadyH.cons (o := { dst := some 63, op := Op.call { callee := Callee.value (Operand.func 15), args := #[], argTypes := #[] }, type := 25, pos := "law.go:29", after := #[{ on := 38, ground := Ground.chain }, { on := 38, ground := Ground.guard }], guard := some (38, false) }) rfl (fun K hK => ?_) AllReadyH.nil
      go_simp
      with_reducible refine (standard_any _ (Laid.below HLv.out hHeld.2.2)).mono ?_
      rintro e x5 ⟨rfl, hb⟩
      have hb_x5 : Below V0.heap.size V0 x5 := bCall hHeld.2.2 hb
      clear hb
      go_wp2_with fail
      refine hK.out _ _ (tB HT.out hb_x5) (fun hHeld2 => ?_)
      clear hK K hHeld
      have hHeld := hHeld2
      clear hHeld2
      try simp only [Act.put, List.setIfInBounds_toArray, List.set_cons_zero, List.set_cons_succ]
      refine wpAnyH_ready (rs := [40]) (by kernel_rfl) (by simp) ?_
      refine AllReadyH.cons (o := { dst := some 64, op := Op.call { callee := Callee.value (Operand.func 16), args := #[], argTypes := #[] }, type := 25, pos := "law.go:29", after := #[{ on := 39, ground := Ground.chain }, { on := 38, ground := Ground.guard }], guard := some (38, false) }) rfl (fun K hK => ?_) AllReadyH.nil
      go_simp
      with_reducible refine (refStandard_any _).mono ?_
      rintro e x6 ⟨rfl, hb⟩
      have hb_x6 : Below V0.heap.size V0 x6 := bCall hHeld.2.2 hb
      clear hb
      go_wp2_with fail
      refine hK.out _ _ (tB HT.out hb_x6) (fun hHeld2 => ?_)
      clear hK K hHeld
      have hHeld := hHeld2
      clear hHeld2
      try simp only [Act.put, List.setIfInBounds_toArray, List.set_cons_zero, List.set_cons_succ]
      refine wpAnyH_take (i := 41) (oi := { dst := some 65, op := Op.binOp BinOp.neq 25 (Operand.tmp 63) (Operand.tmp 64) 25, type := 4, pos := "law.go:29", after := #[{ on := 39, ground := Ground.data }, { on := 40, ground := Ground.data }, { on := 38, ground := Ground.guard }], guard := some (38, false) }) (v := .bool false) rfl (by kernel_rfl) (by kernel_rfl) (by kernel_rfl) (fun _ _ _ h => h) (Or.inl ⟨by rfl, fun W hW => ?_⟩) hHeld ?_
      · obtain ⟨q1, q2, q3⟩ := hW
        go_simp
      simp only [Act.put, List.setIfInBounds_toArray, List.set_cons_zero, List.set_cons_succ]
      refine wpAnyH_take (i := 42) (oi := { dst := some 66, op := Op.pick (Operand.tmp 62) (Operand.const (Value.bool true)) (Operand.tmp 65), type := 4, pos := "law.go:29", after := #[{ on := 38, ground := Ground.data }, { on := 41, ground := Ground.data }], guard := none }) (v := .bool false) rfl (by kernel_rfl) (by kernel_rfl) (by kernel_rfl) (fun _ _ _ h => h) (Or.inl ⟨by rfl, fun W hW => ?_⟩) hHeld ?_
      · obtain ⟨q1, q2, q3⟩ := hW
        go_simp
      simp only [Act.put, List.setIfInBounds_toArray, List.set_cons_zero, List.set_cons_succ]
      refine wpAnyH_done (by kernel_rfl) ?_ _
      go_wp2_with fail
      go_meet
      exact ⟨rfl, hb_x6⟩
    · obtain rfl : kk = z := HZz.out
      have hkb := HKB.out
      have wr1 : IntKind.i64.wrap kk = kk := by simp [IntKind.wrap, IntKind.bits, IntKind.signed]; omega
      have g256 : decide (kk < 256) = true := decide_eq_true (by omega)
      clear HK0 HZz HKB hkb
      refine wp_region_held_drew (S := (fun V => rowOf V b0 = (cs X).toArray ∧ isRow V 25 b0 62 = true ∧ Below V0.heap.size V0 V)) (by kernel_rfl) (tB HT.out (Below.drew (Below.refl _ _))) (fun hHeld => ?_)
      refine wpAnyH_take (i := 0) (oi := { dst := some 24, op := Op.load 25 (Operand.tmp 3), type := 25, pos := "law.go:29", after := #[], guard := none }) (v := tv X) rfl (by kernel_rfl) (by kernel_rfl) (by kernel_rfl) (fun _ _ _ h => h) (Or.inl ⟨by rfl, fun W hW => ?_⟩) hHeld ?_
      · obtain ⟨q1, q2, q3⟩ := hW
        go_simp
      simp only [Act.put, List.setIfInBounds_toArray, List.set_cons_zero, List.set_cons_succ]
      refine wpAnyH_take (i := 3) (oi := { dst := some 27, op := Op.load 25 (Operand.tmp 3), type := 25, pos := "law.go:29", after := #[], guard := none }) (v := tv X) rfl (by kernel_rfl) (by kernel_rfl) (by kernel_rfl) (fun _ _ _ h => h) (Or.inl ⟨by rfl, fun W hW => ?_⟩) hHeld ?_
      · obtain ⟨q1, q2, q3⟩ := hW
        go_simp
      simp only [Act.put, List.setIfInBounds_toArray, List.set_cons_zero, List.set_cons_succ]
      refine wpAnyH_ready (rs := [1]) (by kernel_rfl) (by simp) ?_
      refine AllReadyH.cons (o := { dst := some 25, op := Op.call { callee := Callee.value (Operand.func 11), args := #[Operand.tmp 24], argTypes := #[25] }, type := 31, pos := "law.go:29", after := #[{ on := 0, ground := Ground.data }], guard := none }) rfl (fun K hK => ?_) AllReadyH.nil
      go_simp
      with_reducible refine (HC1.out _).mono ?_
      rintro e x1 ⟨rfl, hb⟩
      have hb_x1 : Below V0.heap.size V0 x1 := bCall hHeld.2.2 hb
      clear hb
      go_wp2_with fail
      refine hK.out _ _ (tB HT.out hb_x1) (fun hHeld2 => ?_)
      clear hK K hHeld
      have hHeld := hHeld2
      clear hHeld2
      try simp only [Act.put, List.setIfInBounds_toArray, List.set_cons_zero, List.set_cons_succ]
      refine wpAnyH_take (i := 2) (oi := { dst := some 26, op := Op.binOp BinOp.eql 31 (Operand.tmp 25) (Operand.const (Value.int IntKind.i64 0)) 31, type := 4, pos := "law.go:29", after := #[{ on := 1, ground := Ground.data }], guard := none }) (v := .bool m) rfl (by kernel_rfl) (by kernel_rfl) (by kernel_rfl) (fun _ _ _ h => h) (Or.inl ⟨by rfl, fun W hW => ?_⟩) hHeld ?_
      · obtain ⟨q1, q2, q3⟩ := hW
        go_simp
      simp only [Act.put, List.setIfInBounds_toArray, List.set_cons_zero, List.set_cons_succ]
      refine wpAnyH_ready (rs := [4]) (by kernel_rfl) (by simp) ?_
      refine AllReadyH.cons (o := { dst := some 28, op := Op.call { callee := Callee.value (Operand.func 12), args := #[Operand.tmp 27], argTypes := #[25] }, type := 4, pos := "law.go:29", after := #[{ on := 3, ground := Ground.data }, { on := 1, ground := Ground.chain }], guard := none }) rfl (fun K hK => ?_) AllReadyH.nil
      go_simp
      with_reducible refine (HC2.out _).mono ?_
      rintro e x2 ⟨rfl, hb⟩
      have hb_x2 : Below V0.heap.size V0 x2 := bCall hHeld.2.2 hb
      clear hb
      go_wp2_with fail
      refine hK.out _ _ (tB HT.out hb_x2) (fun hHeld2 => ?_)
      clear hK K hHeld
      have hHeld := hHeld2
      clear hHeld2
      try simp only [Act.put, List.setIfInBounds_toArray, List.set_cons_zero, List.set_cons_succ]
      refine wpAnyH_take (i := 5) (oi := { dst := some 29, op := Op.binOp BinOp.neq 4 (Operand.tmp 26) (Operand.tmp 28) 4, type := 4, pos := "law.go:29", after := #[{ on := 2, ground := Ground.data }, { on := 4, ground := Ground.data }], guard := none }) (v := .bool false) rfl (by kernel_rfl) (by kernel_rfl) (by kernel_rfl) (fun _ _ _ h => h) (Or.inl ⟨by rfl, fun W hW => ?_⟩) hHeld ?_
      · obtain ⟨q1, q2, q3⟩ := hW
        go_simp
      simp only [Act.put, List.setIfInBounds_toArray, List.set_cons_zero, List.set_cons_succ]
      refine wpAnyH_take (i := 6) (oi := { dst := some 30, op := Op.move (Operand.tmp 29), type := 4, pos := "law.go:29", after := #[{ on := 5, ground := Ground.data }, { on := 4, ground := Ground.chain }], guard := none }) (v := .bool false) rfl (by kernel_rfl) (by kernel_rfl) (by kernel_rfl) (fun _ _ _ h => h) (Or.inl ⟨by rfl, fun W hW => ?_⟩) hHeld ?_
      · obtain ⟨q1, q2, q3⟩ := hW
        go_simp
      simp only [Act.put, List.setIfInBounds_toArray, List.set_cons_zero, List.set_cons_succ]
      refine wpAnyH_take (i := 7) (oi := { dst := some 31, op := Op.load 25 (Operand.tmp 3), type := 25, pos := "law.go:29", after := #[{ on := 6, ground := Ground.guard }], guard := some (6, false) }) (v := tv X) rfl (by kernel_rfl) (by kernel_rfl) (by kernel_rfl) (fun _ _ _ h => h) (Or.inl ⟨by rfl, fun W hW => ?_⟩) hHeld ?_
      · obtain ⟨q1, q2, q3⟩ := hW
        go_simp
      simp only [Act.put, List.setIfInBounds_toArray, List.set_cons_zero, List.set_cons_succ]
      refine wpAnyH_take (i := 8) (oi := { dst := some 32, op := Op.move (Operand.tmp 2), type := 5, pos := "law.go:29", after := #[{ on := 6, ground := Ground.guard }], guard := some (6, false) }) (v := .int .u8 q) rfl (by kernel_rfl) (by kernel_rfl) (by kernel_rfl) (fun _ _ _ h => h) (Or.inl ⟨by rfl, fun W hW => ?_⟩) hHeld ?_
      · obtain ⟨q1, q2, q3⟩ := hW
        go_simp
      simp only [Act.put, List.setIfInBounds_toArray, List.set_cons_zero, List.set_cons_succ]
      refine wpAnyH_take (i := 10) (oi := { dst := some 34, op := Op.load 25 (Operand.tmp 3), type := 25, pos := "law.go:29", after := #[{ on := 6, ground := Ground.guard }], guard := some (6, false) }) (v := tv X) rfl (by kernel_rfl) (by kernel_rfl) (by kernel_rfl) (fun _ _ _ h => h) (Or.inl ⟨by rfl, fun W hW => ?_⟩) hHeld ?_
      · obtain ⟨q1, q2, q3⟩ := hW
        go_simp
      simp only [Act.put, List.setIfInBounds_toArray, List.set_cons_zero, List.set_cons_succ]
      refine wpAnyH_take (i := 11) (oi := { dst := some 35, op := Op.move (Operand.tmp 2), type := 5, pos := "law.go:29", after := #[{ on := 6, ground := Ground.guard }], guard := some (6, false) }) (v := .int .u8 q) rfl (by kernel_rfl) (by kernel_rfl) (by kernel_rfl) (fun _ _ _ h => h) (Or.inl ⟨by rfl, fun W hW => ?_⟩) hHeld ?_
      · obtain ⟨q1, q2, q3⟩ := hW
        go_simp
      simp only [Act.put, List.setIfInBounds_toArray, List.set_cons_zero, List.set_cons_succ]
      refine wpAnyH_ready (rs := [9]) (by kernel_rfl) (by simp) ?_
      refine AllReadyH.cons (o := { dst := some 33, op := Op.call { callee := Callee.value (Operand.func 13), args := #[Operand.tmp 31, Operand.tmp 32], argTypes := #[25, 5] }, type := 3, pos := "law.go:29", after := #[{ on := 7, ground := Ground.data }, { on := 8, ground := Ground.data }, { on := 6, ground := Ground.chain }, { on := 6, ground := Ground.guard }], guard := some (6, false) }) rfl (fun K hK => ?_) AllReadyH.nil
      go_simp
      with_reducible refine (HM1.out _).mono ?_
      rintro e x3 ⟨rfl, hb⟩
      have hb_x3 : Below V0.heap.size V0 x3 := bCall hHeld.2.2 hb
      clear hb
      go_wp2_with fail
      refine hK.out _ _ (tB HT.out hb_x3) (fun hHeld2 => ?_)
      clear hK K hHeld
      have hHeld := hHeld2
      clear hHeld2
      try simp only [Act.put, List.setIfInBounds_toArray, List.set_cons_zero, List.set_cons_succ]
      refine wpAnyH_ready (rs := [12]) (by kernel_rfl) (by simp) ?_
      refine AllReadyH.cons (o := { dst := some 36, op := Op.call { callee := Callee.value (Operand.func 14), args := #[Operand.tmp 34, Operand.tmp 35], argTypes := #[25, 5] }, type := 3, pos := "law.go:29", after := #[{ on := 10, ground := Ground.data }, { on := 11, ground := Ground.data }, { on := 9, ground := Ground.chain }, { on := 6, ground := Ground.guard }], guard := some (6, false) }) rfl (fun K hK => ?_) AllReadyH.nil
      go_simp
      with_reducible refine (HM2.out _).mono ?_
      rintro e x4 ⟨rfl, hb⟩
      have hb_x4 : Below V0.heap.size V0 x4 := bCall hHeld.2.2 hb
      clear hb
      go_wp2_with fail
      refine hK.out _ _ (tB HT.out hb_x4) (fun hHeld2 => ?_)
      clear hK K hHeld
      have hHeld := hHeld2
      clear hHeld2
      try simp only [Act.put, List.setIfInBounds_toArray, List.set_cons_zero, List.set_cons_succ]
      refine wpAnyH_take (i := 13) (oi := { dst := some 37, op := Op.binOp BinOp.neq 3 (Operand.tmp 33) (Operand.tmp 36) 3, type := 4, pos := "law.go:29", after := #[{ on := 9, ground := Ground.data }, { on := 12, ground := Ground.data }, { on := 6, ground := Ground.guard }], guard := some (6, false) }) (v := .bool false) rfl (by kernel_rfl) (by kernel_rfl) (by kernel_rfl) (fun _ _ _ h => h) (Or.inl ⟨by rfl, fun W hW => ?_⟩) hHeld ?_
      · obtain ⟨q1, q2, q3⟩ := hW
        go_simp
      simp only [Act.put, List.setIfInBounds_toArray, List.set_cons_zero, List.set_cons_succ]
      refine wpAnyH_take (i := 14) (oi := { dst := some 38, op := Op.pick (Operand.tmp 30) (Operand.const (Value.bool true)) (Operand.tmp 37), type := 4, pos := "law.go:29", after := #[{ on := 6, ground := Ground.data }, { on := 13, ground := Ground.data }], guard := none }) (v := .bool false) rfl (by kernel_rfl) (by kernel_rfl) (by kernel_rfl) (fun _ _ _ h => h) (Or.inl ⟨by rfl, fun W hW => ?_⟩) hHeld ?_
      · obtain ⟨q1, q2, q3⟩ := hW
        go_simp
      simp only [Act.put, List.setIfInBounds_toArray, List.set_cons_zero, List.set_cons_succ]
      refine wpAnyH_take (i := 15) (oi := { dst := some 39, op := Op.move (Operand.tmp 38), type := 4, pos := "law.go:29", after := #[{ on := 14, ground := Ground.data }, { on := 12, ground := Ground.chain }], guard := none }) (v := .bool false) rfl (by kernel_rfl) (by kernel_rfl) (by kernel_rfl) (fun _ _ _ h => h) (Or.inl ⟨by rfl, fun W hW => ?_⟩) hHeld ?_
      · obtain ⟨q1, q2, q3⟩ := hW
        go_simp
      simp only [Act.put, List.setIfInBounds_toArray, List.set_cons_zero, List.set_cons_succ]
      refine wpAnyH_take (i := 16) (oi := { dst := some 40, op := Op.move (Operand.tmp 8), type := 4, pos := "law.go:29", after := #[{ on := 15, ground := Ground.guard }], guard := some (15, false) }) (v := .bool true) rfl (by kernel_rfl) (by kernel_rfl) (by kernel_rfl) (fun _ _ _ h => h) (Or.inl ⟨by rfl, fun W hW => ?_⟩) hHeld ?_
      · obtain ⟨q1, q2, q3⟩ := hW
        go_simp
      simp only [Act.put, List.setIfInBounds_toArray, List.set_cons_zero, List.set_cons_succ]
      refine wpAnyH_take (i := 17) (oi := { dst := some 41, op := Op.move (Operand.tmp 9), type := 3, pos := "law.go:29", after := #[{ on := 15, ground := Ground.guard }], guard := some (15, false) }) (v := .int .i64 kk) rfl (by kernel_rfl) (by kernel_rfl) (by kernel_rfl) (fun _ _ _ h => h) (Or.inl ⟨by rfl, fun W hW => ?_⟩) hHeld ?_
      · obtain ⟨q1, q2, q3⟩ := hW
        go_simp
      simp only [Act.put, List.setIfInBounds_toArray, List.set_cons_zero, List.set_cons_succ]
      refine wpAnyH_take (i := 18) (oi := { dst := some 42, op := Op.binOp BinOp.lss 3 (Operand.tmp 41) (Operand.const (Value.int IntKind.i64 256)) 3, type := 4, pos := "law.go:29", after := #[{ on := 17, ground := Ground.data }, { on := 15, ground := Ground.guard }], guard := some (15, false) }) (v := .bool true) rfl (by kernel_rfl) (by kernel_rfl) (by kernel_rfl) (fun _ _ _ h => h) (Or.inl ⟨by rfl, fun W hW => ?_⟩) hHeld ?_
      · obtain ⟨q1, q2, q3⟩ := hW
        go_simp
      simp only [Act.put, List.setIfInBounds_toArray, List.set_cons_zero, List.set_cons_succ]
      refine wpAnyH_take (i := 19) (oi := { dst := some 43, op := Op.binOp BinOp.neq 4 (Operand.tmp 40) (Operand.tmp 42) 4, type := 4, pos := "law.go:29", after := #[{ on := 16, ground := Ground.data }, { on := 18, ground := Ground.data }, { on := 15, ground := Ground.guard }], guard := some (15, false) }) (v := .bool false) rfl (by kernel_rfl) (by kernel_rfl) (by kernel_rfl) (fun _ _ _ h => h) (Or.inl ⟨by rfl, fun W hW => ?_⟩) hHeld ?_
      · obtain ⟨q1, q2, q3⟩ := hW
        go_simp
      simp only [Act.put, List.setIfInBounds_toArray, List.set_cons_zero, List.set_cons_succ]
      refine wpAnyH_take (i := 20) (oi := { dst := some 44, op := Op.pick (Operand.tmp 39) (Operand.const (Value.bool true)) (Operand.tmp 43), type := 4, pos := "law.go:29", after := #[{ on := 15, ground := Ground.data }, { on := 19, ground := Ground.data }], guard := none }) (v := .bool false) rfl (by kernel_rfl) (by kernel_rfl) (by kernel_rfl) (fun _ _ _ h => h) (Or.inl ⟨by rfl, fun W hW => ?_⟩) hHeld ?_
      · obtain ⟨q1, q2, q3⟩ := hW
        go_simp
      simp only [Act.put, List.setIfInBounds_toArray, List.set_cons_zero, List.set_cons_succ]
      refine wpAnyH_take (i := 21) (oi := { dst := some 45, op := Op.move (Operand.tmp 44), type := 4, pos := "law.go:29", after := #[{ on := 20, ground := Ground.data }, { on := 15, ground := Ground.chain }], guard := none }) (v := .bool false) rfl (by kernel_rfl) (by kernel_rfl) (by kernel_rfl) (fun _ _ _ h => h) (Or.inl ⟨by rfl, fun W hW => ?_⟩) hHeld ?_
      · obtain ⟨q1, q2, q3⟩ := hW
        go_simp
      simp only [Act.put, List.setIfInBounds_toArray, List.set_cons_zero, List.set_cons_succ]
      refine wpAnyH_take (i := 22) (oi := { dst := some 46, op := Op.move (Operand.tmp 8), type := 4, pos := "law.go:29", after := #[{ on := 21, ground := Ground.guard }], guard := some (21, false) }) (v := .bool true) rfl (by kernel_rfl) (by kernel_rfl) (by kernel_rfl) (fun _ _ _ h => h) (Or.inl ⟨by rfl, fun W hW => ?_⟩) hHeld ?_
      · obtain ⟨q1, q2, q3⟩ := hW
        go_simp
      simp only [Act.put, List.setIfInBounds_toArray, List.set_cons_zero, List.set_cons_succ]
      refine wpAnyH_take (i := 23) (oi := { dst := some 47, op := Op.move (Operand.tmp 46), type := 4, pos := "law.go:29", after := #[{ on := 22, ground := Ground.data }, { on := 21, ground := Ground.chain }, { on := 21, ground := Ground.guard }], guard := some (21, false) }) (v := .bool true) rfl (by kernel_rfl) (by kernel_rfl) (by kernel_rfl) (fun _ _ _ h => h) (Or.inl ⟨by rfl, fun W hW => ?_⟩) hHeld ?_
      · obtain ⟨q1, q2, q3⟩ := hW
        go_simp
      simp only [Act.put, List.setIfInBounds_toArray, List.set_cons_zero, List.set_cons_succ]
      refine wpAnyH_take (i := 24) (oi := { dst := some 48, op := Op.move (Operand.tmp 7), type := 5, pos := "law.go:29", after := #[{ on := 23, ground := Ground.guard }], guard := some (23, true) }) (v := .int .u8 kk) rfl (by kernel_rfl) (by kernel_rfl) (by kernel_rfl) (fun _ _ _ h => h) (Or.inl ⟨by rfl, fun W hW => ?_⟩) hHeld ?_
      · obtain ⟨q1, q2, q3⟩ := hW
        go_simp
      simp only [Act.put, List.setIfInBounds_toArray, List.set_cons_zero, List.set_cons_succ]
      refine wpAnyH_take (i := 25) (oi := { dst := some 49, op := Op.convert 5 3 (Operand.tmp 48), type := 3, pos := "law.go:29", after := #[{ on := 24, ground := Ground.data }, { on := 23, ground := Ground.guard }], guard := some (23, true) }) (v := .int .i64 kk) rfl (by kernel_rfl) (by kernel_rfl) (by kernel_rfl) (fun _ _ _ h => h) (Or.inl ⟨by rfl, fun W hW => ?_⟩) hHeld ?_
      · obtain ⟨q1, q2, q3⟩ := hW
        go_simp
      simp only [Act.put, List.setIfInBounds_toArray, List.set_cons_zero, List.set_cons_succ]
      refine wpAnyH_take (i := 26) (oi := { dst := some 50, op := Op.move (Operand.tmp 9), type := 3, pos := "law.go:29", after := #[{ on := 23, ground := Ground.guard }], guard := some (23, true) }) (v := .int .i64 kk) rfl (by kernel_rfl) (by kernel_rfl) (by kernel_rfl) (fun _ _ _ h => h) (Or.inl ⟨by rfl, fun W hW => ?_⟩) hHeld ?_
      · obtain ⟨q1, q2, q3⟩ := hW
        go_simp
      simp only [Act.put, List.setIfInBounds_toArray, List.set_cons_zero, List.set_cons_succ]
      refine wpAnyH_take (i := 27) (oi := { dst := some 51, op := Op.binOp BinOp.neq 3 (Operand.tmp 49) (Operand.tmp 50) 3, type := 4, pos := "law.go:29", after := #[{ on := 25, ground := Ground.data }, { on := 26, ground := Ground.data }, { on := 23, ground := Ground.guard }], guard := some (23, true) }) (v := .bool false) rfl (by kernel_rfl) (by kernel_rfl) (by kernel_rfl) (fun _ _ _ h => h) (Or.inl ⟨by rfl, fun W hW => ?_⟩) hHeld ?_
      · obtain ⟨q1, q2, q3⟩ := hW
        go_simp
      simp only [Act.put, List.setIfInBounds_toArray, List.set_cons_zero, List.set_cons_succ]
      refine wpAnyH_take (i := 28) (oi := { dst := some 52, op := Op.pick (Operand.tmp 47) (Operand.tmp 51) (Operand.const (Value.bool false)), type := 4, pos := "law.go:29", after := #[{ on := 23, ground := Ground.data }, { on := 27, ground := Ground.data }, { on := 21, ground := Ground.guard }], guard := some (21, false) }) (v := .bool false) rfl (by kernel_rfl) (by kernel_rfl) (by kernel_rfl) (fun _ _ _ h => h) (Or.inl ⟨by rfl, fun W hW => ?_⟩) hHeld ?_
      · obtain ⟨q1, q2, q3⟩ := hW
        go_simp
      simp only [Act.put, List.setIfInBounds_toArray, List.set_cons_zero, List.set_cons_succ]
      refine wpAnyH_take (i := 29) (oi := { dst := some 53, op := Op.pick (Operand.tmp 45) (Operand.const (Value.bool true)) (Operand.tmp 52), type := 4, pos := "law.go:29", after := #[{ on := 21, ground := Ground.data }, { on := 28, ground := Ground.data }], guard := none }) (v := .bool false) rfl (by kernel_rfl) (by kernel_rfl) (by kernel_rfl) (fun _ _ _ h => h) (Or.inl ⟨by rfl, fun W hW => ?_⟩) hHeld ?_
      · obtain ⟨q1, q2, q3⟩ := hW
        go_simp
      simp only [Act.put, List.setIfInBounds_toArray, List.set_cons_zero, List.set_cons_succ]
      refine wpAnyH_take (i := 30) (oi := { dst := some 54, op := Op.move (Operand.tmp 53), type := 4, pos := "law.go:29", after := #[{ on := 29, ground := Ground.data }, { on := 23, ground := Ground.chain }], guard := none }) (v := .bool false) rfl (by kernel_rfl) (by kernel_rfl) (by kernel_rfl) (fun _ _ _ h => h) (Or.inl ⟨by rfl, fun W hW => ?_⟩) hHeld ?_
      · obtain ⟨q1, q2, q3⟩ := hW
        go_simp
      simp only [Act.put, List.setIfInBounds_toArray, List.set_cons_zero, List.set_cons_succ]
      refine wpAnyH_take (i := 31) (oi := { dst := some 55, op := Op.move (Operand.tmp 8), type := 4, pos := "law.go:29", after := #[{ on := 30, ground := Ground.guard }], guard := some (30, false) }) (v := .bool true) rfl (by kernel_rfl) (by kernel_rfl) (by kernel_rfl) (fun _ _ _ h => h) (Or.inl ⟨by rfl, fun W hW => ?_⟩) hHeld ?_
      · obtain ⟨q1, q2, q3⟩ := hW
        go_simp
      simp only [Act.put, List.setIfInBounds_toArray, List.set_cons_zero, List.set_cons_succ]
      refine wpAnyH_take (i := 32) (oi := { dst := some 56, op := Op.unOp UnOp.not 4 (Operand.tmp 55), type := 4, pos := "law.go:29", after := #[{ on := 31, ground := Ground.data }, { on := 30, ground := Ground.guard }], guard := some (30, false) }) (v := .bool false) rfl (by kernel_rfl) (by kernel_rfl) (by kernel_rfl) (fun _ _ _ h => h) (Or.inl ⟨by rfl, fun W hW => ?_⟩) hHeld ?_
      · obtain ⟨q1, q2, q3⟩ := hW
        go_simp
      simp only [Act.put, List.setIfInBounds_toArray, List.set_cons_zero, List.set_cons_succ]
      refine wpAnyH_take (i := 33) (oi := { dst := some 57, op := Op.move (Operand.tmp 56), type := 4, pos := "law.go:29", after := #[{ on := 32, ground := Ground.data }, { on := 30, ground := Ground.chain }, { on := 30, ground := Ground.guard }], guard := some (30, false) }) (v := .bool false) rfl (by kernel_rfl) (by kernel_rfl) (by kernel_rfl) (fun _ _ _ h => h) (Or.inl ⟨by rfl, fun W hW => ?_⟩) hHeld ?_
      · obtain ⟨q1, q2, q3⟩ := hW
        go_simp
      simp only [Act.put, List.setIfInBounds_toArray, List.set_cons_zero, List.set_cons_succ]
      refine wpAnyH_take (i := 34) (oi := { dst := some 58, op := Op.move (Operand.tmp 7), type := 5, pos := "law.go:29", after := #[{ on := 33, ground := Ground.guard }], guard := some (33, true) }) (v := undef) rfl (by kernel_rfl) (by kernel_rfl) (by kernel_rfl) (fun _ _ _ h => h) (Or.inr ⟨by rfl, rfl⟩) hHeld ?_
      simp only [Act.put, List.setIfInBounds_toArray, List.set_cons_zero, List.set_cons_succ]
      refine wpAnyH_take (i := 35) (oi := { dst := some 59, op := Op.binOp BinOp.neq 5 (Operand.tmp 58) (Operand.const (Value.int IntKind.u8 0)) 5, type := 4, pos := "law.go:29", after := #[{ on := 34, ground := Ground.data }, { on := 33, ground := Ground.guard }], guard := some (33, true) }) (v := undef) rfl (by kernel_rfl) (by kernel_rfl) (by kernel_rfl) (fun _ _ _ h => h) (Or.inr ⟨by rfl, rfl⟩) hHeld ?_
      simp only [Act.put, List.setIfInBounds_toArray, List.set_cons_zero, List.set_cons_succ]
      refine wpAnyH_take (i := 36) (oi := { dst := some 60, op := Op.pick (Operand.tmp 57) (Operand.tmp 59) (Operand.const (Value.bool false)), type := 4, pos := "law.go:29", after := #[{ on := 33, ground := Ground.data }, { on := 35, ground := Ground.data }, { on := 30, ground := Ground.guard }], guard := some (30, false) }) (v := .bool false) rfl (by kernel_rfl) (by kernel_rfl) (by kernel_rfl) (fun _ _ _ h => h) (Or.inl ⟨by rfl, fun W hW => ?_⟩) hHeld ?_
      · obtain ⟨q1, q2, q3⟩ := hW
        go_simp
      simp only [Act.put, List.setIfInBounds_toArray, List.set_cons_zero, List.set_cons_succ]
      refine wpAnyH_take (i := 37) (oi := { dst := some 61, op := Op.pick (Operand.tmp 54) (Operand.const (Value.bool true)) (Operand.tmp 60), type := 4, pos := "law.go:29", after := #[{ on := 30, ground := Ground.data }, { on := 36, ground := Ground.data }], guard := none }) (v := .bool false) rfl (by kernel_rfl) (by kernel_rfl) (by kernel_rfl) (fun _ _ _ h => h) (Or.inl ⟨by rfl, fun W hW => ?_⟩) hHeld ?_
      · obtain ⟨q1, q2, q3⟩ := hW
        go_simp
      simp only [Act.put, List.setIfInBounds_toArray, List.set_cons_zero, List.set_cons_succ]
      refine wpAnyH_take (i := 38) (oi := { dst := some 62, op := Op.move (Operand.tmp 61), type := 4, pos := "law.go:29", after := #[{ on := 37, ground := Ground.data }, { on := 33, ground := Ground.chain }], guard := none }) (v := .bool false) rfl (by kernel_rfl) (by kernel_rfl) (by kernel_rfl) (fun _ _ _ h => h) (Or.inl ⟨by rfl, fun W hW => ?_⟩) hHeld ?_
      · obtain ⟨q1, q2, q3⟩ := hW
        go_simp
      simp only [Act.put, List.setIfInBounds_toArray, List.set_cons_zero, List.set_cons_succ]
      refine wpAnyH_ready (rs := [39]) (by kernel_rfl) (by simp) ?_
      refine AllReadyH.cons (o := { dst := some 63, op := Op.call { callee := Callee.value (Operand.func 15), args := #[], argTypes := #[] }, type := 25, pos := "law.go:29", after := #[{ on := 38, ground := Ground.chain }, { on := 38, ground := Ground.guard }], guard := some (38, false) }) rfl (fun K hK => ?_) AllReadyH.nil
      go_simp
      with_reducible refine (standard_any _ (Laid.below HLv.out hHeld.2.2)).mono ?_
      rintro e x5 ⟨rfl, hb⟩
      have hb_x5 : Below V0.heap.size V0 x5 := bCall hHeld.2.2 hb
      clear hb
      go_wp2_with fail
      refine hK.out _ _ (tB HT.out hb_x5) (fun hHeld2 => ?_)
      clear hK K hHeld
      have hHeld := hHeld2
      clear hHeld2
      try simp only [Act.put, List.setIfInBounds_toArray, List.set_cons_zero, List.set_cons_succ]
      refine wpAnyH_ready (rs := [40]) (by kernel_rfl) (by simp) ?_
      refine AllReadyH.cons (o := { dst := some 64, op := Op.call { callee := Callee.value (Operand.func 16), args := #[], argTypes := #[] }, type := 25, pos := "law.go:29", after := #[{ on := 39, ground := Ground.chain }, { on := 38, ground := Ground.guard }], guard := some (38, false) }) rfl (fun K hK => ?_) AllReadyH.nil
      go_simp
      with_reducible refine (refStandard_any _).mono ?_
      rintro e x6 ⟨rfl, hb⟩
      have hb_x6 : Below V0.heap.size V0 x6 := bCall hHeld.2.2 hb
      clear hb
      go_wp2_with fail
      refine hK.out _ _ (tB HT.out hb_x6) (fun hHeld2 => ?_)
      clear hK K hHeld
      have hHeld := hHeld2
      clear hHeld2
      try simp only [Act.put, List.setIfInBounds_toArray, List.set_cons_zero, List.set_cons_succ]
      refine wpAnyH_take (i := 41) (oi := { dst := some 65, op := Op.binOp BinOp.neq 25 (Operand.tmp 63) (Operand.tmp 64) 25, type := 4, pos := "law.go:29", after := #[{ on := 39, ground := Ground.data }, { on := 40, ground := Ground.data }, { on := 38, ground := Ground.guard }], guard := some (38, false) }) (v := .bool false) rfl (by kernel_rfl) (by kernel_rfl) (by kernel_rfl) (fun _ _ _ h => h) (Or.inl ⟨by rfl, fun W hW => ?_⟩) hHeld ?_
      · obtain ⟨q1, q2, q3⟩ := hW
        go_simp
      simp only [Act.put, List.setIfInBounds_toArray, List.set_cons_zero, List.set_cons_succ]
      refine wpAnyH_take (i := 42) (oi := { dst := some 66, op := Op.pick (Operand.tmp 62) (Operand.const (Value.bool true)) (Operand.tmp 65), type := 4, pos := "law.go:29", after := #[{ on := 38, ground := Ground.data }, { on := 41, ground := Ground.data }], guard := none }) (v := .bool false) rfl (by kernel_rfl) (by kernel_rfl) (by kernel_rfl) (fun _ _ _ h => h) (Or.inl ⟨by rfl, fun W hW => ?_⟩) hHeld ?_
      · obtain ⟨q1, q2, q3⟩ := hW
        go_simp
      simp only [Act.put, List.setIfInBounds_toArray, List.set_cons_zero, List.set_cons_succ]
      refine wpAnyH_done (by kernel_rfl) ?_ _
      go_wp2_with fail
      go_meet
      exact ⟨rfl, hb_x6⟩
  case rest =>
  obtain ⟨rfl, hb⟩ := hcut
  have HT1 := keepd (SR.call HT.out hb.out (SR.lt HT.out))
  have HU1 := keepd (SR.call HU.out hb.out (SR.lt HU.out))
  have HB1 := keepd (bCall HB.out hb.out)
  clear hb HT HU HB HC1 HC2 HM1 HM2 HE0 HK0 HKB HZz HLv
  obtain ⟨Y, e2, hY⟩ : ∃ Y e, withF X f c = (Y, e) := ⟨_, _, rfl⟩
  have CY := keepd (with_any X f c Y e2 hY)
  have HW := keepd (with_all X f c)
  rw [hY] at HW
  clear hY
  obtain ⟨r1, k1⟩ := TB.facts HT1.out
  obtain ⟨p0, p1, p2⟩ := SR.ch HU1.out
  go_wp2_with fail
  with_reducible refine (CY.out _).mono ?_
  rintro e v2 ⟨rfl, hb⟩
  have HT2 := keepd (SR.alloc (SR.call HT1.out hb (SR.lt HT1.out)) (.cells (cs Y).toArray 25))
  have HU2 := keepd (SR.alloc (SR.call HU1.out hb (SR.lt HU1.out)) (.cells (cs Y).toArray 25))
  have HB2 := keepd (bAlloc (bCall HB1.out hb) (.cells (cs Y).toArray 25))
  have HY2 := keepd (SR.new 25 v2 (cs Y))
  clear hb r1 k1 p0 p1 p2 HT1 HU1 HB1 CY
  go_upto_region 6 with fail
  generalize v2.alloc (.cells (cs Y).toArray 25) = w2 at *
  obtain ⟨bY, hp⟩ : ∃ p, v2.heap.size = p := ⟨_, rfl⟩
  rw [hp] at HY2 ⊢
  clear hp
  obtain ⟨p0, p1, p2⟩ := SR.ch HU2.out
  rcases HW.out with ⟨hr, he⟩ | ⟨n, rfl, n0, hn, hw⟩
  · obtain ⟨rfl, rfl⟩ : Y = X ∧ e2 = 1 := by simpa using he
    obtain ⟨r1, k1⟩ := TB.facts HT2.out
    obtain ⟨r2, k2⟩ := TB.facts HY2.out
    have hs := sameT_self Y
    clear he HW
    by_cases h1 : f < 1
    · have g1 : decide (f < 1) = true := decide_eq_true h1
      go_wp2_with fail
      with_reducible refine (HA.out _ (HL.out.below HB2.out)).mono ?_
      rintro e w9 ⟨rfl, hb9⟩
      have HB9 := keepd (bCall HB2.out hb9)
      clear hb9
      go_wp2
      go_returns
      exact ⟨rfl, HB9.out⟩
    · have g1 : decide (f < 1) = false := decide_eq_false h1
      have h2 : 30 < f := by omega
      have g2 : decide (30 < f) = true := decide_eq_true h2
      have g3 : decide (f > 30) = true := decide_eq_true h2
      go_wp2_with fail
      with_reducible refine (HA.out _ (HL.out.below HB2.out)).mono ?_
      rintro e w9 ⟨rfl, hb9⟩
      have HB9 := keepd (bCall HB2.out hb9)
      clear hb9
      go_wp2
      go_returns
      exact ⟨rfl, HB9.out⟩
  have g1 : decide ((n : Int) < 1) = false := decide_eq_false (by omega)
  have g2 : decide (30 < (n : Int)) = false := decide_eq_false (by omega)
  have g3 : decide ((n : Int) > 30) = false := decide_eq_false (by omega)
  have HWn := keepd hw
  clear hw HW
  obtain ⟨r1, k1⟩ := TB.facts HT2.out
  go_upto_region 9 with fail
  clear g1 g2 g3 r1 k1 p0 p1 p2
  have HV3 := keepd (SR.new 25 w2 (cs X))
  have HT3 := keepd (SR.alloc HT2.out (.cells (cs X).toArray 25))
  have HU3 := keepd (SR.alloc HU2.out (.cells (cs X).toArray 25))
  have HY3 := keepd (SR.alloc HY2.out (.cells (cs X).toArray 25))
  have HB3 := keepd (bAlloc HB2.out (.cells (cs X).toArray 25))
  have HD0 : Hid (b0 ≠ w2.heap.size) := Nat.ne_of_lt (SR.lt HT2.out)
  have HDY : Hid (bY ≠ w2.heap.size) := Nat.ne_of_lt (SR.lt HY2.out)
  have HDw : Hid (w.heap.size ≤ w2.heap.size) := HB2.out.size
  clear HT2 HU2 HY2 HB2
  generalize w2.alloc (.cells (cs X).toArray 25) = w3 at *
  obtain ⟨bV, hp⟩ : ∃ p, w2.heap.size = p := ⟨_, rfl⟩
  rw [hp] at HV3 HD0 HDY HDw ⊢
  clear hp
  obtain ⟨p0, p1, p2⟩ := SR.ch HU3.out
  obtain ⟨d0, d1⟩ := TB.at HV3.out n hn
  have f0 := SR.frozen HV3.out (n * 2)
  have f1 := SR.frozen HV3.out (n * 2 + 1)
  have i0 : (0 : Int) ≤ (n : Int) := by omega
  have i1 : (n : Int) < 31 := by omega
  go_upto_region 10 with fail
  generalize hW4 : (w3.setCell ⟨bV, n * 2, none⟩ (.int .i64 c.lv)).setCell ⟨bV, n * 2 + 1, none⟩ (.int .u8 c.v) = w4
  obtain ⟨h1, h2, h3, h4⟩ : TB w4 b0 X ∧ TB w4 bY Y ∧ TB w4 bV (tset X n c) ∧ Below w.heap.size w w4 := by
    subst hW4
    exact ⟨SR.far (SR.far HT3.out HD0.out _) HD0.out _, SR.far (SR.far HY3.out HDY.out _) HDY.out _, TB.put HV3.out n hn c, bSet (bSet HB3.out HDw.out _) HDw.out _⟩
  clear hW4 HT3 HY3 HV3 HU3 HB3 p0 p1 p2 d0 d1 f0 f1 HD0 HDY HDw
  have hw := HWn.out
  clear HWn
  generalize tset X n c = Z at *
  obtain ⟨r3, k3⟩ := TB.facts h3
  rcases hw with ⟨hmz, he⟩ | ⟨hmz, he⟩
  · obtain ⟨rfl, rfl⟩ : Y = Z ∧ e2 = 0 := by simpa using he
    have CM := keepd (refMay_any Y true hmz)
    clear he hmz
    go_wp2_with fail
    with_reducible refine (CM.out _).mono ?_
    rintro e w5 ⟨rfl, hb⟩
    have H2 := SR.call h2 hb (SR.lt h2)
    have H3 := SR.call h3 hb (SR.lt h3)
    have HB5 := keepd (bCall h4 hb)
    clear r3 k3 hb h1 h2 h3 h4 CM
    obtain ⟨r2, k2⟩ := TB.facts H2
    obtain ⟨r3, k3⟩ := TB.facts H3
    have hs := sameT_self Y
    clear H2 H3
    go_wp2_with fail
    with_reducible refine (HA.out _ (HL.out.below HB5.out)).mono ?_
    rintro e w9 ⟨rfl, hb9⟩
    have HB9 := keepd (bCall HB5.out hb9)
    clear hb9
    go_wp2
    go_returns
    exact ⟨rfl, HB9.out⟩
  · obtain ⟨rfl, rfl⟩ : Y = X ∧ e2 = 1 := by simpa using he
    have CM := keepd (refMay_any Z false hmz)
    clear he hmz
    go_wp2_with fail
    with_reducible refine (CM.out _).mono ?_
    rintro e w5 ⟨rfl, hb⟩
    have H1 := SR.call h1 hb (SR.lt h1)
    have H2 := SR.call h2 hb (SR.lt h2)
    have HB5 := keepd (bCall h4 hb)
    clear r3 k3 hb h1 h2 h3 h4 CM
    obtain ⟨r2, k2⟩ := TB.facts H2
    obtain ⟨r3, k3⟩ := TB.facts H1
    have hs := sameT_self Y
    clear H1 H2
    go_wp2_with fail
    with_reducible refine (HA.out _ (HL.out.below HB5.out)).mono ?_
    rintro e w9 ⟨rfl, hb9⟩
    have HB9 := keepd (bCall HB5.out hb9)
    clear hb9
    go_wp2
    go_returns
    exact ⟨rfl, HB9.out⟩

end Go.Proofs.YtmjhagmniipcaaaDoor
