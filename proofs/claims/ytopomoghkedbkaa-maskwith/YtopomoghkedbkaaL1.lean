/-
  The law MaskWith. No conditions beyond those each theorem states.
-/
import Derived.Test.YtopomoghkedbkaaT7
namespace Go.Proofs.Ytopomoghkedbkaa
open Go.RowKit
set_option maxRecDepth 100000

attribute [local go_sem ↓] ex_ld23 ex_st23 ex_al23 ex_bu23 ex_eq23 ex_ne23 ex_ld45 ex_st45 ex_al45 ex_bu45
attribute [local go_sem] ptrB_at okPtr_at aggC_at agg32 agg256 isM_at eqV_m isRow_new isRow_newr World.setRow_alloc_new

theorem setM_self (X : Mk) {n : Nat} (hn : n < 256) (on : Bool) : setM (setM X n on) n on = setM X n on := has_ext fun c _ => by
  rw [has_setM _ hn, has_setM _ hn]
  split <;> rfl
theorem setM_back (X : Mk) {n : Nat} (hn : n < 256) (on : Bool) : setM (setM X n on) n (has X n) = X := has_ext fun c _ => by
  rw [has_setM _ hn, has_setM _ hn]
  split
  · rename_i e
    rw [e]
  · rfl

theorem SR.drew {t : TypeId} {W : World} {b : Nat} {cs : List Value} (h : SR t W b cs) : SR t W.drew b cs := h

/-- What the law reads: two masks, a change. -/
def SW (b3 b7 b4 : Nat) (X N : Mk) (n : Nat) (on : Bool) (V : World) : Prop :=
  (rowOf V b3 = (ms X).toArray ∧ isRow V 23 b3 32 = true) ∧ (rowOf V b7 = (ms N).toArray ∧ isRow V 23 b7 32 = true) ∧ V.cell? ⟨b4, 0, none⟩ = some (.int .u8 (n : Int)) ∧ V.cell? ⟨b4, 1, none⟩ = some (.bool on)
theorem SW.of {b3 b7 b4 : Nat} {X N : Mk} {n : Nat} {on : Bool} {w V : World} (h3 : MB w b3 X) (h7 : MB w b7 N) (h4 : SR 25 w b4 [.int .u8 (n : Int), .bool on]) (hb : Below w.heap.size w V) : SW b3 b7 b4 X N n on V :=
  ⟨MB.facts (SR.call h3 hb (SR.lt h3)), MB.facts (SR.call h7 hb (SR.lt h7)), SR.cell (SR.call h4 hb (SR.lt h4)) 0, SR.cell (SR.call h4 hb (SR.lt h4)) 1⟩

set_option maxHeartbeats 4000000 in
theorem with_law (X : Mk) (n : Nat) (on : Bool) (c : Nat) (hn : n < 256) (hc : c < 256) (w : World) : Calls Try.prog 5 #[mv X, .agg #[.int .u8 (n : Int), .bool on], .int .u8 (c : Int)] w fun e w' => e = .returned (.bool true) ∧ Below w.heap.size w w' := by
  have HA := keepd awake_any
  obtain ⟨N, hN⟩ : ∃ N, setM X n on = N := ⟨_, rfl⟩
  have C0 := keepd (with_any X n hn on)
  have C6 := keepd (with_any N n hn on)
  have C5 := keepd (with_any N n hn (has X n))
  have C4 := keepd (has_any X n hn _ rfl)
  have C1 := keepd (has_any N n hn on (by rw [← hN, has_setM X hn, if_pos rfl]))
  have C3 := keepd (has_any X c hc _ rfl)
  have C2 : Hid (c ≠ n → ∀ w, Calls Try.prog 14 #[mv N, .int .u8 (c : Int)] w fun e w' => e = .returned (.bool (has X c)) ∧ Below w.heap.size w w') := fun h => has_any N c hc _ (by rw [← hN, has_setM X hn, if_neg h])
  have e0 := setM_self X hn on
  have e1 := setM_back X hn on
  rw [hN] at C0 e0 e1
  rw [e0] at C6
  rw [e1] at C5
  clear e0 e1 hN
  generalize has X n = r at *
  generalize has X c = s at *
  go_enter Try.func5, Try.ntmps5
  go_upto_region 1 with fail
  obtain ⟨W, hW⟩ : ∃ W, (w.alloc (.cells (ms X).toArray 23)).alloc (.cells #[.int .u8 (n : Int), .bool on] 25) = W := ⟨_, rfl⟩
  obtain ⟨g1, g2, g3, g4⟩ := two_new w 23 25 (ms X) [.int .u8 (n : Int), .bool on] W hW
  rw [hW]
  obtain ⟨r1, k1⟩ := MB.facts g1
  have p0 := SR.cell g2 0
  have p1 := SR.cell g2 1
  simp only [List.getElem?_cons_zero, List.getElem?_cons_succ] at p0 p1
  have G1 := keepd g1
  have G2 := keepd g2
  have G3 := keepd g3
  clear hW g1 g2 g3 g4
  go_upto_region 2 with (with_reducible refine (C0.out _).mono ?_; rintro e w1 ⟨rfl, hb1⟩)
  obtain ⟨W1, hV⟩ : ∃ V, w1.alloc (.cells (ms N).toArray 23) = V := ⟨_, rfl⟩
  obtain ⟨m1, q1⟩ := new_m _ _ _ hV
  rw [hV]
  have hb := bCall hb1 q1
  have M3 := keepd (SR.call G1.out hb (SR.lt G1.out))
  have M4 := keepd (SR.call G2.out hb (SR.lt G2.out))
  have HB := keepd (bCall G3.out hb)
  have M7 := keepd m1
  obtain ⟨b7, hp⟩ : ∃ b, w1.heap.size = b := ⟨_, rfl⟩
  rw [hp] at M7 ⊢
  obtain ⟨b4, hp4⟩ : ∃ b, w.heap.size + 1 = b := ⟨_, rfl⟩
  rw [hp4] at M4 ⊢
  obtain ⟨b3, hp3⟩ : ∃ b, w.heap.size = b := ⟨_, rfl⟩
  rw [hp3] at M3 ⊢
  clear hV hp hp3 hp4 m1 q1 hb hb1 r1 k1 p0 p1 G1 G2 G3 C0
  go_cut [36] from 15 to 35 (fun s wz => s = .bool false ∧ Hid (Below W1.heap.size W1 wz))
  case first =>
    by_cases hcn : c = n
    · have h2 := hcn.symm
      subst h2
      refine wp_region_held_drew (S := SW b3 b7 b4 X N n on) (by kernel_rfl) (SW.of M3.out M7.out M4.out (Below.refl _ _).drew) (fun hHeld => ?_)
      refine wpAnyH_take (i := 0) (oi := { dst := some 15, op := Op.load 23 (Operand.tmp 7), type := 23, pos := "law.go:60", after := #[], guard := none }) (v := mv N) rfl (by kernel_rfl) (by kernel_rfl) (by kernel_rfl) (fun _ _ _ h => h) (Or.inl ⟨by rfl, fun W hW => ?_⟩) hHeld ?_
      · obtain ⟨⟨q1, q2⟩, ⟨q3, q4⟩, q5, q6⟩ := hW
        go_simp
      simp only [Act.put, List.setIfInBounds_toArray, List.set_cons_zero, List.set_cons_succ]
      refine wpAnyH_take (i := 1) (oi := { dst := some 16, op := Op.fieldAddr 25 (Operand.tmp 4) 0, type := 0, pos := "law.go:60", after := #[], guard := none }) (v := .pointer (some ⟨b4, 0, none⟩)) rfl (by kernel_rfl) (by kernel_rfl) (by kernel_rfl) (fun _ _ _ h => h) (Or.inl ⟨by rfl, fun W hW => ?_⟩) hHeld ?_
      · obtain ⟨⟨q1, q2⟩, ⟨q3, q4⟩, q5, q6⟩ := hW
        go_simp
      simp only [Act.put, List.setIfInBounds_toArray, List.set_cons_zero, List.set_cons_succ]
      refine wpAnyH_take (i := 2) (oi := { dst := some 17, op := Op.load 5 (Operand.tmp 16), type := 5, pos := "law.go:60", after := #[{ on := 1, ground := Ground.data }], guard := none }) (v := .int .u8 (n : Int)) rfl (by kernel_rfl) (by kernel_rfl) (by kernel_rfl) (fun _ _ _ h => h) (Or.inl ⟨by rfl, fun W hW => ?_⟩) hHeld ?_
      · obtain ⟨⟨q1, q2⟩, ⟨q3, q4⟩, q5, q6⟩ := hW
        go_simp
      simp only [Act.put, List.setIfInBounds_toArray, List.set_cons_zero, List.set_cons_succ]
      refine wpAnyH_take (i := 4) (oi := { dst := some 19, op := Op.fieldAddr 25 (Operand.tmp 4) 1, type := 0, pos := "law.go:60", after := #[], guard := none }) (v := .pointer (some ⟨b4, 1, none⟩)) rfl (by kernel_rfl) (by kernel_rfl) (by kernel_rfl) (fun _ _ _ h => h) (Or.inl ⟨by rfl, fun W hW => ?_⟩) hHeld ?_
      · obtain ⟨⟨q1, q2⟩, ⟨q3, q4⟩, q5, q6⟩ := hW
        go_simp
      simp only [Act.put, List.setIfInBounds_toArray, List.set_cons_zero, List.set_cons_succ]
      refine wpAnyH_take (i := 5) (oi := { dst := some 20, op := Op.load 4 (Operand.tmp 19), type := 4, pos := "law.go:60", after := #[{ on := 4, ground := Ground.data }], guard := none }) (v := .bool on) rfl (by kernel_rfl) (by kernel_rfl) (by kernel_rfl) (fun _ _ _ h => h) (Or.inl ⟨by rfl, fun W hW => ?_⟩) hHeld ?_
      · obtain ⟨⟨q1, q2⟩, ⟨q3, q4⟩, q5, q6⟩ := hW
        go_simp
      simp only [Act.put, List.setIfInBounds_toArray, List.set_cons_zero, List.set_cons_succ]
      refine wpAnyH_ready (rs := [3]) (by kernel_rfl) (by simp) ?_
      refine AllReadyH.cons (o := { dst := some 18, op := Op.call { callee := Callee.value (Operand.func 14), args := #[Operand.tmp 15, Operand.tmp 17], argTypes := #[23, 5] }, type := 4, pos := "law.go:60", after := #[{ on := 0, ground := Ground.data }, { on := 2, ground := Ground.data }], guard := none }) rfl (fun K hK => ?_) AllReadyH.nil
      go_simp
      with_reducible refine (C1.out _).mono ?_
      rintro e w2 ⟨rfl, hb2⟩
      have z2 := noDrew hb2
      go_wp2_with fail
      refine hK.out _ _ (SW.of M3.out M7.out M4.out z2) (fun hHeld2 => ?_)
      clear hK K hHeld
      have hHeld := hHeld2
      clear hHeld2
      try simp only [Act.put, List.setIfInBounds_toArray, List.set_cons_zero, List.set_cons_succ]
      refine wpAnyH_take (i := 6) (oi := { dst := some 21, op := Op.binOp BinOp.neq 4 (Operand.tmp 18) (Operand.tmp 20) 4, type := 4, pos := "law.go:60", after := #[{ on := 3, ground := Ground.data }, { on := 5, ground := Ground.data }], guard := none }) (v := .bool false) rfl (by kernel_rfl) (by kernel_rfl) (by kernel_rfl) (fun _ _ _ h => h) (Or.inl ⟨by rfl, fun W hW => ?_⟩) hHeld ?_
      · obtain ⟨⟨q1, q2⟩, ⟨q3, q4⟩, q5, q6⟩ := hW
        go_simp
      simp only [Act.put, List.setIfInBounds_toArray, List.set_cons_zero, List.set_cons_succ]
      refine wpAnyH_take (i := 7) (oi := { dst := some 22, op := Op.move (Operand.tmp 21), type := 4, pos := "law.go:60", after := #[{ on := 6, ground := Ground.data }, { on := 3, ground := Ground.chain }], guard := none }) (v := .bool false) rfl (by kernel_rfl) (by kernel_rfl) (by kernel_rfl) (fun _ _ _ h => h) (Or.inl ⟨by rfl, fun W hW => ?_⟩) hHeld ?_
      · obtain ⟨⟨q1, q2⟩, ⟨q3, q4⟩, q5, q6⟩ := hW
        go_simp
      simp only [Act.put, List.setIfInBounds_toArray, List.set_cons_zero, List.set_cons_succ]
      refine wpAnyH_take (i := 8) (oi := { dst := some 23, op := Op.move (Operand.tmp 2), type := 5, pos := "law.go:60", after := #[{ on := 7, ground := Ground.guard }], guard := some (7, false) }) (v := .int .u8 (n : Int)) rfl (by kernel_rfl) (by kernel_rfl) (by kernel_rfl) (fun _ _ _ h => h) (Or.inl ⟨by rfl, fun W hW => ?_⟩) hHeld ?_
      · obtain ⟨⟨q1, q2⟩, ⟨q3, q4⟩, q5, q6⟩ := hW
        go_simp
      simp only [Act.put, List.setIfInBounds_toArray, List.set_cons_zero, List.set_cons_succ]
      refine wpAnyH_take (i := 9) (oi := { dst := some 24, op := Op.fieldAddr 25 (Operand.tmp 4) 0, type := 0, pos := "law.go:60", after := #[{ on := 7, ground := Ground.guard }], guard := some (7, false) }) (v := .pointer (some ⟨b4, 0, none⟩)) rfl (by kernel_rfl) (by kernel_rfl) (by kernel_rfl) (fun _ _ _ h => h) (Or.inl ⟨by rfl, fun W hW => ?_⟩) hHeld ?_
      · obtain ⟨⟨q1, q2⟩, ⟨q3, q4⟩, q5, q6⟩ := hW
        go_simp
      simp only [Act.put, List.setIfInBounds_toArray, List.set_cons_zero, List.set_cons_succ]
      refine wpAnyH_take (i := 10) (oi := { dst := some 25, op := Op.load 5 (Operand.tmp 24), type := 5, pos := "law.go:60", after := #[{ on := 9, ground := Ground.data }, { on := 7, ground := Ground.guard }], guard := some (7, false) }) (v := .int .u8 (n : Int)) rfl (by kernel_rfl) (by kernel_rfl) (by kernel_rfl) (fun _ _ _ h => h) (Or.inl ⟨by rfl, fun W hW => ?_⟩) hHeld ?_
      · obtain ⟨⟨q1, q2⟩, ⟨q3, q4⟩, q5, q6⟩ := hW
        go_simp
      simp only [Act.put, List.setIfInBounds_toArray, List.set_cons_zero, List.set_cons_succ]
      refine wpAnyH_take (i := 11) (oi := { dst := some 26, op := Op.binOp BinOp.neq 5 (Operand.tmp 23) (Operand.tmp 25) 5, type := 4, pos := "law.go:60", after := #[{ on := 8, ground := Ground.data }, { on := 10, ground := Ground.data }, { on := 7, ground := Ground.guard }], guard := some (7, false) }) (v := .bool false) rfl (by kernel_rfl) (by kernel_rfl) (by kernel_rfl) (fun _ _ _ h => h) (Or.inl ⟨by rfl, fun W hW => ?_⟩) hHeld ?_
      · obtain ⟨⟨q1, q2⟩, ⟨q3, q4⟩, q5, q6⟩ := hW
        go_simp
      simp only [Act.put, List.setIfInBounds_toArray, List.set_cons_zero, List.set_cons_succ]
      refine wpAnyH_take (i := 12) (oi := { dst := some 27, op := Op.move (Operand.tmp 26), type := 4, pos := "law.go:60", after := #[{ on := 11, ground := Ground.data }, { on := 7, ground := Ground.chain }, { on := 7, ground := Ground.guard }], guard := some (7, false) }) (v := .bool false) rfl (by kernel_rfl) (by kernel_rfl) (by kernel_rfl) (fun _ _ _ h => h) (Or.inl ⟨by rfl, fun W hW => ?_⟩) hHeld ?_
      · obtain ⟨⟨q1, q2⟩, ⟨q3, q4⟩, q5, q6⟩ := hW
        go_simp
      simp only [Act.put, List.setIfInBounds_toArray, List.set_cons_zero, List.set_cons_succ]
      refine wpAnyH_take (i := 13) (oi := { dst := some 28, op := Op.load 23 (Operand.tmp 7), type := 23, pos := "law.go:60", after := #[{ on := 12, ground := Ground.guard }], guard := some (12, true) }) (v := undef) rfl (by kernel_rfl) (by kernel_rfl) (by kernel_rfl) (fun _ _ _ h => h) (Or.inr ⟨by rfl, rfl⟩) hHeld ?_
      simp only [Act.put, List.setIfInBounds_toArray, List.set_cons_zero, List.set_cons_succ]
      refine wpAnyH_take (i := 14) (oi := { dst := some 29, op := Op.move (Operand.tmp 2), type := 5, pos := "law.go:60", after := #[{ on := 12, ground := Ground.guard }], guard := some (12, true) }) (v := undef) rfl (by kernel_rfl) (by kernel_rfl) (by kernel_rfl) (fun _ _ _ h => h) (Or.inr ⟨by rfl, rfl⟩) hHeld ?_
      simp only [Act.put, List.setIfInBounds_toArray, List.set_cons_zero, List.set_cons_succ]
      refine wpAnyH_take (i := 15) (oi := { dst := some 30, op := Op.call { callee := Callee.value (Operand.func 14), args := #[Operand.tmp 28, Operand.tmp 29], argTypes := #[23, 5] }, type := 4, pos := "law.go:60", after := #[{ on := 13, ground := Ground.data }, { on := 14, ground := Ground.data }, { on := 12, ground := Ground.chain }, { on := 12, ground := Ground.guard }], guard := some (12, true) }) (v := undef) rfl (by kernel_rfl) (by kernel_rfl) (by kernel_rfl) (fun _ _ _ h => h) (Or.inr ⟨by rfl, rfl⟩) hHeld ?_
      simp only [Act.put, List.setIfInBounds_toArray, List.set_cons_zero, List.set_cons_succ]
      refine wpAnyH_take (i := 16) (oi := { dst := some 31, op := Op.load 23 (Operand.tmp 3), type := 23, pos := "law.go:60", after := #[{ on := 12, ground := Ground.guard }], guard := some (12, true) }) (v := undef) rfl (by kernel_rfl) (by kernel_rfl) (by kernel_rfl) (fun _ _ _ h => h) (Or.inr ⟨by rfl, rfl⟩) hHeld ?_
      simp only [Act.put, List.setIfInBounds_toArray, List.set_cons_zero, List.set_cons_succ]
      refine wpAnyH_take (i := 17) (oi := { dst := some 32, op := Op.move (Operand.tmp 2), type := 5, pos := "law.go:60", after := #[{ on := 12, ground := Ground.guard }], guard := some (12, true) }) (v := undef) rfl (by kernel_rfl) (by kernel_rfl) (by kernel_rfl) (fun _ _ _ h => h) (Or.inr ⟨by rfl, rfl⟩) hHeld ?_
      simp only [Act.put, List.setIfInBounds_toArray, List.set_cons_zero, List.set_cons_succ]
      refine wpAnyH_take (i := 18) (oi := { dst := some 33, op := Op.call { callee := Callee.value (Operand.func 14), args := #[Operand.tmp 31, Operand.tmp 32], argTypes := #[23, 5] }, type := 4, pos := "law.go:60", after := #[{ on := 16, ground := Ground.data }, { on := 17, ground := Ground.data }, { on := 15, ground := Ground.chain }, { on := 12, ground := Ground.guard }], guard := some (12, true) }) (v := undef) rfl (by kernel_rfl) (by kernel_rfl) (by kernel_rfl) (fun _ _ _ h => h) (Or.inr ⟨by rfl, rfl⟩) hHeld ?_
      simp only [Act.put, List.setIfInBounds_toArray, List.set_cons_zero, List.set_cons_succ]
      refine wpAnyH_take (i := 19) (oi := { dst := some 34, op := Op.binOp BinOp.neq 4 (Operand.tmp 30) (Operand.tmp 33) 4, type := 4, pos := "law.go:60", after := #[{ on := 15, ground := Ground.data }, { on := 18, ground := Ground.data }, { on := 12, ground := Ground.guard }], guard := some (12, true) }) (v := undef) rfl (by kernel_rfl) (by kernel_rfl) (by kernel_rfl) (fun _ _ _ h => h) (Or.inr ⟨by rfl, rfl⟩) hHeld ?_
      simp only [Act.put, List.setIfInBounds_toArray, List.set_cons_zero, List.set_cons_succ]
      refine wpAnyH_take (i := 20) (oi := { dst := some 35, op := Op.pick (Operand.tmp 27) (Operand.tmp 34) (Operand.const (Value.bool false)), type := 4, pos := "law.go:60", after := #[{ on := 12, ground := Ground.data }, { on := 19, ground := Ground.data }, { on := 7, ground := Ground.guard }], guard := some (7, false) }) (v := .bool false) rfl (by kernel_rfl) (by kernel_rfl) (by kernel_rfl) (fun _ _ _ h => h) (Or.inl ⟨by rfl, fun W hW => ?_⟩) hHeld ?_
      · obtain ⟨⟨q1, q2⟩, ⟨q3, q4⟩, q5, q6⟩ := hW
        go_simp
      simp only [Act.put, List.setIfInBounds_toArray, List.set_cons_zero, List.set_cons_succ]
      refine wpAnyH_take (i := 21) (oi := { dst := some 36, op := Op.pick (Operand.tmp 22) (Operand.const (Value.bool true)) (Operand.tmp 35), type := 4, pos := "law.go:60", after := #[{ on := 7, ground := Ground.data }, { on := 20, ground := Ground.data }], guard := none }) (v := .bool false) rfl (by kernel_rfl) (by kernel_rfl) (by kernel_rfl) (fun _ _ _ h => h) (Or.inl ⟨by rfl, fun W hW => ?_⟩) hHeld ?_
      · obtain ⟨⟨q1, q2⟩, ⟨q3, q4⟩, q5, q6⟩ := hW
        go_simp
      simp only [Act.put, List.setIfInBounds_toArray, List.set_cons_zero, List.set_cons_succ]
      refine wpAnyH_done (by kernel_rfl) ?_ _
      go_wp2_with fail
      go_meet
      exact ⟨rfl, z2⟩
    · have C2 := keepd (C2.out hcn)
      have g1 : ((c : Int) == (n : Int)) = false := by simp; omega
      have g2 : ((c : Int) != (n : Int)) = true := by rw [bne, g1]; rfl
      have g3 : ¬ (c : Int) = (n : Int) := by omega
      refine wp_region_held_drew (S := SW b3 b7 b4 X N n on) (by kernel_rfl) (SW.of M3.out M7.out M4.out (Below.refl _ _).drew) (fun hHeld => ?_)
      refine wpAnyH_take (i := 0) (oi := { dst := some 15, op := Op.load 23 (Operand.tmp 7), type := 23, pos := "law.go:60", after := #[], guard := none }) (v := mv N) rfl (by kernel_rfl) (by kernel_rfl) (by kernel_rfl) (fun _ _ _ h => h) (Or.inl ⟨by rfl, fun W hW => ?_⟩) hHeld ?_
      · obtain ⟨⟨q1, q2⟩, ⟨q3, q4⟩, q5, q6⟩ := hW
        go_simp
      simp only [Act.put, List.setIfInBounds_toArray, List.set_cons_zero, List.set_cons_succ]
      refine wpAnyH_take (i := 1) (oi := { dst := some 16, op := Op.fieldAddr 25 (Operand.tmp 4) 0, type := 0, pos := "law.go:60", after := #[], guard := none }) (v := .pointer (some ⟨b4, 0, none⟩)) rfl (by kernel_rfl) (by kernel_rfl) (by kernel_rfl) (fun _ _ _ h => h) (Or.inl ⟨by rfl, fun W hW => ?_⟩) hHeld ?_
      · obtain ⟨⟨q1, q2⟩, ⟨q3, q4⟩, q5, q6⟩ := hW
        go_simp
      simp only [Act.put, List.setIfInBounds_toArray, List.set_cons_zero, List.set_cons_succ]
      refine wpAnyH_take (i := 2) (oi := { dst := some 17, op := Op.load 5 (Operand.tmp 16), type := 5, pos := "law.go:60", after := #[{ on := 1, ground := Ground.data }], guard := none }) (v := .int .u8 (n : Int)) rfl (by kernel_rfl) (by kernel_rfl) (by kernel_rfl) (fun _ _ _ h => h) (Or.inl ⟨by rfl, fun W hW => ?_⟩) hHeld ?_
      · obtain ⟨⟨q1, q2⟩, ⟨q3, q4⟩, q5, q6⟩ := hW
        go_simp
      simp only [Act.put, List.setIfInBounds_toArray, List.set_cons_zero, List.set_cons_succ]
      refine wpAnyH_take (i := 4) (oi := { dst := some 19, op := Op.fieldAddr 25 (Operand.tmp 4) 1, type := 0, pos := "law.go:60", after := #[], guard := none }) (v := .pointer (some ⟨b4, 1, none⟩)) rfl (by kernel_rfl) (by kernel_rfl) (by kernel_rfl) (fun _ _ _ h => h) (Or.inl ⟨by rfl, fun W hW => ?_⟩) hHeld ?_
      · obtain ⟨⟨q1, q2⟩, ⟨q3, q4⟩, q5, q6⟩ := hW
        go_simp
      simp only [Act.put, List.setIfInBounds_toArray, List.set_cons_zero, List.set_cons_succ]
      refine wpAnyH_take (i := 5) (oi := { dst := some 20, op := Op.load 4 (Operand.tmp 19), type := 4, pos := "law.go:60", after := #[{ on := 4, ground := Ground.data }], guard := none }) (v := .bool on) rfl (by kernel_rfl) (by kernel_rfl) (by kernel_rfl) (fun _ _ _ h => h) (Or.inl ⟨by rfl, fun W hW => ?_⟩) hHeld ?_
      · obtain ⟨⟨q1, q2⟩, ⟨q3, q4⟩, q5, q6⟩ := hW
        go_simp
      simp only [Act.put, List.setIfInBounds_toArray, List.set_cons_zero, List.set_cons_succ]
      refine wpAnyH_ready (rs := [3]) (by kernel_rfl) (by simp) ?_
      refine AllReadyH.cons (o := { dst := some 18, op := Op.call { callee := Callee.value (Operand.func 14), args := #[Operand.tmp 15, Operand.tmp 17], argTypes := #[23, 5] }, type := 4, pos := "law.go:60", after := #[{ on := 0, ground := Ground.data }, { on := 2, ground := Ground.data }], guard := none }) rfl (fun K hK => ?_) AllReadyH.nil
      go_simp
      with_reducible refine (C1.out _).mono ?_
      rintro e w2 ⟨rfl, hb2⟩
      have z2 := noDrew hb2
      go_wp2_with fail
      refine hK.out _ _ (SW.of M3.out M7.out M4.out z2) (fun hHeld2 => ?_)
      clear hK K hHeld
      have hHeld := hHeld2
      clear hHeld2
      try simp only [Act.put, List.setIfInBounds_toArray, List.set_cons_zero, List.set_cons_succ]
      refine wpAnyH_take (i := 6) (oi := { dst := some 21, op := Op.binOp BinOp.neq 4 (Operand.tmp 18) (Operand.tmp 20) 4, type := 4, pos := "law.go:60", after := #[{ on := 3, ground := Ground.data }, { on := 5, ground := Ground.data }], guard := none }) (v := .bool false) rfl (by kernel_rfl) (by kernel_rfl) (by kernel_rfl) (fun _ _ _ h => h) (Or.inl ⟨by rfl, fun W hW => ?_⟩) hHeld ?_
      · obtain ⟨⟨q1, q2⟩, ⟨q3, q4⟩, q5, q6⟩ := hW
        go_simp
      simp only [Act.put, List.setIfInBounds_toArray, List.set_cons_zero, List.set_cons_succ]
      refine wpAnyH_take (i := 7) (oi := { dst := some 22, op := Op.move (Operand.tmp 21), type := 4, pos := "law.go:60", after := #[{ on := 6, ground := Ground.data }, { on := 3, ground := Ground.chain }], guard := none }) (v := .bool false) rfl (by kernel_rfl) (by kernel_rfl) (by kernel_rfl) (fun _ _ _ h => h) (Or.inl ⟨by rfl, fun W hW => ?_⟩) hHeld ?_
      · obtain ⟨⟨q1, q2⟩, ⟨q3, q4⟩, q5, q6⟩ := hW
        go_simp
      simp only [Act.put, List.setIfInBounds_toArray, List.set_cons_zero, List.set_cons_succ]
      refine wpAnyH_take (i := 8) (oi := { dst := some 23, op := Op.move (Operand.tmp 2), type := 5, pos := "law.go:60", after := #[{ on := 7, ground := Ground.guard }], guard := some (7, false) }) (v := .int .u8 (c : Int)) rfl (by kernel_rfl) (by kernel_rfl) (by kernel_rfl) (fun _ _ _ h => h) (Or.inl ⟨by rfl, fun W hW => ?_⟩) hHeld ?_
      · obtain ⟨⟨q1, q2⟩, ⟨q3, q4⟩, q5, q6⟩ := hW
        go_simp
      simp only [Act.put, List.setIfInBounds_toArray, List.set_cons_zero, List.set_cons_succ]
      refine wpAnyH_take (i := 9) (oi := { dst := some 24, op := Op.fieldAddr 25 (Operand.tmp 4) 0, type := 0, pos := "law.go:60", after := #[{ on := 7, ground := Ground.guard }], guard := some (7, false) }) (v := .pointer (some ⟨b4, 0, none⟩)) rfl (by kernel_rfl) (by kernel_rfl) (by kernel_rfl) (fun _ _ _ h => h) (Or.inl ⟨by rfl, fun W hW => ?_⟩) hHeld ?_
      · obtain ⟨⟨q1, q2⟩, ⟨q3, q4⟩, q5, q6⟩ := hW
        go_simp
      simp only [Act.put, List.setIfInBounds_toArray, List.set_cons_zero, List.set_cons_succ]
      refine wpAnyH_take (i := 10) (oi := { dst := some 25, op := Op.load 5 (Operand.tmp 24), type := 5, pos := "law.go:60", after := #[{ on := 9, ground := Ground.data }, { on := 7, ground := Ground.guard }], guard := some (7, false) }) (v := .int .u8 (n : Int)) rfl (by kernel_rfl) (by kernel_rfl) (by kernel_rfl) (fun _ _ _ h => h) (Or.inl ⟨by rfl, fun W hW => ?_⟩) hHeld ?_
      · obtain ⟨⟨q1, q2⟩, ⟨q3, q4⟩, q5, q6⟩ := hW
        go_simp
      simp only [Act.put, List.setIfInBounds_toArray, List.set_cons_zero, List.set_cons_succ]
      refine wpAnyH_take (i := 11) (oi := { dst := some 26, op := Op.binOp BinOp.neq 5 (Operand.tmp 23) (Operand.tmp 25) 5, type := 4, pos := "law.go:60", after := #[{ on := 8, ground := Ground.data }, { on := 10, ground := Ground.data }, { on := 7, ground := Ground.guard }], guard := some (7, false) }) (v := .bool true) rfl (by kernel_rfl) (by kernel_rfl) (by kernel_rfl) (fun _ _ _ h => h) (Or.inl ⟨by rfl, fun W hW => ?_⟩) hHeld ?_
      · obtain ⟨⟨q1, q2⟩, ⟨q3, q4⟩, q5, q6⟩ := hW
        go_simp
      simp only [Act.put, List.setIfInBounds_toArray, List.set_cons_zero, List.set_cons_succ]
      refine wpAnyH_take (i := 12) (oi := { dst := some 27, op := Op.move (Operand.tmp 26), type := 4, pos := "law.go:60", after := #[{ on := 11, ground := Ground.data }, { on := 7, ground := Ground.chain }, { on := 7, ground := Ground.guard }], guard := some (7, false) }) (v := .bool true) rfl (by kernel_rfl) (by kernel_rfl) (by kernel_rfl) (fun _ _ _ h => h) (Or.inl ⟨by rfl, fun W hW => ?_⟩) hHeld ?_
      · obtain ⟨⟨q1, q2⟩, ⟨q3, q4⟩, q5, q6⟩ := hW
        go_simp
      simp only [Act.put, List.setIfInBounds_toArray, List.set_cons_zero, List.set_cons_succ]
      refine wpAnyH_take (i := 13) (oi := { dst := some 28, op := Op.load 23 (Operand.tmp 7), type := 23, pos := "law.go:60", after := #[{ on := 12, ground := Ground.guard }], guard := some (12, true) }) (v := mv N) rfl (by kernel_rfl) (by kernel_rfl) (by kernel_rfl) (fun _ _ _ h => h) (Or.inl ⟨by rfl, fun W hW => ?_⟩) hHeld ?_
      · obtain ⟨⟨q1, q2⟩, ⟨q3, q4⟩, q5, q6⟩ := hW
        go_simp
      simp only [Act.put, List.setIfInBounds_toArray, List.set_cons_zero, List.set_cons_succ]
      refine wpAnyH_take (i := 14) (oi := { dst := some 29, op := Op.move (Operand.tmp 2), type := 5, pos := "law.go:60", after := #[{ on := 12, ground := Ground.guard }], guard := some (12, true) }) (v := .int .u8 (c : Int)) rfl (by kernel_rfl) (by kernel_rfl) (by kernel_rfl) (fun _ _ _ h => h) (Or.inl ⟨by rfl, fun W hW => ?_⟩) hHeld ?_
      · obtain ⟨⟨q1, q2⟩, ⟨q3, q4⟩, q5, q6⟩ := hW
        go_simp
      simp only [Act.put, List.setIfInBounds_toArray, List.set_cons_zero, List.set_cons_succ]
      refine wpAnyH_take (i := 16) (oi := { dst := some 31, op := Op.load 23 (Operand.tmp 3), type := 23, pos := "law.go:60", after := #[{ on := 12, ground := Ground.guard }], guard := some (12, true) }) (v := mv X) rfl (by kernel_rfl) (by kernel_rfl) (by kernel_rfl) (fun _ _ _ h => h) (Or.inl ⟨by rfl, fun W hW => ?_⟩) hHeld ?_
      · obtain ⟨⟨q1, q2⟩, ⟨q3, q4⟩, q5, q6⟩ := hW
        go_simp
      simp only [Act.put, List.setIfInBounds_toArray, List.set_cons_zero, List.set_cons_succ]
      refine wpAnyH_take (i := 17) (oi := { dst := some 32, op := Op.move (Operand.tmp 2), type := 5, pos := "law.go:60", after := #[{ on := 12, ground := Ground.guard }], guard := some (12, true) }) (v := .int .u8 (c : Int)) rfl (by kernel_rfl) (by kernel_rfl) (by kernel_rfl) (fun _ _ _ h => h) (Or.inl ⟨by rfl, fun W hW => ?_⟩) hHeld ?_
      · obtain ⟨⟨q1, q2⟩, ⟨q3, q4⟩, q5, q6⟩ := hW
        go_simp
      simp only [Act.put, List.setIfInBounds_toArray, List.set_cons_zero, List.set_cons_succ]
      refine wpAnyH_ready (rs := [15]) (by kernel_rfl) (by simp) ?_
      refine AllReadyH.cons (o := { dst := some 30, op := Op.call { callee := Callee.value (Operand.func 14), args := #[Operand.tmp 28, Operand.tmp 29], argTypes := #[23, 5] }, type := 4, pos := "law.go:60", after := #[{ on := 13, ground := Ground.data }, { on := 14, ground := Ground.data }, { on := 12, ground := Ground.chain }, { on := 12, ground := Ground.guard }], guard := some (12, true) }) rfl (fun K hK => ?_) AllReadyH.nil
      go_simp
      with_reducible refine (C2.out _).mono ?_
      rintro e w3 ⟨rfl, hb3⟩
      have z3 := bCall z2 hb3
      go_wp2_with fail
      refine hK.out _ _ (SW.of M3.out M7.out M4.out z3) (fun hHeld2 => ?_)
      clear hK K hHeld
      have hHeld := hHeld2
      clear hHeld2
      try simp only [Act.put, List.setIfInBounds_toArray, List.set_cons_zero, List.set_cons_succ]
      refine wpAnyH_ready (rs := [18]) (by kernel_rfl) (by simp) ?_
      refine AllReadyH.cons (o := { dst := some 33, op := Op.call { callee := Callee.value (Operand.func 14), args := #[Operand.tmp 31, Operand.tmp 32], argTypes := #[23, 5] }, type := 4, pos := "law.go:60", after := #[{ on := 16, ground := Ground.data }, { on := 17, ground := Ground.data }, { on := 15, ground := Ground.chain }, { on := 12, ground := Ground.guard }], guard := some (12, true) }) rfl (fun K hK => ?_) AllReadyH.nil
      go_simp
      with_reducible refine (C3.out _).mono ?_
      rintro e w4 ⟨rfl, hb4⟩
      have z4 := bCall z3 hb4
      go_wp2_with fail
      refine hK.out _ _ (SW.of M3.out M7.out M4.out z4) (fun hHeld2 => ?_)
      clear hK K hHeld
      have hHeld := hHeld2
      clear hHeld2
      try simp only [Act.put, List.setIfInBounds_toArray, List.set_cons_zero, List.set_cons_succ]
      refine wpAnyH_take (i := 19) (oi := { dst := some 34, op := Op.binOp BinOp.neq 4 (Operand.tmp 30) (Operand.tmp 33) 4, type := 4, pos := "law.go:60", after := #[{ on := 15, ground := Ground.data }, { on := 18, ground := Ground.data }, { on := 12, ground := Ground.guard }], guard := some (12, true) }) (v := .bool false) rfl (by kernel_rfl) (by kernel_rfl) (by kernel_rfl) (fun _ _ _ h => h) (Or.inl ⟨by rfl, fun W hW => ?_⟩) hHeld ?_
      · obtain ⟨⟨q1, q2⟩, ⟨q3, q4⟩, q5, q6⟩ := hW
        go_simp
      simp only [Act.put, List.setIfInBounds_toArray, List.set_cons_zero, List.set_cons_succ]
      refine wpAnyH_take (i := 20) (oi := { dst := some 35, op := Op.pick (Operand.tmp 27) (Operand.tmp 34) (Operand.const (Value.bool false)), type := 4, pos := "law.go:60", after := #[{ on := 12, ground := Ground.data }, { on := 19, ground := Ground.data }, { on := 7, ground := Ground.guard }], guard := some (7, false) }) (v := .bool false) rfl (by kernel_rfl) (by kernel_rfl) (by kernel_rfl) (fun _ _ _ h => h) (Or.inl ⟨by rfl, fun W hW => ?_⟩) hHeld ?_
      · obtain ⟨⟨q1, q2⟩, ⟨q3, q4⟩, q5, q6⟩ := hW
        go_simp
      simp only [Act.put, List.setIfInBounds_toArray, List.set_cons_zero, List.set_cons_succ]
      refine wpAnyH_take (i := 21) (oi := { dst := some 36, op := Op.pick (Operand.tmp 22) (Operand.const (Value.bool true)) (Operand.tmp 35), type := 4, pos := "law.go:60", after := #[{ on := 7, ground := Ground.data }, { on := 20, ground := Ground.data }], guard := none }) (v := .bool false) rfl (by kernel_rfl) (by kernel_rfl) (by kernel_rfl) (fun _ _ _ h => h) (Or.inl ⟨by rfl, fun W hW => ?_⟩) hHeld ?_
      · obtain ⟨⟨q1, q2⟩, ⟨q3, q4⟩, q5, q6⟩ := hW
        go_simp
      simp only [Act.put, List.setIfInBounds_toArray, List.set_cons_zero, List.set_cons_succ]
      refine wpAnyH_done (by kernel_rfl) ?_ _
      go_wp2_with fail
      go_meet
      exact ⟨rfl, z4⟩
  case rest =>
    obtain ⟨w5, rfl⟩ : ∃ W, W = wc := ⟨_, rfl⟩
    obtain ⟨rfl, hz⟩ := hcut
    have hz2 := hz.out
    have N3 := keepd (SR.call M3.out hz2 (SR.lt M3.out))
    have N7 := keepd (SR.call M7.out hz2 (SR.lt M7.out))
    have N4 := keepd (SR.call M4.out hz2 (SR.lt M4.out))
    have HB5 := keepd (bCall HB.out hz2)
    clear hz hz2 M3 M7 M4 HB C1 C2 C3
    go_upto_region 4 with fail
    go_cut [8] from 37 to 44 (fun s wz => ∃ b8 : Nat, s = .pointer (some ⟨b8, 0, none⟩) ∧ Hid (MB wz b8 X) ∧ Hid (w5.heap.size ≤ b8) ∧ Hid (Below w5.heap.size w5 wz))
    case first =>
      refine wp_region_held_drew (S := SW b3 b7 b4 X N n on) (by kernel_rfl) (SW.of N3.out N7.out N4.out (Below.refl _ _).drew) (fun hHeld => ?_)
      refine wpAnyH_take (i := 0) (oi := { dst := some 37, op := Op.load 23 (Operand.tmp 7), type := 23, pos := "law.go:63", after := #[], guard := none }) (v := mv N) rfl (by kernel_rfl) (by kernel_rfl) (by kernel_rfl) (fun _ _ _ h => h) (Or.inl ⟨by rfl, fun W hW => ?_⟩) hHeld ?_
      · obtain ⟨⟨q1, q2⟩, ⟨q3, q4⟩, q5, q6⟩ := hW
        go_simp
      simp only [Act.put, List.setIfInBounds_toArray, List.set_cons_zero, List.set_cons_succ]
      refine wpAnyH_take (i := 1) (oi := { dst := some 38, op := Op.fieldAddr 25 (Operand.tmp 4) 0, type := 0, pos := "law.go:63", after := #[], guard := none }) (v := .pointer (some ⟨b4, 0, none⟩)) rfl (by kernel_rfl) (by kernel_rfl) (by kernel_rfl) (fun _ _ _ h => h) (Or.inl ⟨by rfl, fun W hW => ?_⟩) hHeld ?_
      · obtain ⟨⟨q1, q2⟩, ⟨q3, q4⟩, q5, q6⟩ := hW
        go_simp
      simp only [Act.put, List.setIfInBounds_toArray, List.set_cons_zero, List.set_cons_succ]
      refine wpAnyH_take (i := 2) (oi := { dst := some 39, op := Op.load 5 (Operand.tmp 38), type := 5, pos := "law.go:63", after := #[{ on := 1, ground := Ground.data }], guard := none }) (v := .int .u8 (n : Int)) rfl (by kernel_rfl) (by kernel_rfl) (by kernel_rfl) (fun _ _ _ h => h) (Or.inl ⟨by rfl, fun W hW => ?_⟩) hHeld ?_
      · obtain ⟨⟨q1, q2⟩, ⟨q3, q4⟩, q5, q6⟩ := hW
        go_simp
      simp only [Act.put, List.setIfInBounds_toArray, List.set_cons_zero, List.set_cons_succ]
      refine wpAnyH_take (i := 3) (oi := { dst := some 40, op := Op.load 23 (Operand.tmp 3), type := 23, pos := "law.go:63", after := #[], guard := none }) (v := mv X) rfl (by kernel_rfl) (by kernel_rfl) (by kernel_rfl) (fun _ _ _ h => h) (Or.inl ⟨by rfl, fun W hW => ?_⟩) hHeld ?_
      · obtain ⟨⟨q1, q2⟩, ⟨q3, q4⟩, q5, q6⟩ := hW
        go_simp
      simp only [Act.put, List.setIfInBounds_toArray, List.set_cons_zero, List.set_cons_succ]
      refine wpAnyH_take (i := 4) (oi := { dst := some 41, op := Op.fieldAddr 25 (Operand.tmp 4) 0, type := 0, pos := "law.go:63", after := #[], guard := none }) (v := .pointer (some ⟨b4, 0, none⟩)) rfl (by kernel_rfl) (by kernel_rfl) (by kernel_rfl) (fun _ _ _ h => h) (Or.inl ⟨by rfl, fun W hW => ?_⟩) hHeld ?_
      · obtain ⟨⟨q1, q2⟩, ⟨q3, q4⟩, q5, q6⟩ := hW
        go_simp
      simp only [Act.put, List.setIfInBounds_toArray, List.set_cons_zero, List.set_cons_succ]
      refine wpAnyH_take (i := 5) (oi := { dst := some 42, op := Op.load 5 (Operand.tmp 41), type := 5, pos := "law.go:63", after := #[{ on := 4, ground := Ground.data }], guard := none }) (v := .int .u8 (n : Int)) rfl (by kernel_rfl) (by kernel_rfl) (by kernel_rfl) (fun _ _ _ h => h) (Or.inl ⟨by rfl, fun W hW => ?_⟩) hHeld ?_
      · obtain ⟨⟨q1, q2⟩, ⟨q3, q4⟩, q5, q6⟩ := hW
        go_simp
      simp only [Act.put, List.setIfInBounds_toArray, List.set_cons_zero, List.set_cons_succ]
      refine wpAnyH_ready (rs := [6, 8]) (by kernel_rfl) (by simp) ?_
      refine AllReadyH.cons (o := { dst := some 43, op := Op.call { callee := Callee.value (Operand.func 14), args := #[Operand.tmp 40, Operand.tmp 42], argTypes := #[23, 5] }, type := 4, pos := "law.go:63", after := #[{ on := 3, ground := Ground.data }, { on := 5, ground := Ground.data }], guard := none }) rfl (fun K hK => ?_) (AllReadyH.cons (o := { dst := some 8, op := Op.alloc 23, type := 0, pos := "law.go:63", after := #[], guard := none }) rfl (fun K hK => ?_) AllReadyH.nil)
      · go_simp
        with_reducible refine (C4.out _).mono ?_
        rintro e w2 ⟨rfl, hb⟩
        have z2 := bCall (Below.refl _ _) (noDrew hb)
        go_wp2_with fail
        refine hK.out _ _ (SW.of N3.out N7.out N4.out z2) (fun hHeld2 => ?_)
        clear hK K hHeld
        have hHeld := hHeld2
        clear hHeld2
        try simp only [Act.put, List.setIfInBounds_toArray, List.set_cons_zero, List.set_cons_succ]
        refine wpAnyH_ready (rs := [7, 8]) (by kernel_rfl) (by simp) ?_
        refine AllReadyH.cons (o := { dst := some 44, op := Op.call { callee := Callee.value (Operand.func 16), args := #[Operand.tmp 37, Operand.tmp 39, Operand.tmp 43], argTypes := #[23, 5, 4] }, type := 23, pos := "law.go:63", after := #[{ on := 0, ground := Ground.data }, { on := 2, ground := Ground.data }, { on := 6, ground := Ground.data }, { on := 6, ground := Ground.chain }], guard := none }) rfl (fun K hK => ?_) (AllReadyH.cons (o := { dst := some 8, op := Op.alloc 23, type := 0, pos := "law.go:63", after := #[], guard := none }) rfl (fun K hK => ?_) AllReadyH.nil)
        · go_simp
          with_reducible refine (C5.out _).mono ?_
          rintro e w3 ⟨rfl, hb⟩
          have z3 := bCall z2 hb
          go_wp2_with fail
          refine hK.out _ _ (SW.of N3.out N7.out N4.out z3) (fun hHeld2 => ?_)
          clear hK K hHeld
          have hHeld := hHeld2
          clear hHeld2
          try simp only [Act.put, List.setIfInBounds_toArray, List.set_cons_zero, List.set_cons_succ]
          refine wpAnyH_ready (rs := [8]) (by kernel_rfl) (by simp) ?_
          refine AllReadyH.cons (o := { dst := some 8, op := Op.alloc 23, type := 0, pos := "law.go:63", after := #[], guard := none }) rfl (fun K hK => ?_) AllReadyH.nil
          go_simp
          refine hK.out _ _ (SW.of N3.out N7.out N4.out (bAlloc z3 _)) (fun hHeld2 => ?_)
          clear hK K hHeld
          have hHeld := hHeld2
          clear hHeld2
          try simp only [Act.put, List.setIfInBounds_toArray, List.set_cons_zero, List.set_cons_succ]
          refine wpAnyH_ready (rs := [9]) (by kernel_rfl) (by simp) ?_
          refine AllReadyH.cons (o := { dst := none, op := Op.store 23 (Operand.tmp 8) (Operand.tmp 44), type := 0, pos := "law.go:63", after := #[{ on := 8, ground := Ground.data }, { on := 7, ground := Ground.data }, { on := 7, ground := Ground.chain }, { on := 0, ground := Ground.phase }, { on := 1, ground := Ground.phase }, { on := 2, ground := Ground.phase }, { on := 3, ground := Ground.phase }, { on := 4, ground := Ground.phase }, { on := 5, ground := Ground.phase }, { on := 6, ground := Ground.phase }, { on := 7, ground := Ground.phase }, { on := 8, ground := Ground.phase }], guard := none }) rfl (fun K hK => ?_) AllReadyH.nil
          go_simp
          refine hK.out _ _ (SW.of N3.out N7.out N4.out (bAlloc z3 _)) (fun hHeld2 => ?_)
          clear hK K hHeld
          have hHeld := hHeld2
          clear hHeld2
          try simp only [Act.put, List.setIfInBounds_toArray, List.set_cons_zero, List.set_cons_succ]
          refine wpAnyH_done (by kernel_rfl) ?_ _
          go_wp2_with fail
          go_meet
          exact ⟨_, rfl, SR.new 23 w3 (ms X), z3.size, bAlloc z3 _⟩
        · go_simp
          refine hK.out _ _ (SW.of N3.out N7.out N4.out (bAlloc z2 _)) (fun hHeld2 => ?_)
          clear hK K hHeld
          have hHeld := hHeld2
          clear hHeld2
          try simp only [Act.put, List.setIfInBounds_toArray, List.set_cons_zero, List.set_cons_succ]
          refine wpAnyH_ready (rs := [7]) (by kernel_rfl) (by simp) ?_
          refine AllReadyH.cons (o := { dst := some 44, op := Op.call { callee := Callee.value (Operand.func 16), args := #[Operand.tmp 37, Operand.tmp 39, Operand.tmp 43], argTypes := #[23, 5, 4] }, type := 23, pos := "law.go:63", after := #[{ on := 0, ground := Ground.data }, { on := 2, ground := Ground.data }, { on := 6, ground := Ground.data }, { on := 6, ground := Ground.chain }], guard := none }) rfl (fun K hK => ?_) AllReadyH.nil
          go_simp
          with_reducible refine (C5.out _).mono ?_
          rintro e w3 ⟨rfl, hb⟩
          have z3 := bCall (bAlloc z2 _) hb
          have k3 := SR.call (SR.new 23 w2 (ms zM)) hb (SR.lt (SR.new 23 w2 (ms zM)))
          obtain ⟨y1, y2⟩ := MB.facts k3
          go_wp2_with fail
          refine hK.out _ _ (SW.of N3.out N7.out N4.out z3) (fun hHeld2 => ?_)
          clear hK K hHeld
          have hHeld := hHeld2
          clear hHeld2
          try simp only [Act.put, List.setIfInBounds_toArray, List.set_cons_zero, List.set_cons_succ]
          refine wpAnyH_ready (rs := [9]) (by kernel_rfl) (by simp) ?_
          refine AllReadyH.cons (o := { dst := none, op := Op.store 23 (Operand.tmp 8) (Operand.tmp 44), type := 0, pos := "law.go:63", after := #[{ on := 8, ground := Ground.data }, { on := 7, ground := Ground.data }, { on := 7, ground := Ground.chain }, { on := 0, ground := Ground.phase }, { on := 1, ground := Ground.phase }, { on := 2, ground := Ground.phase }, { on := 3, ground := Ground.phase }, { on := 4, ground := Ground.phase }, { on := 5, ground := Ground.phase }, { on := 6, ground := Ground.phase }, { on := 7, ground := Ground.phase }, { on := 8, ground := Ground.phase }], guard := none }) rfl (fun K hK => ?_) AllReadyH.nil
          go_simp
          refine hK.out _ _ (SW.of N3.out N7.out N4.out (bRow z3 z2.size _)) (fun hHeld2 => ?_)
          clear hK K hHeld
          have hHeld := hHeld2
          clear hHeld2
          try simp only [Act.put, List.setIfInBounds_toArray, List.set_cons_zero, List.set_cons_succ]
          refine wpAnyH_done (by kernel_rfl) ?_ _
          go_wp2_with fail
          go_meet
          exact ⟨_, rfl, SR.row k3 _, z2.size, bRow z3 z2.size _⟩
      · go_simp
        refine hK.out _ _ (SW.of N3.out N7.out N4.out (bAlloc (Below.refl _ _) _).drew) (fun hHeld2 => ?_)
        clear hK K hHeld
        have hHeld := hHeld2
        clear hHeld2
        try simp only [Act.put, List.setIfInBounds_toArray, List.set_cons_zero, List.set_cons_succ]
        refine wpAnyH_ready (rs := [6]) (by kernel_rfl) (by simp) ?_
        refine AllReadyH.cons (o := { dst := some 43, op := Op.call { callee := Callee.value (Operand.func 14), args := #[Operand.tmp 40, Operand.tmp 42], argTypes := #[23, 5] }, type := 4, pos := "law.go:63", after := #[{ on := 3, ground := Ground.data }, { on := 5, ground := Ground.data }], guard := none }) rfl (fun K hK => ?_) AllReadyH.nil
        go_simp
        with_reducible refine (C4.out _).mono ?_
        rintro e w2 ⟨rfl, hb⟩
        have z2 := bCall (bAlloc (Below.refl _ _) _).drew hb
        have k2 := SR.call (SR.drew (SR.new 23 w5 (ms zM))) hb (SR.lt (SR.drew (SR.new 23 w5 (ms zM))))
        go_wp2_with fail
        refine hK.out _ _ (SW.of N3.out N7.out N4.out z2) (fun hHeld2 => ?_)
        clear hK K hHeld
        have hHeld := hHeld2
        clear hHeld2
        try simp only [Act.put, List.setIfInBounds_toArray, List.set_cons_zero, List.set_cons_succ]
        refine wpAnyH_ready (rs := [7]) (by kernel_rfl) (by simp) ?_
        refine AllReadyH.cons (o := { dst := some 44, op := Op.call { callee := Callee.value (Operand.func 16), args := #[Operand.tmp 37, Operand.tmp 39, Operand.tmp 43], argTypes := #[23, 5, 4] }, type := 23, pos := "law.go:63", after := #[{ on := 0, ground := Ground.data }, { on := 2, ground := Ground.data }, { on := 6, ground := Ground.data }, { on := 6, ground := Ground.chain }], guard := none }) rfl (fun K hK => ?_) AllReadyH.nil
        go_simp
        with_reducible refine (C5.out _).mono ?_
        rintro e w3 ⟨rfl, hb⟩
        have z3 := bCall z2 hb
        have k3 := SR.call k2 hb (SR.lt k2)
        obtain ⟨y1, y2⟩ := MB.facts k3
        go_wp2_with fail
        refine hK.out _ _ (SW.of N3.out N7.out N4.out z3) (fun hHeld2 => ?_)
        clear hK K hHeld
        have hHeld := hHeld2
        clear hHeld2
        try simp only [Act.put, List.setIfInBounds_toArray, List.set_cons_zero, List.set_cons_succ]
        refine wpAnyH_ready (rs := [9]) (by kernel_rfl) (by simp) ?_
        refine AllReadyH.cons (o := { dst := none, op := Op.store 23 (Operand.tmp 8) (Operand.tmp 44), type := 0, pos := "law.go:63", after := #[{ on := 8, ground := Ground.data }, { on := 7, ground := Ground.data }, { on := 7, ground := Ground.chain }, { on := 0, ground := Ground.phase }, { on := 1, ground := Ground.phase }, { on := 2, ground := Ground.phase }, { on := 3, ground := Ground.phase }, { on := 4, ground := Ground.phase }, { on := 5, ground := Ground.phase }, { on := 6, ground := Ground.phase }, { on := 7, ground := Ground.phase }, { on := 8, ground := Ground.phase }], guard := none }) rfl (fun K hK => ?_) AllReadyH.nil
        go_simp
        refine hK.out _ _ (SW.of N3.out N7.out N4.out (bRow z3 (Nat.le_refl _) _)) (fun hHeld2 => ?_)
        clear hK K hHeld
        have hHeld := hHeld2
        clear hHeld2
        try simp only [Act.put, List.setIfInBounds_toArray, List.set_cons_zero, List.set_cons_succ]
        refine wpAnyH_done (by kernel_rfl) ?_ _
        go_wp2_with fail
        go_meet
        exact ⟨_, rfl, SR.row k3 _, Nat.le_refl _, bRow z3 (Nat.le_refl _) _⟩

    case rest =>
      obtain ⟨w6, rfl⟩ : ∃ W, W = wc := ⟨_, rfl⟩
      obtain ⟨b8, rfl, M8, _, hz⟩ := hcut
      have hz2 := hz.out
      have M3 := keepd (SR.call N3.out hz2 (SR.lt N3.out))
      have M7 := keepd (SR.call N7.out hz2 (SR.lt N7.out))
      have M4 := keepd (SR.call N4.out hz2 (SR.lt N4.out))
      have HB6 := keepd (bCall HB5.out hz2)
      clear hz hz2 N3 N7 N4 HB5 C4 C5
      go_upto_region 5 with fail
      refine wp_region_held_drew (S := fun V => SW b3 b7 b4 X N n on V ∧ (rowOf V b8 = (ms X).toArray ∧ isRow V 23 b8 32 = true)) (by kernel_rfl) ⟨SW.of M3.out M7.out M4.out (Below.refl _ _).drew, MB.facts (SR.call M8.out (Below.refl _ _).drew (SR.lt M8.out))⟩ (fun hHeld => ?_)
      refine wpAnyH_take (i := 0) (oi := { dst := some 45, op := Op.load 23 (Operand.tmp 7), type := 23, pos := "law.go:64", after := #[], guard := none }) (v := mv N) rfl (by kernel_rfl) (by kernel_rfl) (by kernel_rfl) (fun _ _ _ h => h) (Or.inl ⟨by rfl, fun W hW => ?_⟩) hHeld ?_
      · obtain ⟨⟨⟨q1, q2⟩, ⟨q3, q4⟩, q5, q6⟩, q7, q8⟩ := hW
        go_simp
      simp only [Act.put, List.setIfInBounds_toArray, List.set_cons_zero, List.set_cons_succ]
      refine wpAnyH_take (i := 1) (oi := { dst := some 46, op := Op.fieldAddr 25 (Operand.tmp 4) 0, type := 0, pos := "law.go:64", after := #[], guard := none }) (v := .pointer (some ⟨b4, 0, none⟩)) rfl (by kernel_rfl) (by kernel_rfl) (by kernel_rfl) (fun _ _ _ h => h) (Or.inl ⟨by rfl, fun W hW => ?_⟩) hHeld ?_
      · obtain ⟨⟨⟨q1, q2⟩, ⟨q3, q4⟩, q5, q6⟩, q7, q8⟩ := hW
        go_simp
      simp only [Act.put, List.setIfInBounds_toArray, List.set_cons_zero, List.set_cons_succ]
      refine wpAnyH_take (i := 2) (oi := { dst := some 47, op := Op.load 5 (Operand.tmp 46), type := 5, pos := "law.go:64", after := #[{ on := 1, ground := Ground.data }], guard := none }) (v := .int .u8 (n : Int)) rfl (by kernel_rfl) (by kernel_rfl) (by kernel_rfl) (fun _ _ _ h => h) (Or.inl ⟨by rfl, fun W hW => ?_⟩) hHeld ?_
      · obtain ⟨⟨⟨q1, q2⟩, ⟨q3, q4⟩, q5, q6⟩, q7, q8⟩ := hW
        go_simp
      simp only [Act.put, List.setIfInBounds_toArray, List.set_cons_zero, List.set_cons_succ]
      refine wpAnyH_take (i := 3) (oi := { dst := some 48, op := Op.fieldAddr 25 (Operand.tmp 4) 1, type := 0, pos := "law.go:64", after := #[], guard := none }) (v := .pointer (some ⟨b4, 1, none⟩)) rfl (by kernel_rfl) (by kernel_rfl) (by kernel_rfl) (fun _ _ _ h => h) (Or.inl ⟨by rfl, fun W hW => ?_⟩) hHeld ?_
      · obtain ⟨⟨⟨q1, q2⟩, ⟨q3, q4⟩, q5, q6⟩, q7, q8⟩ := hW
        go_simp
      simp only [Act.put, List.setIfInBounds_toArray, List.set_cons_zero, List.set_cons_succ]
      refine wpAnyH_take (i := 4) (oi := { dst := some 49, op := Op.load 4 (Operand.tmp 48), type := 4, pos := "law.go:64", after := #[{ on := 3, ground := Ground.data }], guard := none }) (v := .bool on) rfl (by kernel_rfl) (by kernel_rfl) (by kernel_rfl) (fun _ _ _ h => h) (Or.inl ⟨by rfl, fun W hW => ?_⟩) hHeld ?_
      · obtain ⟨⟨⟨q1, q2⟩, ⟨q3, q4⟩, q5, q6⟩, q7, q8⟩ := hW
        go_simp
      simp only [Act.put, List.setIfInBounds_toArray, List.set_cons_zero, List.set_cons_succ]
      refine wpAnyH_take (i := 6) (oi := { dst := some 51, op := Op.load 23 (Operand.tmp 7), type := 23, pos := "law.go:64", after := #[], guard := none }) (v := mv N) rfl (by kernel_rfl) (by kernel_rfl) (by kernel_rfl) (fun _ _ _ h => h) (Or.inl ⟨by rfl, fun W hW => ?_⟩) hHeld ?_
      · obtain ⟨⟨⟨q1, q2⟩, ⟨q3, q4⟩, q5, q6⟩, q7, q8⟩ := hW
        go_simp
      simp only [Act.put, List.setIfInBounds_toArray, List.set_cons_zero, List.set_cons_succ]
      refine wpAnyH_ready (rs := [5]) (by kernel_rfl) (by simp) ?_
      refine AllReadyH.cons (o := { dst := some 50, op := Op.call { callee := Callee.value (Operand.func 16), args := #[Operand.tmp 45, Operand.tmp 47, Operand.tmp 49], argTypes := #[23, 5, 4] }, type := 23, pos := "law.go:64", after := #[{ on := 0, ground := Ground.data }, { on := 2, ground := Ground.data }, { on := 4, ground := Ground.data }], guard := none }) rfl (fun K hK => ?_) AllReadyH.nil
      go_simp
      with_reducible refine (C6.out _).mono ?_
      rintro e w2 ⟨rfl, hb2⟩
      have z2 := noDrew hb2
      go_wp2_with fail
      refine hK.out _ _ ⟨SW.of M3.out M7.out M4.out z2, MB.facts (SR.call M8.out z2 (SR.lt M8.out))⟩ (fun hHeld2 => ?_)
      clear hK K hHeld
      have hHeld := hHeld2
      clear hHeld2
      try simp only [Act.put, List.setIfInBounds_toArray, List.set_cons_zero, List.set_cons_succ]
      refine wpAnyH_take (i := 7) (oi := { dst := some 52, op := Op.binOp BinOp.eql 23 (Operand.tmp 50) (Operand.tmp 51) 23, type := 4, pos := "law.go:64", after := #[{ on := 5, ground := Ground.data }, { on := 6, ground := Ground.data }], guard := none }) (v := .bool true) rfl (by kernel_rfl) (by kernel_rfl) (by kernel_rfl) (fun _ _ _ h => h) (Or.inl ⟨by rfl, fun W hW => ?_⟩) hHeld ?_
      · obtain ⟨⟨⟨q1, q2⟩, ⟨q3, q4⟩, q5, q6⟩, q7, q8⟩ := hW
        go_simp
      simp only [Act.put, List.setIfInBounds_toArray, List.set_cons_zero, List.set_cons_succ]
      refine wpAnyH_take (i := 8) (oi := { dst := some 53, op := Op.move (Operand.tmp 52), type := 4, pos := "law.go:64", after := #[{ on := 7, ground := Ground.data }, { on := 5, ground := Ground.chain }], guard := none }) (v := .bool true) rfl (by kernel_rfl) (by kernel_rfl) (by kernel_rfl) (fun _ _ _ h => h) (Or.inl ⟨by rfl, fun W hW => ?_⟩) hHeld ?_
      · obtain ⟨⟨⟨q1, q2⟩, ⟨q3, q4⟩, q5, q6⟩, q7, q8⟩ := hW
        go_simp
      simp only [Act.put, List.setIfInBounds_toArray, List.set_cons_zero, List.set_cons_succ]
      refine wpAnyH_take (i := 9) (oi := { dst := some 54, op := Op.load 23 (Operand.tmp 8), type := 23, pos := "law.go:64", after := #[{ on := 8, ground := Ground.guard }], guard := some (8, true) }) (v := mv X) rfl (by kernel_rfl) (by kernel_rfl) (by kernel_rfl) (fun _ _ _ h => h) (Or.inl ⟨by rfl, fun W hW => ?_⟩) hHeld ?_
      · obtain ⟨⟨⟨q1, q2⟩, ⟨q3, q4⟩, q5, q6⟩, q7, q8⟩ := hW
        go_simp
      simp only [Act.put, List.setIfInBounds_toArray, List.set_cons_zero, List.set_cons_succ]
      refine wpAnyH_take (i := 10) (oi := { dst := some 55, op := Op.load 23 (Operand.tmp 3), type := 23, pos := "law.go:64", after := #[{ on := 8, ground := Ground.guard }], guard := some (8, true) }) (v := mv X) rfl (by kernel_rfl) (by kernel_rfl) (by kernel_rfl) (fun _ _ _ h => h) (Or.inl ⟨by rfl, fun W hW => ?_⟩) hHeld ?_
      · obtain ⟨⟨⟨q1, q2⟩, ⟨q3, q4⟩, q5, q6⟩, q7, q8⟩ := hW
        go_simp
      simp only [Act.put, List.setIfInBounds_toArray, List.set_cons_zero, List.set_cons_succ]
      refine wpAnyH_take (i := 11) (oi := { dst := some 56, op := Op.binOp BinOp.eql 23 (Operand.tmp 54) (Operand.tmp 55) 23, type := 4, pos := "law.go:64", after := #[{ on := 9, ground := Ground.data }, { on := 10, ground := Ground.data }, { on := 8, ground := Ground.guard }], guard := some (8, true) }) (v := .bool true) rfl (by kernel_rfl) (by kernel_rfl) (by kernel_rfl) (fun _ _ _ h => h) (Or.inl ⟨by rfl, fun W hW => ?_⟩) hHeld ?_
      · obtain ⟨⟨⟨q1, q2⟩, ⟨q3, q4⟩, q5, q6⟩, q7, q8⟩ := hW
        go_simp
      simp only [Act.put, List.setIfInBounds_toArray, List.set_cons_zero, List.set_cons_succ]
      refine wpAnyH_take (i := 12) (oi := { dst := some 57, op := Op.pick (Operand.tmp 53) (Operand.tmp 56) (Operand.const (Value.bool false)), type := 4, pos := "law.go:64", after := #[{ on := 8, ground := Ground.data }, { on := 11, ground := Ground.data }], guard := none }) (v := .bool true) rfl (by kernel_rfl) (by kernel_rfl) (by kernel_rfl) (fun _ _ _ h => h) (Or.inl ⟨by rfl, fun W hW => ?_⟩) hHeld ?_
      · obtain ⟨⟨⟨q1, q2⟩, ⟨q3, q4⟩, q5, q6⟩, q7, q8⟩ := hW
        go_simp
      simp only [Act.put, List.setIfInBounds_toArray, List.set_cons_zero, List.set_cons_succ]
      refine wpAnyH_take (i := 13) (oi := { dst := some 58, op := Op.move (Operand.tmp 57), type := 4, pos := "law.go:64", after := #[{ on := 12, ground := Ground.data }, { on := 8, ground := Ground.chain }], guard := none }) (v := .bool true) rfl (by kernel_rfl) (by kernel_rfl) (by kernel_rfl) (fun _ _ _ h => h) (Or.inl ⟨by rfl, fun W hW => ?_⟩) hHeld ?_
      · obtain ⟨⟨⟨q1, q2⟩, ⟨q3, q4⟩, q5, q6⟩, q7, q8⟩ := hW
        go_simp
      simp only [Act.put, List.setIfInBounds_toArray, List.set_cons_zero, List.set_cons_succ]
      refine wpAnyH_ready (rs := [14]) (by kernel_rfl) (by simp) ?_
      refine AllReadyH.cons (o := { dst := some 59, op := Op.call { callee := Callee.value (Operand.func 23), args := #[], argTypes := #[] }, type := 4, pos := "law.go:64", after := #[{ on := 13, ground := Ground.chain }, { on := 13, ground := Ground.guard }], guard := some (13, true) }) rfl (fun K hK => ?_) AllReadyH.nil
      go_simp
      with_reducible refine (HA.out _).mono ?_
      rintro e w3 ⟨rfl, hb3⟩
      have z3 := bCall z2 hb3
      go_wp2_with fail
      refine hK.out _ _ ⟨SW.of M3.out M7.out M4.out z3, MB.facts (SR.call M8.out z3 (SR.lt M8.out))⟩ (fun hHeld2 => ?_)
      clear hK K hHeld
      have hHeld := hHeld2
      clear hHeld2
      try simp only [Act.put, List.setIfInBounds_toArray, List.set_cons_zero, List.set_cons_succ]
      refine wpAnyH_take (i := 15) (oi := { dst := some 60, op := Op.pick (Operand.tmp 58) (Operand.tmp 59) (Operand.const (Value.bool false)), type := 4, pos := "law.go:64", after := #[{ on := 13, ground := Ground.data }, { on := 14, ground := Ground.data }], guard := none }) (v := .bool true) rfl (by kernel_rfl) (by kernel_rfl) (by kernel_rfl) (fun _ _ _ h => h) (Or.inl ⟨by rfl, fun W hW => ?_⟩) hHeld ?_
      · obtain ⟨⟨⟨q1, q2⟩, ⟨q3, q4⟩, q5, q6⟩, q7, q8⟩ := hW
        go_simp
      simp only [Act.put, List.setIfInBounds_toArray, List.set_cons_zero, List.set_cons_succ]
      refine wpAnyH_take (i := 16) (oi := { dst := some 6, op := Op.assign (Operand.tmp 60), type := 4, pos := "law.go:64", after := #[{ on := 15, ground := Ground.data }, { on := 14, ground := Ground.chain }, { on := 0, ground := Ground.phase }, { on := 1, ground := Ground.phase }, { on := 2, ground := Ground.phase }, { on := 3, ground := Ground.phase }, { on := 4, ground := Ground.phase }, { on := 5, ground := Ground.phase }, { on := 6, ground := Ground.phase }, { on := 7, ground := Ground.phase }, { on := 8, ground := Ground.phase }, { on := 9, ground := Ground.phase }, { on := 10, ground := Ground.phase }, { on := 11, ground := Ground.phase }, { on := 12, ground := Ground.phase }, { on := 13, ground := Ground.phase }, { on := 14, ground := Ground.phase }, { on := 15, ground := Ground.phase }], guard := none }) (v := .bool true) rfl (by kernel_rfl) (by kernel_rfl) (by kernel_rfl) (fun _ _ _ h => h) (Or.inl ⟨by rfl, fun W hW => ?_⟩) hHeld ?_
      · obtain ⟨⟨⟨q1, q2⟩, ⟨q3, q4⟩, q5, q6⟩, q7, q8⟩ := hW
        go_simp
      simp only [Act.put, List.setIfInBounds_toArray, List.set_cons_zero, List.set_cons_succ]
      refine wpAnyH_done (by kernel_rfl) ?_ _
      go_wp2_with fail
      go_returns
      exact ⟨rfl, bCall HB6.out z3⟩

end Go.Proofs.Ytopomoghkedbkaa
