/-
  The law OptsTells, walked.
-/
import Derived.Test.YtlgcfpdmklieiaaDoorS1
import Derived.Deep.WholeRow
namespace Go.Proofs.YtlgcfpdmklieiaaDoor
open Go.RowKit
set_option maxRecDepth 100000

attribute [local go_sem ↓] ex_ld25 ex_ld67 ex_ld73 ex_st25 ex_st67 ex_st73 ex_eq25 ex_ne25 ex_ix22
attribute [local go_sem] ptrB_at okPtr_at aggC_at agg16 agg11 agg12 isO_at toO_at idx0 idx1 idx2 idx3 okIdx_at isRow_new World.setRow_alloc_new

set_option maxHeartbeats 8000000 in
theorem tells_ft00 (X : O) (v c : Int) (hm on : Bool) (p : Int) (hk : plK c = false) (hh : okO X = true) (ho1 : (vOk v && cOk c) = false) (ho2 : pOk p = false) (w : World) (hL : LaidA w) : Calls Tryd.prog 3 #[X.v, .agg #[.int .i64 v, .int .i64 c], .agg #[.bool hm, .bool on, .int .i64 p]] w fun e w' => e = .returned (.bool true) ∧ Below w.heap.size w w' := by
  have CP := keepd (place_any c)
  have CQ := keepd (rplace_any c)
  have CC := keepd (checkO_any X)
  have CM := keepd (rmay_any X)
  have CN := keepd (new_any X.mu X.mh)
  have CS := keepd (same_any X X)
  have CG := keepd (gotO_any X v c)
  have CK := keepd (askO_any X hm p on)
  have CA := keepd awake_any
  have HH := keepd hh
  have HHk := keepd hk
  rw [sameO_self] at CS
  unfold plR at CQ
  rw [hk] at CP CQ
  rw [hh] at CC CM
  simp only [if_true] at CC 
  simp only [Bool.false_eq_true, if_false] at CQ
  have e0 : plI c = 0 := by
    rcases four_ways c with ⟨rfl, _, _⟩ | ⟨rfl, _, _⟩ | ⟨rfl, _, _⟩ | ⟨rfl, _, _⟩ | ⟨_, _, _, _, e, _⟩
    · cases hk
    · cases hk
    · cases hk
    · cases hk
    · exact e
  rw [e0] at CP
  clear e0
  obtain ⟨N, hN⟩ : ∃ N : O, N = ⟨⟨0, 0, 0, 0⟩, ⟨0, 0, 0, 0⟩, X.mu, X.mh⟩ := ⟨_, rfl⟩
  rw [← hN] at CN
  have HNe := keepd hN
  have hNs := sameO_self N
  have HL := keepd hL
  clear hL hh hk hN
  go_enter Tryd.func3, Tryd.ntmps3
  go_upto_region 1 with fail
  generalize hW : ((w.alloc (.cells X.cs.toArray 25)).alloc (.cells (List.toArray [.int .i64 v, .int .i64 c]) 27)).alloc (.cells (List.toArray [.bool hm, .bool on, .int .i64 p]) 29) = W
  obtain ⟨h1, h2, h2', h3, _⟩ := three_new _ _ _ _ _ _ _ _ hW
  clear hW
  have T0 := keepd (TM.mk h1 h2 h2' h3)
  clear h1 h2 h2' h3
  have d1 := T0.out.v.cell 1
  simp only [List.getElem?_cons_succ, List.getElem?_cons_zero] at d1
  go_wp2_with fail
  with_reducible refine (CP.out _ ((LaidA.laid HL.out).below T0.out.b)).mono ?_
  rintro e w1 ⟨rfl, rfl⟩
  clear CP
  go_wp2_with fail
  with_reducible refine (CQ.out _).mono ?_
  rintro e w2 ⟨rfl, hb⟩
  have T0 := keepd (T0.out.call hb)
  clear hb CQ d1
  go_wp2_with fail
  go_cut [78] (fun s78 wx => s78 = .bool false ∧ Hid (TM w X v c hm on p wx))
  case first =>
    have KA := T0.out.drew
    refine wp_region_held_drew (S := (fun W => rowOf W w.heap.size = X.cs.toArray ∧ isRow W 25 w.heap.size 16 = true ∧ W.cell? ⟨w.heap.size, 8, none⟩ = some (.bool X.mu.a) ∧ W.cell? ⟨w.heap.size, 9, none⟩ = some (.bool X.mu.b) ∧ W.cell? ⟨w.heap.size, 10, none⟩ = some (.bool X.mu.c) ∧ W.cell? ⟨w.heap.size, 11, none⟩ = some (.bool X.mu.d) ∧ W.cell? ⟨w.heap.size, 12, none⟩ = some (.bool X.mh.a) ∧ W.cell? ⟨w.heap.size, 13, none⟩ = some (.bool X.mh.b) ∧ W.cell? ⟨w.heap.size, 14, none⟩ = some (.bool X.mh.c) ∧ W.cell? ⟨w.heap.size, 15, none⟩ = some (.bool X.mh.d) ∧ TM w X v c hm on p W)) (by kernel_rfl) KA.s (fun hHeld => ?_)
    refine wpAnyH_take (i := 0) (oi := { dst := some 32, op := Op.move (Operand.tmp 8), type := 4, pos := "law.go:36", after := #[], guard := none }) (v := (.bool false)) rfl (by kernel_rfl) (by kernel_rfl) (by kernel_rfl) (fun _ _ _ h => h) (Or.inl ⟨by rfl, fun W hW => ?_⟩) hHeld ?_
    · obtain ⟨s0, s1, s2, s3, s4, s5, s6, s7, s8, s9, _⟩ := hW
      go_simp
    simp only [Act.put, List.setIfInBounds_toArray, List.set_cons_zero, List.set_cons_succ]
    refine wpAnyH_take (i := 1) (oi := { dst := some 33, op := Op.move (Operand.tmp 9), type := 3, pos := "law.go:36", after := #[], guard := none }) (v := (.int .i64 4)) rfl (by kernel_rfl) (by kernel_rfl) (by kernel_rfl) (fun _ _ _ h => h) (Or.inl ⟨by rfl, fun W hW => ?_⟩) hHeld ?_
    · obtain ⟨s0, s1, s2, s3, s4, s5, s6, s7, s8, s9, _⟩ := hW
      go_simp
    simp only [Act.put, List.setIfInBounds_toArray, List.set_cons_zero, List.set_cons_succ]
    refine wpAnyH_take (i := 2) (oi := { dst := some 34, op := Op.binOp BinOp.lss 3 (Operand.tmp 33) (Operand.const (Value.int IntKind.i64 4)) 3, type := 4, pos := "law.go:36", after := #[{ on := 1, ground := Ground.data }], guard := none }) (v := (.bool false)) rfl (by kernel_rfl) (by kernel_rfl) (by kernel_rfl) (fun _ _ _ h => h) (Or.inl ⟨by rfl, fun W hW => ?_⟩) hHeld ?_
    · obtain ⟨s0, s1, s2, s3, s4, s5, s6, s7, s8, s9, _⟩ := hW
      go_simp
    simp only [Act.put, List.setIfInBounds_toArray, List.set_cons_zero, List.set_cons_succ]
    refine wpAnyH_take (i := 3) (oi := { dst := some 35, op := Op.binOp BinOp.neq 4 (Operand.tmp 32) (Operand.tmp 34) 4, type := 4, pos := "law.go:36", after := #[{ on := 0, ground := Ground.data }, { on := 2, ground := Ground.data }], guard := none }) (v := (.bool false)) rfl (by kernel_rfl) (by kernel_rfl) (by kernel_rfl) (fun _ _ _ h => h) (Or.inl ⟨by rfl, fun W hW => ?_⟩) hHeld ?_
    · obtain ⟨s0, s1, s2, s3, s4, s5, s6, s7, s8, s9, _⟩ := hW
      go_simp
    simp only [Act.put, List.setIfInBounds_toArray, List.set_cons_zero, List.set_cons_succ]
    refine wpAnyH_take (i := 4) (oi := { dst := some 36, op := Op.move (Operand.tmp 35), type := 4, pos := "law.go:36", after := #[{ on := 3, ground := Ground.data }], guard := none }) (v := (.bool false)) rfl (by kernel_rfl) (by kernel_rfl) (by kernel_rfl) (fun _ _ _ h => h) (Or.inl ⟨by rfl, fun W hW => ?_⟩) hHeld ?_
    · obtain ⟨s0, s1, s2, s3, s4, s5, s6, s7, s8, s9, _⟩ := hW
      go_simp
    simp only [Act.put, List.setIfInBounds_toArray, List.set_cons_zero, List.set_cons_succ]
    refine wpAnyH_take (i := 5) (oi := { dst := some 37, op := Op.move (Operand.tmp 8), type := 4, pos := "law.go:36", after := #[{ on := 4, ground := Ground.guard }], guard := some (4, false) }) (v := (.bool false)) rfl (by kernel_rfl) (by kernel_rfl) (by kernel_rfl) (fun _ _ _ h => h) (Or.inl ⟨by rfl, fun W hW => ?_⟩) hHeld ?_
    · obtain ⟨s0, s1, s2, s3, s4, s5, s6, s7, s8, s9, _⟩ := hW
      go_simp
    simp only [Act.put, List.setIfInBounds_toArray, List.set_cons_zero, List.set_cons_succ]
    refine wpAnyH_take (i := 6) (oi := { dst := some 38, op := Op.move (Operand.tmp 37), type := 4, pos := "law.go:36", after := #[{ on := 5, ground := Ground.data }, { on := 4, ground := Ground.chain }, { on := 4, ground := Ground.guard }], guard := some (4, false) }) (v := (.bool false)) rfl (by kernel_rfl) (by kernel_rfl) (by kernel_rfl) (fun _ _ _ h => h) (Or.inl ⟨by rfl, fun W hW => ?_⟩) hHeld ?_
    · obtain ⟨s0, s1, s2, s3, s4, s5, s6, s7, s8, s9, _⟩ := hW
      go_simp
    simp only [Act.put, List.setIfInBounds_toArray, List.set_cons_zero, List.set_cons_succ]
    refine wpAnyH_take (i := 7) (oi := { dst := some 39, op := Op.move (Operand.tmp 7), type := 3, pos := "law.go:36", after := #[{ on := 6, ground := Ground.guard }], guard := some (6, true) }) (v := undef) rfl (by kernel_rfl) (by kernel_rfl) (by kernel_rfl) (fun _ _ _ h => h) (Or.inr ⟨by rfl, rfl⟩) hHeld ?_
    simp only [Act.put, List.setIfInBounds_toArray, List.set_cons_zero, List.set_cons_succ]
    refine wpAnyH_take (i := 8) (oi := { dst := some 40, op := Op.move (Operand.tmp 9), type := 3, pos := "law.go:36", after := #[{ on := 6, ground := Ground.guard }], guard := some (6, true) }) (v := undef) rfl (by kernel_rfl) (by kernel_rfl) (by kernel_rfl) (fun _ _ _ h => h) (Or.inr ⟨by rfl, rfl⟩) hHeld ?_
    simp only [Act.put, List.setIfInBounds_toArray, List.set_cons_zero, List.set_cons_succ]
    refine wpAnyH_take (i := 9) (oi := { dst := some 41, op := Op.binOp BinOp.neq 3 (Operand.tmp 39) (Operand.tmp 40) 3, type := 4, pos := "law.go:36", after := #[{ on := 7, ground := Ground.data }, { on := 8, ground := Ground.data }, { on := 6, ground := Ground.guard }], guard := some (6, true) }) (v := undef) rfl (by kernel_rfl) (by kernel_rfl) (by kernel_rfl) (fun _ _ _ h => h) (Or.inr ⟨by rfl, rfl⟩) hHeld ?_
    simp only [Act.put, List.setIfInBounds_toArray, List.set_cons_zero, List.set_cons_succ]
    refine wpAnyH_take (i := 10) (oi := { dst := some 42, op := Op.pick (Operand.tmp 38) (Operand.tmp 41) (Operand.const (Value.bool false)), type := 4, pos := "law.go:36", after := #[{ on := 6, ground := Ground.data }, { on := 9, ground := Ground.data }, { on := 4, ground := Ground.guard }], guard := some (4, false) }) (v := (.bool false)) rfl (by kernel_rfl) (by kernel_rfl) (by kernel_rfl) (fun _ _ _ h => h) (Or.inl ⟨by rfl, fun W hW => ?_⟩) hHeld ?_
    · obtain ⟨s0, s1, s2, s3, s4, s5, s6, s7, s8, s9, _⟩ := hW
      go_simp
    simp only [Act.put, List.setIfInBounds_toArray, List.set_cons_zero, List.set_cons_succ]
    refine wpAnyH_take (i := 11) (oi := { dst := some 43, op := Op.pick (Operand.tmp 36) (Operand.const (Value.bool true)) (Operand.tmp 42), type := 4, pos := "law.go:36", after := #[{ on := 4, ground := Ground.data }, { on := 10, ground := Ground.data }], guard := none }) (v := (.bool false)) rfl (by kernel_rfl) (by kernel_rfl) (by kernel_rfl) (fun _ _ _ h => h) (Or.inl ⟨by rfl, fun W hW => ?_⟩) hHeld ?_
    · obtain ⟨s0, s1, s2, s3, s4, s5, s6, s7, s8, s9, _⟩ := hW
      go_simp
    simp only [Act.put, List.setIfInBounds_toArray, List.set_cons_zero, List.set_cons_succ]
    refine wpAnyH_take (i := 12) (oi := { dst := some 44, op := Op.move (Operand.tmp 43), type := 4, pos := "law.go:36", after := #[{ on := 11, ground := Ground.data }, { on := 6, ground := Ground.chain }], guard := none }) (v := (.bool false)) rfl (by kernel_rfl) (by kernel_rfl) (by kernel_rfl) (fun _ _ _ h => h) (Or.inl ⟨by rfl, fun W hW => ?_⟩) hHeld ?_
    · obtain ⟨s0, s1, s2, s3, s4, s5, s6, s7, s8, s9, _⟩ := hW
      go_simp
    simp only [Act.put, List.setIfInBounds_toArray, List.set_cons_zero, List.set_cons_succ]
    refine wpAnyH_take (i := 13) (oi := { dst := some 45, op := Op.move (Operand.tmp 8), type := 4, pos := "law.go:36", after := #[{ on := 12, ground := Ground.guard }], guard := some (12, false) }) (v := (.bool false)) rfl (by kernel_rfl) (by kernel_rfl) (by kernel_rfl) (fun _ _ _ h => h) (Or.inl ⟨by rfl, fun W hW => ?_⟩) hHeld ?_
    · obtain ⟨s0, s1, s2, s3, s4, s5, s6, s7, s8, s9, _⟩ := hW
      go_simp
    simp only [Act.put, List.setIfInBounds_toArray, List.set_cons_zero, List.set_cons_succ]
    refine wpAnyH_take (i := 14) (oi := { dst := some 46, op := Op.unOp UnOp.not 4 (Operand.tmp 45), type := 4, pos := "law.go:36", after := #[{ on := 13, ground := Ground.data }, { on := 12, ground := Ground.guard }], guard := some (12, false) }) (v := (.bool true)) rfl (by kernel_rfl) (by kernel_rfl) (by kernel_rfl) (fun _ _ _ h => h) (Or.inl ⟨by rfl, fun W hW => ?_⟩) hHeld ?_
    · obtain ⟨s0, s1, s2, s3, s4, s5, s6, s7, s8, s9, _⟩ := hW
      go_simp
    simp only [Act.put, List.setIfInBounds_toArray, List.set_cons_zero, List.set_cons_succ]
    refine wpAnyH_take (i := 15) (oi := { dst := some 47, op := Op.move (Operand.tmp 46), type := 4, pos := "law.go:36", after := #[{ on := 14, ground := Ground.data }, { on := 12, ground := Ground.chain }, { on := 12, ground := Ground.guard }], guard := some (12, false) }) (v := (.bool true)) rfl (by kernel_rfl) (by kernel_rfl) (by kernel_rfl) (fun _ _ _ h => h) (Or.inl ⟨by rfl, fun W hW => ?_⟩) hHeld ?_
    · obtain ⟨s0, s1, s2, s3, s4, s5, s6, s7, s8, s9, _⟩ := hW
      go_simp
    simp only [Act.put, List.setIfInBounds_toArray, List.set_cons_zero, List.set_cons_succ]
    refine wpAnyH_take (i := 16) (oi := { dst := some 48, op := Op.move (Operand.tmp 7), type := 3, pos := "law.go:36", after := #[{ on := 15, ground := Ground.guard }], guard := some (15, true) }) (v := (.int .i64 0)) rfl (by kernel_rfl) (by kernel_rfl) (by kernel_rfl) (fun _ _ _ h => h) (Or.inl ⟨by rfl, fun W hW => ?_⟩) hHeld ?_
    · obtain ⟨s0, s1, s2, s3, s4, s5, s6, s7, s8, s9, _⟩ := hW
      go_simp
    simp only [Act.put, List.setIfInBounds_toArray, List.set_cons_zero, List.set_cons_succ]
    refine wpAnyH_take (i := 17) (oi := { dst := some 49, op := Op.binOp BinOp.neq 3 (Operand.tmp 48) (Operand.const (Value.int IntKind.i64 0)) 3, type := 4, pos := "law.go:36", after := #[{ on := 16, ground := Ground.data }, { on := 15, ground := Ground.guard }], guard := some (15, true) }) (v := (.bool false)) rfl (by kernel_rfl) (by kernel_rfl) (by kernel_rfl) (fun _ _ _ h => h) (Or.inl ⟨by rfl, fun W hW => ?_⟩) hHeld ?_
    · obtain ⟨s0, s1, s2, s3, s4, s5, s6, s7, s8, s9, _⟩ := hW
      go_simp
    simp only [Act.put, List.setIfInBounds_toArray, List.set_cons_zero, List.set_cons_succ]
    refine wpAnyH_take (i := 18) (oi := { dst := some 50, op := Op.pick (Operand.tmp 47) (Operand.tmp 49) (Operand.const (Value.bool false)), type := 4, pos := "law.go:36", after := #[{ on := 15, ground := Ground.data }, { on := 17, ground := Ground.data }, { on := 12, ground := Ground.guard }], guard := some (12, false) }) (v := (.bool false)) rfl (by kernel_rfl) (by kernel_rfl) (by kernel_rfl) (fun _ _ _ h => h) (Or.inl ⟨by rfl, fun W hW => ?_⟩) hHeld ?_
    · obtain ⟨s0, s1, s2, s3, s4, s5, s6, s7, s8, s9, _⟩ := hW
      go_simp
    simp only [Act.put, List.setIfInBounds_toArray, List.set_cons_zero, List.set_cons_succ]
    refine wpAnyH_take (i := 19) (oi := { dst := some 51, op := Op.pick (Operand.tmp 44) (Operand.const (Value.bool true)) (Operand.tmp 50), type := 4, pos := "law.go:36", after := #[{ on := 12, ground := Ground.data }, { on := 18, ground := Ground.data }], guard := none }) (v := (.bool false)) rfl (by kernel_rfl) (by kernel_rfl) (by kernel_rfl) (fun _ _ _ h => h) (Or.inl ⟨by rfl, fun W hW => ?_⟩) hHeld ?_
    · obtain ⟨s0, s1, s2, s3, s4, s5, s6, s7, s8, s9, _⟩ := hW
      go_simp
    simp only [Act.put, List.setIfInBounds_toArray, List.set_cons_zero, List.set_cons_succ]
    refine wpAnyH_take (i := 20) (oi := { dst := some 52, op := Op.move (Operand.tmp 51), type := 4, pos := "law.go:36", after := #[{ on := 19, ground := Ground.data }, { on := 15, ground := Ground.chain }], guard := none }) (v := (.bool false)) rfl (by kernel_rfl) (by kernel_rfl) (by kernel_rfl) (fun _ _ _ h => h) (Or.inl ⟨by rfl, fun W hW => ?_⟩) hHeld ?_
    · obtain ⟨s0, s1, s2, s3, s4, s5, s6, s7, s8, s9, _⟩ := hW
      go_simp
    simp only [Act.put, List.setIfInBounds_toArray, List.set_cons_zero, List.set_cons_succ]
    refine wpAnyH_take (i := 21) (oi := { dst := some 53, op := Op.load 25 (Operand.tmp 3), type := 25, pos := "law.go:36", after := #[{ on := 20, ground := Ground.guard }], guard := some (20, false) }) (v := (.agg X.cs.toArray)) rfl (by kernel_rfl) (by kernel_rfl) (by kernel_rfl) (fun _ _ _ h => h) (Or.inl ⟨by rfl, fun W hW => ?_⟩) hHeld ?_
    · obtain ⟨s0, s1, s2, s3, s4, s5, s6, s7, s8, s9, _⟩ := hW
      go_simp
    simp only [Act.put, List.setIfInBounds_toArray, List.set_cons_zero, List.set_cons_succ]
    refine wpAnyH_take (i := 24) (oi := { dst := some 56, op := Op.load 25 (Operand.tmp 3), type := 25, pos := "law.go:36", after := #[{ on := 20, ground := Ground.guard }], guard := some (20, false) }) (v := (.agg X.cs.toArray)) rfl (by kernel_rfl) (by kernel_rfl) (by kernel_rfl) (fun _ _ _ h => h) (Or.inl ⟨by rfl, fun W hW => ?_⟩) hHeld ?_
    · obtain ⟨s0, s1, s2, s3, s4, s5, s6, s7, s8, s9, _⟩ := hW
      go_simp
    simp only [Act.put, List.setIfInBounds_toArray, List.set_cons_zero, List.set_cons_succ]
    refine wpAnyH_ready (rs := [22]) (by kernel_rfl) (by simp) ?_
    refine AllReadyH.cons (o := { dst := some 54, op := Op.call { callee := Callee.value (Operand.func 10), args := #[Operand.tmp 53], argTypes := #[25] }, type := 33, pos := "law.go:36", after := #[{ on := 21, ground := Ground.data }, { on := 20, ground := Ground.chain }, { on := 20, ground := Ground.guard }], guard := some (20, false) }) rfl (fun K hK => ?_) AllReadyH.nil
    go_simp
    with_reducible refine (CC.out _).mono ?_
    rintro e wa ⟨rfl, hb⟩
    have Kwa := KA.call hb
    clear hb
    go_wp2_with fail
    refine hK.out _ _ Kwa.s (fun hHeld2 => ?_)
    clear hK K hHeld
    have hHeld := hHeld2
    clear hHeld2
    try simp only [Act.put, List.setIfInBounds_toArray, List.set_cons_zero, List.set_cons_succ]
    refine wpAnyH_take (i := 23) (oi := { dst := some 55, op := Op.binOp BinOp.eql 33 (Operand.tmp 54) (Operand.const (Value.int IntKind.i64 0)) 33, type := 4, pos := "law.go:36", after := #[{ on := 22, ground := Ground.data }, { on := 20, ground := Ground.guard }], guard := some (20, false) }) (v := (.bool true)) rfl (by kernel_rfl) (by kernel_rfl) (by kernel_rfl) (fun _ _ _ h => h) (Or.inl ⟨by rfl, fun W hW => ?_⟩) hHeld ?_
    · obtain ⟨s0, s1, s2, s3, s4, s5, s6, s7, s8, s9, _⟩ := hW
      go_simp
    simp only [Act.put, List.setIfInBounds_toArray, List.set_cons_zero, List.set_cons_succ]
    refine wpAnyH_ready (rs := [25]) (by kernel_rfl) (by simp) ?_
    refine AllReadyH.cons (o := { dst := some 57, op := Op.call { callee := Callee.value (Operand.func 11), args := #[Operand.tmp 56], argTypes := #[25] }, type := 4, pos := "law.go:36", after := #[{ on := 24, ground := Ground.data }, { on := 22, ground := Ground.chain }, { on := 20, ground := Ground.guard }], guard := some (20, false) }) rfl (fun K hK => ?_) AllReadyH.nil
    go_simp
    with_reducible refine (CM.out _).mono ?_
    rintro e wb ⟨rfl, hb⟩
    have Kwb := Kwa.call hb
    clear hb
    go_wp2_with fail
    refine hK.out _ _ Kwb.s (fun hHeld2 => ?_)
    clear hK K hHeld
    have hHeld := hHeld2
    clear hHeld2
    try simp only [Act.put, List.setIfInBounds_toArray, List.set_cons_zero, List.set_cons_succ]
    refine wpAnyH_take (i := 26) (oi := { dst := some 58, op := Op.binOp BinOp.neq 4 (Operand.tmp 55) (Operand.tmp 57) 4, type := 4, pos := "law.go:36", after := #[{ on := 23, ground := Ground.data }, { on := 25, ground := Ground.data }, { on := 20, ground := Ground.guard }], guard := some (20, false) }) (v := (.bool false)) rfl (by kernel_rfl) (by kernel_rfl) (by kernel_rfl) (fun _ _ _ h => h) (Or.inl ⟨by rfl, fun W hW => ?_⟩) hHeld ?_
    · obtain ⟨s0, s1, s2, s3, s4, s5, s6, s7, s8, s9, _⟩ := hW
      go_simp
    simp only [Act.put, List.setIfInBounds_toArray, List.set_cons_zero, List.set_cons_succ]
    refine wpAnyH_take (i := 27) (oi := { dst := some 59, op := Op.pick (Operand.tmp 52) (Operand.const (Value.bool true)) (Operand.tmp 58), type := 4, pos := "law.go:36", after := #[{ on := 20, ground := Ground.data }, { on := 26, ground := Ground.data }], guard := none }) (v := (.bool false)) rfl (by kernel_rfl) (by kernel_rfl) (by kernel_rfl) (fun _ _ _ h => h) (Or.inl ⟨by rfl, fun W hW => ?_⟩) hHeld ?_
    · obtain ⟨s0, s1, s2, s3, s4, s5, s6, s7, s8, s9, _⟩ := hW
      go_simp
    simp only [Act.put, List.setIfInBounds_toArray, List.set_cons_zero, List.set_cons_succ]
    refine wpAnyH_take (i := 28) (oi := { dst := some 60, op := Op.move (Operand.tmp 59), type := 4, pos := "law.go:36", after := #[{ on := 27, ground := Ground.data }, { on := 25, ground := Ground.chain }], guard := none }) (v := (.bool false)) rfl (by kernel_rfl) (by kernel_rfl) (by kernel_rfl) (fun _ _ _ h => h) (Or.inl ⟨by rfl, fun W hW => ?_⟩) hHeld ?_
    · obtain ⟨s0, s1, s2, s3, s4, s5, s6, s7, s8, s9, _⟩ := hW
      go_simp
    simp only [Act.put, List.setIfInBounds_toArray, List.set_cons_zero, List.set_cons_succ]
    refine wpAnyH_take (i := 29) (oi := { dst := some 61, op := Op.fieldAddr 25 (Operand.tmp 3) 2, type := 0, pos := "law.go:36", after := #[{ on := 28, ground := Ground.guard }], guard := some (28, false) }) (v := (.pointer (some ⟨w.heap.size, 8, none⟩))) rfl (by kernel_rfl) (by kernel_rfl) (by kernel_rfl) (fun _ _ _ h => h) (Or.inl ⟨by rfl, fun W hW => ?_⟩) hHeld ?_
    · obtain ⟨s0, s1, s2, s3, s4, s5, s6, s7, s8, s9, _⟩ := hW
      go_simp
    simp only [Act.put, List.setIfInBounds_toArray, List.set_cons_zero, List.set_cons_succ]
    refine wpAnyH_take (i := 30) (oi := { dst := some 62, op := Op.load 23 (Operand.tmp 61), type := 23, pos := "law.go:36", after := #[{ on := 29, ground := Ground.data }, { on := 28, ground := Ground.guard }], guard := some (28, false) }) (v := (.agg #[.bool X.mu.a, .bool X.mu.b, .bool X.mu.c, .bool X.mu.d])) rfl (by kernel_rfl) (by kernel_rfl) (by kernel_rfl) (fun _ _ _ h => h) (Or.inl ⟨by rfl, fun W hW => ?_⟩) hHeld ?_
    · obtain ⟨s0, s1, s2, s3, s4, s5, s6, s7, s8, s9, _⟩ := hW
      go_simp
    simp only [Act.put, List.setIfInBounds_toArray, List.set_cons_zero, List.set_cons_succ]
    refine wpAnyH_take (i := 31) (oi := { dst := some 63, op := Op.fieldAddr 25 (Operand.tmp 3) 3, type := 0, pos := "law.go:36", after := #[{ on := 28, ground := Ground.guard }], guard := some (28, false) }) (v := (.pointer (some ⟨w.heap.size, 12, none⟩))) rfl (by kernel_rfl) (by kernel_rfl) (by kernel_rfl) (fun _ _ _ h => h) (Or.inl ⟨by rfl, fun W hW => ?_⟩) hHeld ?_
    · obtain ⟨s0, s1, s2, s3, s4, s5, s6, s7, s8, s9, _⟩ := hW
      go_simp
    simp only [Act.put, List.setIfInBounds_toArray, List.set_cons_zero, List.set_cons_succ]
    refine wpAnyH_take (i := 32) (oi := { dst := some 64, op := Op.load 23 (Operand.tmp 63), type := 23, pos := "law.go:36", after := #[{ on := 31, ground := Ground.data }, { on := 28, ground := Ground.guard }], guard := some (28, false) }) (v := (.agg #[.bool X.mh.a, .bool X.mh.b, .bool X.mh.c, .bool X.mh.d])) rfl (by kernel_rfl) (by kernel_rfl) (by kernel_rfl) (fun _ _ _ h => h) (Or.inl ⟨by rfl, fun W hW => ?_⟩) hHeld ?_
    · obtain ⟨s0, s1, s2, s3, s4, s5, s6, s7, s8, s9, _⟩ := hW
      go_simp
    simp only [Act.put, List.setIfInBounds_toArray, List.set_cons_zero, List.set_cons_succ]
    refine wpAnyH_take (i := 34) (oi := { dst := some 66, op := Op.fieldAddr 25 (Operand.tmp 3) 2, type := 0, pos := "law.go:36", after := #[{ on := 28, ground := Ground.guard }], guard := some (28, false) }) (v := (.pointer (some ⟨w.heap.size, 8, none⟩))) rfl (by kernel_rfl) (by kernel_rfl) (by kernel_rfl) (fun _ _ _ h => h) (Or.inl ⟨by rfl, fun W hW => ?_⟩) hHeld ?_
    · obtain ⟨s0, s1, s2, s3, s4, s5, s6, s7, s8, s9, _⟩ := hW
      go_simp
    simp only [Act.put, List.setIfInBounds_toArray, List.set_cons_zero, List.set_cons_succ]
    refine wpAnyH_take (i := 35) (oi := { dst := some 67, op := Op.load 23 (Operand.tmp 66), type := 23, pos := "law.go:36", after := #[{ on := 34, ground := Ground.data }, { on := 28, ground := Ground.guard }], guard := some (28, false) }) (v := (.agg #[.bool X.mu.a, .bool X.mu.b, .bool X.mu.c, .bool X.mu.d])) rfl (by kernel_rfl) (by kernel_rfl) (by kernel_rfl) (fun _ _ _ h => h) (Or.inl ⟨by rfl, fun W hW => ?_⟩) hHeld ?_
    · obtain ⟨s0, s1, s2, s3, s4, s5, s6, s7, s8, s9, _⟩ := hW
      go_simp
    simp only [Act.put, List.setIfInBounds_toArray, List.set_cons_zero, List.set_cons_succ]
    refine wpAnyH_take (i := 36) (oi := { dst := some 68, op := Op.fieldAddr 25 (Operand.tmp 3) 3, type := 0, pos := "law.go:36", after := #[{ on := 28, ground := Ground.guard }], guard := some (28, false) }) (v := (.pointer (some ⟨w.heap.size, 12, none⟩))) rfl (by kernel_rfl) (by kernel_rfl) (by kernel_rfl) (fun _ _ _ h => h) (Or.inl ⟨by rfl, fun W hW => ?_⟩) hHeld ?_
    · obtain ⟨s0, s1, s2, s3, s4, s5, s6, s7, s8, s9, _⟩ := hW
      go_simp
    simp only [Act.put, List.setIfInBounds_toArray, List.set_cons_zero, List.set_cons_succ]
    refine wpAnyH_take (i := 37) (oi := { dst := some 69, op := Op.load 23 (Operand.tmp 68), type := 23, pos := "law.go:36", after := #[{ on := 36, ground := Ground.data }, { on := 28, ground := Ground.guard }], guard := some (28, false) }) (v := (.agg #[.bool X.mh.a, .bool X.mh.b, .bool X.mh.c, .bool X.mh.d])) rfl (by kernel_rfl) (by kernel_rfl) (by kernel_rfl) (fun _ _ _ h => h) (Or.inl ⟨by rfl, fun W hW => ?_⟩) hHeld ?_
    · obtain ⟨s0, s1, s2, s3, s4, s5, s6, s7, s8, s9, _⟩ := hW
      go_simp
    simp only [Act.put, List.setIfInBounds_toArray, List.set_cons_zero, List.set_cons_succ]
    refine wpAnyH_take (i := 38) (oi := { dst := some 70, op := Op.build 25 #[(2, Operand.tmp 67), (3, Operand.tmp 69)], type := 25, pos := "law.go:36", after := #[{ on := 35, ground := Ground.data }, { on := 37, ground := Ground.data }, { on := 28, ground := Ground.guard }], guard := some (28, false) }) (v := N.v) rfl (by kernel_rfl) (by kernel_rfl) (by kernel_rfl) (fun _ _ _ h => h) (Or.inl ⟨by rfl, fun W hW => ?_⟩) hHeld ?_
    · obtain ⟨s0, s1, s2, s3, s4, s5, s6, s7, s8, s9, _⟩ := hW
      first | (go_simp; done) | (go_simp; rw [HNe.out]; simp; done) | (go_simp; simp [HNe.out]; done)
    simp only [Act.put, List.setIfInBounds_toArray, List.set_cons_zero, List.set_cons_succ]
    refine wpAnyH_ready (rs := [33]) (by kernel_rfl) (by simp) ?_
    refine AllReadyH.cons (o := { dst := some 65, op := Op.call { callee := Callee.value (Operand.func 12), args := #[Operand.tmp 62, Operand.tmp 64], argTypes := #[23, 23] }, type := 25, pos := "law.go:36", after := #[{ on := 30, ground := Ground.data }, { on := 32, ground := Ground.data }, { on := 28, ground := Ground.chain }, { on := 28, ground := Ground.guard }], guard := some (28, false) }) rfl (fun K hK => ?_) AllReadyH.nil
    go_simp
    with_reducible refine (CN.out _).mono ?_
    rintro e wc ⟨rfl, hb⟩
    have Kwc := Kwb.call hb
    clear hb
    go_wp2_with fail
    refine hK.out _ _ Kwc.s (fun hHeld2 => ?_)
    clear hK K hHeld
    have hHeld := hHeld2
    clear hHeld2
    try simp only [Act.put, List.setIfInBounds_toArray, List.set_cons_zero, List.set_cons_succ]
    refine wpAnyH_take (i := 39) (oi := { dst := some 71, op := Op.binOp BinOp.neq 25 (Operand.tmp 65) (Operand.tmp 70) 25, type := 4, pos := "law.go:36", after := #[{ on := 33, ground := Ground.data }, { on := 38, ground := Ground.data }, { on := 28, ground := Ground.guard }], guard := some (28, false) }) (v := (.bool false)) rfl (by kernel_rfl) (by kernel_rfl) (by kernel_rfl) (fun _ _ _ h => h) (Or.inl ⟨by rfl, fun W hW => ?_⟩) hHeld ?_
    · obtain ⟨s0, s1, s2, s3, s4, s5, s6, s7, s8, s9, _⟩ := hW
      first | (go_simp; done) | (go_simp; rw [HNe.out]; simp; done) | (go_simp; simp [HNe.out]; done)
    simp only [Act.put, List.setIfInBounds_toArray, List.set_cons_zero, List.set_cons_succ]
    refine wpAnyH_take (i := 40) (oi := { dst := some 72, op := Op.pick (Operand.tmp 60) (Operand.const (Value.bool true)) (Operand.tmp 71), type := 4, pos := "law.go:36", after := #[{ on := 28, ground := Ground.data }, { on := 39, ground := Ground.data }], guard := none }) (v := (.bool false)) rfl (by kernel_rfl) (by kernel_rfl) (by kernel_rfl) (fun _ _ _ h => h) (Or.inl ⟨by rfl, fun W hW => ?_⟩) hHeld ?_
    · obtain ⟨s0, s1, s2, s3, s4, s5, s6, s7, s8, s9, _⟩ := hW
      go_simp
    simp only [Act.put, List.setIfInBounds_toArray, List.set_cons_zero, List.set_cons_succ]
    refine wpAnyH_take (i := 41) (oi := { dst := some 73, op := Op.move (Operand.tmp 72), type := 4, pos := "law.go:36", after := #[{ on := 40, ground := Ground.data }, { on := 33, ground := Ground.chain }], guard := none }) (v := (.bool false)) rfl (by kernel_rfl) (by kernel_rfl) (by kernel_rfl) (fun _ _ _ h => h) (Or.inl ⟨by rfl, fun W hW => ?_⟩) hHeld ?_
    · obtain ⟨s0, s1, s2, s3, s4, s5, s6, s7, s8, s9, _⟩ := hW
      go_simp
    simp only [Act.put, List.setIfInBounds_toArray, List.set_cons_zero, List.set_cons_succ]
    refine wpAnyH_take (i := 42) (oi := { dst := some 74, op := Op.load 25 (Operand.tmp 3), type := 25, pos := "law.go:36", after := #[{ on := 41, ground := Ground.guard }], guard := some (41, false) }) (v := (.agg X.cs.toArray)) rfl (by kernel_rfl) (by kernel_rfl) (by kernel_rfl) (fun _ _ _ h => h) (Or.inl ⟨by rfl, fun W hW => ?_⟩) hHeld ?_
    · obtain ⟨s0, s1, s2, s3, s4, s5, s6, s7, s8, s9, _⟩ := hW
      go_simp
    simp only [Act.put, List.setIfInBounds_toArray, List.set_cons_zero, List.set_cons_succ]
    refine wpAnyH_take (i := 43) (oi := { dst := some 75, op := Op.load 25 (Operand.tmp 3), type := 25, pos := "law.go:36", after := #[{ on := 41, ground := Ground.guard }], guard := some (41, false) }) (v := (.agg X.cs.toArray)) rfl (by kernel_rfl) (by kernel_rfl) (by kernel_rfl) (fun _ _ _ h => h) (Or.inl ⟨by rfl, fun W hW => ?_⟩) hHeld ?_
    · obtain ⟨s0, s1, s2, s3, s4, s5, s6, s7, s8, s9, _⟩ := hW
      go_simp
    simp only [Act.put, List.setIfInBounds_toArray, List.set_cons_zero, List.set_cons_succ]
    refine wpAnyH_ready (rs := [44]) (by kernel_rfl) (by simp) ?_
    refine AllReadyH.cons (o := { dst := some 76, op := Op.call { callee := Callee.value (Operand.func 13), args := #[Operand.tmp 74, Operand.tmp 75], argTypes := #[25, 25] }, type := 4, pos := "law.go:36", after := #[{ on := 42, ground := Ground.data }, { on := 43, ground := Ground.data }, { on := 41, ground := Ground.chain }, { on := 41, ground := Ground.guard }], guard := some (41, false) }) rfl (fun K hK => ?_) AllReadyH.nil
    go_simp
    with_reducible refine (CS.out _).mono ?_
    rintro e wd ⟨rfl, hb⟩
    have Kwd := Kwc.call hb
    clear hb
    go_wp2_with fail
    refine hK.out _ _ Kwd.s (fun hHeld2 => ?_)
    clear hK K hHeld
    have hHeld := hHeld2
    clear hHeld2
    try simp only [Act.put, List.setIfInBounds_toArray, List.set_cons_zero, List.set_cons_succ]
    refine wpAnyH_take (i := 45) (oi := { dst := some 77, op := Op.unOp UnOp.not 4 (Operand.tmp 76), type := 4, pos := "law.go:36", after := #[{ on := 44, ground := Ground.data }, { on := 41, ground := Ground.guard }], guard := some (41, false) }) (v := (.bool false)) rfl (by kernel_rfl) (by kernel_rfl) (by kernel_rfl) (fun _ _ _ h => h) (Or.inl ⟨by rfl, fun W hW => ?_⟩) hHeld ?_
    · obtain ⟨s0, s1, s2, s3, s4, s5, s6, s7, s8, s9, _⟩ := hW
      go_simp
    simp only [Act.put, List.setIfInBounds_toArray, List.set_cons_zero, List.set_cons_succ]
    refine wpAnyH_take (i := 46) (oi := { dst := some 78, op := Op.pick (Operand.tmp 73) (Operand.const (Value.bool true)) (Operand.tmp 77), type := 4, pos := "law.go:36", after := #[{ on := 41, ground := Ground.data }, { on := 45, ground := Ground.data }], guard := none }) (v := (.bool false)) rfl (by kernel_rfl) (by kernel_rfl) (by kernel_rfl) (fun _ _ _ h => h) (Or.inl ⟨by rfl, fun W hW => ?_⟩) hHeld ?_
    · obtain ⟨s0, s1, s2, s3, s4, s5, s6, s7, s8, s9, _⟩ := hW
      go_simp
    simp only [Act.put, List.setIfInBounds_toArray, List.set_cons_zero, List.set_cons_succ]
    refine wpAnyH_done (by kernel_rfl) ?_ _
    have KW := keepd Kwd
    clear KA Kwa Kwb Kwc Kwd hHeld
    go_wp2_with fail
    go_meet
    exact ⟨rfl, KW⟩
  case rest =>
  obtain ⟨rfl, T0⟩ := hcut
  have CR := keepd sameRow_any
  have HO1 := keepd ho1
  have HO2 := keepd ho2
  have z1 : gotF X v c = (X, [], 1) := by unfold gotF; rw [HH.out, ho1, Bool.true_and, if_pos rfl]
  rw [z1] at CG
  clear z1
  have z2 : askF X hm p on = (X, [], 1) := by unfold askF; rw [HH.out, ho2, Bool.true_and, if_pos rfl]
  rw [z2] at CK
  clear z2
  clear ho1 ho2
  have d0 := T0.out.v.cell 0
  have d1 := T0.out.v.cell 1
  have e0 := T0.out.k.cell 0
  have e1 := T0.out.k.cell 1
  have e2 := T0.out.k.cell 2
  simp only [List.getElem?_cons_succ, List.getElem?_cons_zero] at d0 d1 e0 e1 e2
  obtain ⟨r1, k1⟩ := T0.out.x.facts 16 rfl
  go_wp2_with fail
  with_reducible refine (CG.out _ ((LaidA.laid HL.out).below T0.out.b)).mono ?_
  rintro e w3 ⟨sl, rfl, ho, hb⟩
  have T0 := keepd (T0.out.call hb)
  have O1 := keepd (ho.base (base' := 0) (Nat.zero_le _))
  clear ho hb CG
  clear d0 d1 e0 e1 e2 r1 k1
  go_upto_region 6 with fail
  generalize hW : w3.alloc (.cells X.cs.toArray 25) = W3
  obtain ⟨h1, hb, h3⟩ := one_new _ _ _ _ hW
  have T0 := keepd (T0.out.call hb)
  have O1 := keepd (O1.out.below hb)
  generalize w3.heap.size = bY at *
  have HY := keepd h1
  clear h1 hb h3 hW
  have d0 := T0.out.v.cell 0
  have d1 := T0.out.v.cell 1
  have e0 := T0.out.k.cell 0
  have e1 := T0.out.k.cell 1
  have e2 := T0.out.k.cell 2
  simp only [List.getElem?_cons_succ, List.getElem?_cons_zero] at d0 d1 e0 e1 e2
  obtain ⟨r1, k1⟩ := T0.out.x.facts 16 rfl
  go_wp2_with fail
  with_reducible refine (CK.out _ (HL.out.below T0.out.b)).mono ?_
  rintro e w4 ⟨sm, rfl, ho, hb⟩
  have T0 := keepd (T0.out.call hb)
  have O1 := keepd (O1.out.below hb)
  have HY := keepd (HY.out.call hb HY.out.lt)
  have O2 := keepd (ho.base (base' := 0) (Nat.zero_le _))
  clear ho hb CK
  clear d0 d1 e0 e1 e2 r1 k1
  go_upto_region 7 with fail
  generalize hW : w4.alloc (.cells X.cs.toArray 25) = W4
  obtain ⟨h1, hb, h3⟩ := one_new _ _ _ _ hW
  have T0 := keepd (T0.out.call hb)
  have O1 := keepd (O1.out.below hb)
  have HY := keepd (HY.out.call hb HY.out.lt)
  have O2 := keepd (O2.out.below hb)
  generalize w4.heap.size = bZ at *
  have HZ := keepd h1
  clear h1 hb h3 hW
  obtain ⟨r1, k1⟩ := T0.out.x.facts 16 rfl
  go_wp2_with fail
  with_reducible refine (CM.out _).mono ?_
  rintro e w5 ⟨rfl, hb⟩
  have T0 := keepd (T0.out.call hb)
  have O1 := keepd (O1.out.below hb)
  have HY := keepd (HY.out.call hb HY.out.lt)
  have O2 := keepd (O2.out.below hb)
  have HZ := keepd (HZ.out.call hb HZ.out.lt)
  clear hb CM r1 k1
  have d0 := T0.out.v.cell 0
  have d1 := T0.out.v.cell 1
  have e0 := T0.out.k.cell 0
  have e1 := T0.out.k.cell 1
  have e2 := T0.out.k.cell 2
  simp only [List.getElem?_cons_succ, List.getElem?_cons_zero] at d0 d1 e0 e1 e2
  obtain ⟨r1, k1⟩ := T0.out.x.facts 16 rfl
  go_upto_region 8 with fail
  go_cut [124] (fun s124 wx => s124 = .bool true ∧ wx = w5)
  case first =>
    rcases bad4 HO1.out with q1 | ⟨q1, q2⟩ | ⟨q1, q2, q3⟩ | ⟨q1, q2, q3, q4⟩
    all_goals
      go_wp2_with fail
      go_meet
      exact ⟨rfl, rfl⟩
  case rest =>
  obtain ⟨rfl, rfl⟩ := hcut
  have hsX := sameO_self X
  obtain ⟨ry, ky⟩ := HY.out.facts 16 rfl
  have hsl := O1.out.ans0
  subst hsl
  clear O1
  go_upto_region 14 with fail
  clear ry ky
  go_cut [172] (fun s172 wx => s172 = .bool true ∧ wx = wc)
  case first =>
    rcases bad2 HO2.out with q1 | ⟨q1, q2⟩
    all_goals
      go_wp2_with fail
      go_meet
      exact ⟨rfl, rfl⟩
  case rest =>
  obtain ⟨rfl, rfl⟩ := hcut
  have hsX' := sameO_self X
  obtain ⟨rz, kz⟩ := HZ.out.facts 16 rfl
  have hsm := O2.out.ans0
  subst hsm
  clear O2
  go_wp2_with fail
  with_reducible refine (CA.out _ ((LaidA.laid HL.out).below T0.out.b)).mono ?_
  rintro e w9 ⟨rfl, hb⟩
  have HB := keepd (bCall T0.out.b hb)
  clear hb CA
  go_wp2_with fail
  go_ret
  exact ⟨rfl, HB.out⟩

end Go.Proofs.YtlgcfpdmklieiaaDoor
