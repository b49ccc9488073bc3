/-
  The law SlcMarks, of an octet that is no second one. No conditions beyond those each theorem states.
-/
import Derived.Test.YtemmdknnmhdhkaaDoorL3
namespace Go.Proofs.YtemmdknnmhdhkaaDoor
open Go.RowKit
set_option maxRecDepth 100000

set_option maxHeartbeats 1000000 in
theorem marks_no (X : Tr) (m : UInt8) (hs : isS m = false) (w : World) (hL : Laid w) :
    Calls Tryd.prog 6 #[.agg #[.int .i64 X.f, .int .i64 X.lv, .bool X.a, .bool X.i, .bool X.o, .int .u8 (X.v.toNat : Int)], .int .u8 (m.toNat : Int)] w
      fun e w' => e = .returned (.bool true) ∧ Below w.heap.size w w' := by
  have HL := keepd hL
  clear hL
  obtain ⟨P, hP⟩ : ∃ P, putL [X] = P := ⟨_, rfl⟩
  obtain ⟨z, hz⟩ : ∃ z, P.length = z := ⟨_, rfl⟩
  obtain ⟨er, he⟩ : ∃ er, perr [X] = er := ⟨_, rfl⟩
  have HP := keepd hP
  have HZ := keepd hz
  have HE := keepd he
  clear hP hz he
  obtain ⟨_, b128, b64, b32, _, h28⟩ := bits_of m
  have hml := m.toNat_lt
  go_enter Tryd.func6, Tryd.ntmps6
  go_upto_region 1 with fail
  generalize hW : w.alloc (.cells X.vs.toArray 29) = W
  have s0 : SR 29 W w.heap.size X.vs := by subst hW; exact SR.new 29 w X.vs
  have bW : Below w.heap.size w W := by subst hW; exact bAlloc (Below.refl _ _) _
  obtain ⟨a, ha⟩ : ∃ a, w.heap.size = a := ⟨_, rfl⟩
  rw [ha] at s0
  rw [ha]
  have HS0 := keepd s0
  have HB := keepd bW
  clear hW s0 bW
  obtain ⟨g1, g2⟩ := got_no (get3_no m hs)
  have HG1 := keepd g1
  have HG2 := keepd g2
  rw [hs] at h28
  clear g1 g2 hs b128 b64 b32
  go_wp2_with fail
  with_reducible refine (get_any _ [7, m, 9] 3 3 [] 0 2 _ rfl (by decide) (three_rd W m) HG1.out rfl HG2.out).mono ?_
  rintro e w1 ⟨A1, c1, rfl, hr1, hb1⟩
  have hb : Below W.heap.size W w1 := upA hb1
  have s0 := HS0.out.call hb HS0.out.lt
  have HB1 := keepd (bCall HB.out hb)
  clear HS0 hb hb1 hr1 HB
  have HS0 := keepd s0
  obtain ⟨q0, q1, q2, q3, q4, q5⟩ := sr6 s0
  clear s0
  go_wp2_with fail
  with_reducible refine (put_any _ [X] 1 1 P z er _ rfl (by decide) (one_rdT w1 X) HP.out HZ.out HE.out).mono ?_
  rintro e w2 ⟨A2, c2, rfl, hr2, hb2⟩
  have hb : Below w1.heap.size w1 w2 := upA hb2
  have s0 := HS0.out.call hb HS0.out.lt
  have HB2 := keepd (bCall HB1.out hb)
  have HR2 := keepd hr2
  clear HS0 hb hb2 hr2 HB1 q0 q1 q2 q3 q4 q5
  have HS0 := keepd s0
  clear s0 h28 hml
  cases hm : X.may
  · obtain ⟨p1, p2⟩ := put1_no hm
    rw [HP.out] at p1
    rw [HE.out] at p2
    subst p1 p2
    have hz0 := HZ.out
    simp at hz0
    subst hz0
    have HA := keepd (awake_any w2 (HL.out.below HB2.out))
    clear hm
    go_wp2_with fail
    with_reducible refine HA.out.mono ?_
    rintro e w3 ⟨rfl, hb⟩
    go_wp2
    go_ret
    exact ⟨rfl, bCall HB2.out hb⟩
  · obtain ⟨p1, p2⟩ := put1_yes hm
    rw [HP.out] at p1
    rw [HE.out] at p2
    subst p1 p2
    have hz0 := HZ.out
    simp at hz0
    subst hz0
    have HM := keepd hm
    clear hm
    obtain ⟨q0, q1, q2, q3, q4, q5⟩ := sr6 HS0.out
    obtain ⟨t1, t2⟩ := put1_yes (X := { X with a := !X.a }) HM.out
    have HT1 := keepd t1
    have HT2 := keepd t2
    have HX := keepd (sec_xor X HM.out)
    have HF2 := keepd (flip_rd w2 X)
    clear t1 t2
    go_wp2_with fail
    with_reducible refine (put_any _ [{ X with a := !X.a }] 1 1 _ 3 0 _ rfl (by decide) (HF2.out _) HT1.out rfl HT2.out).mono ?_
    rintro e w3 ⟨A3, c3, rfl, hr3, hb3⟩
    have hb : Below w2.heap.size w2 w3 := upA (upA hb3)
    have HB3 := keepd (bCall HB2.out hb)
    have hr2 := HR2.out.at_ hb
    have HL3 := keepd (HL.out.below HB3.out)
    have k1 := hr2.len
    have k2 := hr3.len
    simp only [List.length_cons, List.length_nil] at k1 k2
    unfold maxLen at k1 k2
    obtain ⟨k1, k1'⟩ := k1
    obtain ⟨k2, k2'⟩ := k2
    clear hb hb3 HB2 HR2 HF2 HT1 HT2 q0 q1 q2 q3 q4 q5 HS0
    have hx := HX.out
    generalize ({ X with a := !X.a } : Tr).sec = T at *
    generalize u8 X.f = F at *
    generalize X.sec = S at *
    generalize X.v = U at *
    clear HX
    obtain ⟨g2, o2, rfl, hg2, x0⟩ := hr2.form (k := 0) (by simp)
    obtain ⟨g', o', hA, _, x1⟩ := hr2.form (k := 1) (by simp)
    simp only [Option.some.injEq, Addr.mk.injEq, and_true] at hA
    obtain ⟨rfl, rfl⟩ := hA
    obtain ⟨g', o', hA, _, x2⟩ := hr2.form (k := 2) (by simp)
    simp only [Option.some.injEq, Addr.mk.injEq, and_true] at hA
    obtain ⟨rfl, rfl⟩ := hA
    obtain ⟨g3, o3, rfl, hg3, y0⟩ := hr3.form (k := 0) (by simp)
    obtain ⟨g', o', hA, _, y1⟩ := hr3.form (k := 1) (by simp)
    simp only [Option.some.injEq, Addr.mk.injEq, and_true] at hA
    obtain ⟨rfl, rfl⟩ := hA
    obtain ⟨g', o', hA, _, y2⟩ := hr3.form (k := 2) (by simp)
    simp only [Option.some.injEq, Addr.mk.injEq, and_true] at hA
    obtain ⟨rfl, rfl⟩ := hA
    simp only [Nat.add_zero, List.getElem_cons_zero, List.getElem_cons_succ] at x0 x1 x2 y0 y1 y2
    have D0 := keepd x0
    have D1 := keepd x1
    have D2 := keepd x2
    have E0 := keepd y0
    have E1 := keepd y1
    have E2 := keepd y2
    have HA : Hid (∀ W, Below w3.heap.size w3 W → Calls Tryd.prog 23 #[] W fun e w' => e = .returned (.bool true) ∧ Below W.heap.size W w') := fun W hW => awake_any W (HL3.out.below hW)
    have v0 : ((F.toNat : Int) == (F.toNat : Int)) = true := by simp
    have v1 : ((U.toNat : Int) == (U.toNat : Int)) = true := by simp
    have v2 : (bits .xor .u8 (S.toNat : Int) (T.toNat : Int) == 128) = true := by rw [hx]; rfl
    clear hr2 hr3 hx
    go_wp2_with fail
    refine wp_region_held_drew (S := (fun W => W.cell? ⟨g2, o2, none⟩ = some (.int .u8 (F.toNat : Int)) ∧ W.cell? ⟨g2, o2 + 1, none⟩ = some (.int .u8 (S.toNat : Int)) ∧ W.cell? ⟨g2, o2 + 2, none⟩ = some (.int .u8 (U.toNat : Int)) ∧ W.cell? ⟨g3, o3, none⟩ = some (.int .u8 (F.toNat : Int)) ∧ W.cell? ⟨g3, o3 + 1, none⟩ = some (.int .u8 (T.toNat : Int)) ∧ W.cell? ⟨g3, o3 + 2, none⟩ = some (.int .u8 (U.toNat : Int)) ∧ Below w3.heap.size w3 W)) (by kernel_rfl) (sSix D0.out D1.out D2.out E0.out E1.out E2.out hg2 hg3 (Below.refl w3.heap.size w3).drew) (fun hHeld => ?_)
    refine wpAnyH_take (i := 0) (oi := { dst := some 109, op := Op.move (Operand.tmp 11), type := 26, pos := "law.go:103", after := #[], guard := none }) (v := (.int .i64 0)) rfl (by kernel_rfl) (by kernel_rfl) (by kernel_rfl) (fun _ _ _ h => h) (Or.inl ⟨by rfl, fun W hW => ?_⟩) hHeld ?_
    · obtain ⟨z0, z1, z2, z3, z4, z5, _⟩ := hW
      go_simp
    simp only [Act.put, List.setIfInBounds_toArray, List.set_cons_zero, List.set_cons_succ]
    refine wpAnyH_take (i := 1) (oi := { dst := some 110, op := Op.binOp BinOp.eql 26 (Operand.tmp 109) (Operand.const (Value.int IntKind.i64 0)) 26, type := 4, pos := "law.go:103", after := #[{ on := 0, ground := Ground.data }], guard := none }) (v := (.bool true)) rfl (by kernel_rfl) (by kernel_rfl) (by kernel_rfl) (fun _ _ _ h => h) (Or.inl ⟨by rfl, fun W hW => ?_⟩) hHeld ?_
    · obtain ⟨z0, z1, z2, z3, z4, z5, _⟩ := hW
      go_simp
    simp only [Act.put, List.setIfInBounds_toArray, List.set_cons_zero, List.set_cons_succ]
    refine wpAnyH_take (i := 2) (oi := { dst := some 111, op := Op.move (Operand.tmp 110), type := 4, pos := "law.go:103", after := #[{ on := 1, ground := Ground.data }], guard := none }) (v := (.bool true)) rfl (by kernel_rfl) (by kernel_rfl) (by kernel_rfl) (fun _ _ _ h => h) (Or.inl ⟨by rfl, fun W hW => ?_⟩) hHeld ?_
    · obtain ⟨z0, z1, z2, z3, z4, z5, _⟩ := hW
      go_simp
    simp only [Act.put, List.setIfInBounds_toArray, List.set_cons_zero, List.set_cons_succ]
    refine wpAnyH_take (i := 3) (oi := { dst := some 112, op := Op.move (Operand.tmp 7), type := 23, pos := "law.go:103", after := #[{ on := 2, ground := Ground.guard }], guard := some (2, true) }) (v := (.slice (some ⟨g2, o2, none⟩) 3 c2)) rfl (by kernel_rfl) (by kernel_rfl) (by kernel_rfl) (fun _ _ _ h => h) (Or.inl ⟨by rfl, fun W hW => ?_⟩) hHeld ?_
    · obtain ⟨z0, z1, z2, z3, z4, z5, _⟩ := hW
      go_simp
    simp only [Act.put, List.setIfInBounds_toArray, List.set_cons_zero, List.set_cons_succ]
    refine wpAnyH_take (i := 4) (oi := { dst := some 113, op := Op.call { callee := Callee.builtin Builtin.len, args := #[Operand.tmp 112], argTypes := #[23] }, type := 3, pos := "law.go:103", after := #[{ on := 3, ground := Ground.data }, { on := 2, ground := Ground.guard }], guard := some (2, true) }) (v := (.int .i64 3)) rfl (by kernel_rfl) (by kernel_rfl) (by kernel_rfl) (fun _ _ _ h => h) (Or.inl ⟨by rfl, fun W hW => ?_⟩) hHeld ?_
    · obtain ⟨z0, z1, z2, z3, z4, z5, _⟩ := hW
      go_simp
    simp only [Act.put, List.setIfInBounds_toArray, List.set_cons_zero, List.set_cons_succ]
    refine wpAnyH_take (i := 5) (oi := { dst := some 114, op := Op.binOp BinOp.eql 3 (Operand.tmp 113) (Operand.const (Value.int IntKind.i64 3)) 3, type := 4, pos := "law.go:103", after := #[{ on := 4, ground := Ground.data }, { on := 2, ground := Ground.guard }], guard := some (2, true) }) (v := (.bool true)) rfl (by kernel_rfl) (by kernel_rfl) (by kernel_rfl) (fun _ _ _ h => h) (Or.inl ⟨by rfl, fun W hW => ?_⟩) hHeld ?_
    · obtain ⟨z0, z1, z2, z3, z4, z5, _⟩ := hW
      go_simp
    simp only [Act.put, List.setIfInBounds_toArray, List.set_cons_zero, List.set_cons_succ]
    refine wpAnyH_take (i := 6) (oi := { dst := some 115, op := Op.pick (Operand.tmp 111) (Operand.tmp 114) (Operand.const (Value.bool false)), type := 4, pos := "law.go:103", after := #[{ on := 2, ground := Ground.data }, { on := 5, ground := Ground.data }], guard := none }) (v := (.bool true)) rfl (by kernel_rfl) (by kernel_rfl) (by kernel_rfl) (fun _ _ _ h => h) (Or.inl ⟨by rfl, fun W hW => ?_⟩) hHeld ?_
    · obtain ⟨z0, z1, z2, z3, z4, z5, _⟩ := hW
      go_simp
    simp only [Act.put, List.setIfInBounds_toArray, List.set_cons_zero, List.set_cons_succ]
    refine wpAnyH_take (i := 7) (oi := { dst := some 116, op := Op.move (Operand.tmp 115), type := 4, pos := "law.go:103", after := #[{ on := 6, ground := Ground.data }, { on := 2, ground := Ground.chain }], guard := none }) (v := (.bool true)) rfl (by kernel_rfl) (by kernel_rfl) (by kernel_rfl) (fun _ _ _ h => h) (Or.inl ⟨by rfl, fun W hW => ?_⟩) hHeld ?_
    · obtain ⟨z0, z1, z2, z3, z4, z5, _⟩ := hW
      go_simp
    simp only [Act.put, List.setIfInBounds_toArray, List.set_cons_zero, List.set_cons_succ]
    refine wpAnyH_take (i := 8) (oi := { dst := some 117, op := Op.move (Operand.tmp 10), type := 23, pos := "law.go:103", after := #[{ on := 7, ground := Ground.guard }], guard := some (7, true) }) (v := (.slice (some ⟨g3, o3, none⟩) 3 c3)) rfl (by kernel_rfl) (by kernel_rfl) (by kernel_rfl) (fun _ _ _ h => h) (Or.inl ⟨by rfl, fun W hW => ?_⟩) hHeld ?_
    · obtain ⟨z0, z1, z2, z3, z4, z5, _⟩ := hW
      go_simp
    simp only [Act.put, List.setIfInBounds_toArray, List.set_cons_zero, List.set_cons_succ]
    refine wpAnyH_take (i := 9) (oi := { dst := some 118, op := Op.call { callee := Callee.builtin Builtin.len, args := #[Operand.tmp 117], argTypes := #[23] }, type := 3, pos := "law.go:103", after := #[{ on := 8, ground := Ground.data }, { on := 7, ground := Ground.guard }], guard := some (7, true) }) (v := (.int .i64 3)) rfl (by kernel_rfl) (by kernel_rfl) (by kernel_rfl) (fun _ _ _ h => h) (Or.inl ⟨by rfl, fun W hW => ?_⟩) hHeld ?_
    · obtain ⟨z0, z1, z2, z3, z4, z5, _⟩ := hW
      go_simp
    simp only [Act.put, List.setIfInBounds_toArray, List.set_cons_zero, List.set_cons_succ]
    refine wpAnyH_take (i := 10) (oi := { dst := some 119, op := Op.binOp BinOp.eql 3 (Operand.tmp 118) (Operand.const (Value.int IntKind.i64 3)) 3, type := 4, pos := "law.go:103", after := #[{ on := 9, ground := Ground.data }, { on := 7, ground := Ground.guard }], guard := some (7, true) }) (v := (.bool true)) rfl (by kernel_rfl) (by kernel_rfl) (by kernel_rfl) (fun _ _ _ h => h) (Or.inl ⟨by rfl, fun W hW => ?_⟩) hHeld ?_
    · obtain ⟨z0, z1, z2, z3, z4, z5, _⟩ := hW
      go_simp
    simp only [Act.put, List.setIfInBounds_toArray, List.set_cons_zero, List.set_cons_succ]
    refine wpAnyH_take (i := 11) (oi := { dst := some 120, op := Op.pick (Operand.tmp 116) (Operand.tmp 119) (Operand.const (Value.bool false)), type := 4, pos := "law.go:103", after := #[{ on := 7, ground := Ground.data }, { on := 10, ground := Ground.data }], guard := none }) (v := (.bool true)) rfl (by kernel_rfl) (by kernel_rfl) (by kernel_rfl) (fun _ _ _ h => h) (Or.inl ⟨by rfl, fun W hW => ?_⟩) hHeld ?_
    · obtain ⟨z0, z1, z2, z3, z4, z5, _⟩ := hW
      go_simp
    simp only [Act.put, List.setIfInBounds_toArray, List.set_cons_zero, List.set_cons_succ]
    refine wpAnyH_take (i := 12) (oi := { dst := some 121, op := Op.move (Operand.tmp 120), type := 4, pos := "law.go:103", after := #[{ on := 11, ground := Ground.data }, { on := 7, ground := Ground.chain }], guard := none }) (v := (.bool true)) rfl (by kernel_rfl) (by kernel_rfl) (by kernel_rfl) (fun _ _ _ h => h) (Or.inl ⟨by rfl, fun W hW => ?_⟩) hHeld ?_
    · obtain ⟨z0, z1, z2, z3, z4, z5, _⟩ := hW
      go_simp
    simp only [Act.put, List.setIfInBounds_toArray, List.set_cons_zero, List.set_cons_succ]
    refine wpAnyH_take (i := 13) (oi := { dst := some 122, op := Op.move (Operand.tmp 7), type := 23, pos := "law.go:103", after := #[{ on := 12, ground := Ground.guard }], guard := some (12, true) }) (v := (.slice (some ⟨g2, o2, none⟩) 3 c2)) rfl (by kernel_rfl) (by kernel_rfl) (by kernel_rfl) (fun _ _ _ h => h) (Or.inl ⟨by rfl, fun W hW => ?_⟩) hHeld ?_
    · obtain ⟨z0, z1, z2, z3, z4, z5, _⟩ := hW
      go_simp
    simp only [Act.put, List.setIfInBounds_toArray, List.set_cons_zero, List.set_cons_succ]
    refine wpAnyH_take (i := 14) (oi := { dst := some 123, op := Op.indexAddr 23 (Operand.tmp 122) (Operand.const (Value.int IntKind.i64 0)), type := 0, pos := "law.go:103", after := #[{ on := 13, ground := Ground.data }, { on := 12, ground := Ground.guard }], guard := some (12, true) }) (v := (.pointer (some ⟨g2, o2, none⟩))) rfl (by kernel_rfl) (by kernel_rfl) (by kernel_rfl) (fun _ _ _ h => h) (Or.inl ⟨by rfl, fun W hW => ?_⟩) hHeld ?_
    · obtain ⟨z0, z1, z2, z3, z4, z5, _⟩ := hW
      go_simp
    simp only [Act.put, List.setIfInBounds_toArray, List.set_cons_zero, List.set_cons_succ]
    refine wpAnyH_take (i := 15) (oi := { dst := some 124, op := Op.load 5 (Operand.tmp 123), type := 5, pos := "law.go:103", after := #[{ on := 14, ground := Ground.data }, { on := 12, ground := Ground.guard }], guard := some (12, true) }) (v := (.int .u8 (F.toNat : Int))) rfl (by kernel_rfl) (by kernel_rfl) (by kernel_rfl) (fun _ _ _ h => h) (Or.inl ⟨by rfl, fun W hW => ?_⟩) hHeld ?_
    · obtain ⟨z0, z1, z2, z3, z4, z5, _⟩ := hW
      go_simp
    simp only [Act.put, List.setIfInBounds_toArray, List.set_cons_zero, List.set_cons_succ]
    refine wpAnyH_take (i := 16) (oi := { dst := some 125, op := Op.move (Operand.tmp 10), type := 23, pos := "law.go:103", after := #[{ on := 12, ground := Ground.guard }], guard := some (12, true) }) (v := (.slice (some ⟨g3, o3, none⟩) 3 c3)) rfl (by kernel_rfl) (by kernel_rfl) (by kernel_rfl) (fun _ _ _ h => h) (Or.inl ⟨by rfl, fun W hW => ?_⟩) hHeld ?_
    · obtain ⟨z0, z1, z2, z3, z4, z5, _⟩ := hW
      go_simp
    simp only [Act.put, List.setIfInBounds_toArray, List.set_cons_zero, List.set_cons_succ]
    refine wpAnyH_take (i := 17) (oi := { dst := some 126, op := Op.indexAddr 23 (Operand.tmp 125) (Operand.const (Value.int IntKind.i64 0)), type := 0, pos := "law.go:103", after := #[{ on := 16, ground := Ground.data }, { on := 12, ground := Ground.guard }], guard := some (12, true) }) (v := (.pointer (some ⟨g3, o3, none⟩))) rfl (by kernel_rfl) (by kernel_rfl) (by kernel_rfl) (fun _ _ _ h => h) (Or.inl ⟨by rfl, fun W hW => ?_⟩) hHeld ?_
    · obtain ⟨z0, z1, z2, z3, z4, z5, _⟩ := hW
      go_simp
    simp only [Act.put, List.setIfInBounds_toArray, List.set_cons_zero, List.set_cons_succ]
    refine wpAnyH_take (i := 18) (oi := { dst := some 127, op := Op.load 5 (Operand.tmp 126), type := 5, pos := "law.go:103", after := #[{ on := 17, ground := Ground.data }, { on := 12, ground := Ground.guard }], guard := some (12, true) }) (v := (.int .u8 (F.toNat : Int))) rfl (by kernel_rfl) (by kernel_rfl) (by kernel_rfl) (fun _ _ _ h => h) (Or.inl ⟨by rfl, fun W hW => ?_⟩) hHeld ?_
    · obtain ⟨z0, z1, z2, z3, z4, z5, _⟩ := hW
      go_simp
    simp only [Act.put, List.setIfInBounds_toArray, List.set_cons_zero, List.set_cons_succ]
    refine wpAnyH_take (i := 19) (oi := { dst := some 128, op := Op.binOp BinOp.eql 5 (Operand.tmp 124) (Operand.tmp 127) 5, type := 4, pos := "law.go:103", after := #[{ on := 15, ground := Ground.data }, { on := 18, ground := Ground.data }, { on := 12, ground := Ground.guard }], guard := some (12, true) }) (v := (.bool true)) rfl (by kernel_rfl) (by kernel_rfl) (by kernel_rfl) (fun _ _ _ h => h) (Or.inl ⟨by rfl, fun W hW => ?_⟩) hHeld ?_
    · obtain ⟨z0, z1, z2, z3, z4, z5, _⟩ := hW
      go_simp
    simp only [Act.put, List.setIfInBounds_toArray, List.set_cons_zero, List.set_cons_succ]
    refine wpAnyH_take (i := 20) (oi := { dst := some 129, op := Op.pick (Operand.tmp 121) (Operand.tmp 128) (Operand.const (Value.bool false)), type := 4, pos := "law.go:103", after := #[{ on := 12, ground := Ground.data }, { on := 19, ground := Ground.data }], guard := none }) (v := (.bool true)) rfl (by kernel_rfl) (by kernel_rfl) (by kernel_rfl) (fun _ _ _ h => h) (Or.inl ⟨by rfl, fun W hW => ?_⟩) hHeld ?_
    · obtain ⟨z0, z1, z2, z3, z4, z5, _⟩ := hW
      go_simp
    simp only [Act.put, List.setIfInBounds_toArray, List.set_cons_zero, List.set_cons_succ]
    refine wpAnyH_take (i := 21) (oi := { dst := some 130, op := Op.move (Operand.tmp 129), type := 4, pos := "law.go:103", after := #[{ on := 20, ground := Ground.data }, { on := 12, ground := Ground.chain }], guard := none }) (v := (.bool true)) rfl (by kernel_rfl) (by kernel_rfl) (by kernel_rfl) (fun _ _ _ h => h) (Or.inl ⟨by rfl, fun W hW => ?_⟩) hHeld ?_
    · obtain ⟨z0, z1, z2, z3, z4, z5, _⟩ := hW
      go_simp
    simp only [Act.put, List.setIfInBounds_toArray, List.set_cons_zero, List.set_cons_succ]
    refine wpAnyH_take (i := 22) (oi := { dst := some 131, op := Op.move (Operand.tmp 7), type := 23, pos := "law.go:103", after := #[{ on := 21, ground := Ground.guard }], guard := some (21, true) }) (v := (.slice (some ⟨g2, o2, none⟩) 3 c2)) rfl (by kernel_rfl) (by kernel_rfl) (by kernel_rfl) (fun _ _ _ h => h) (Or.inl ⟨by rfl, fun W hW => ?_⟩) hHeld ?_
    · obtain ⟨z0, z1, z2, z3, z4, z5, _⟩ := hW
      go_simp
    simp only [Act.put, List.setIfInBounds_toArray, List.set_cons_zero, List.set_cons_succ]
    refine wpAnyH_take (i := 23) (oi := { dst := some 132, op := Op.indexAddr 23 (Operand.tmp 131) (Operand.const (Value.int IntKind.i64 1)), type := 0, pos := "law.go:103", after := #[{ on := 22, ground := Ground.data }, { on := 21, ground := Ground.guard }], guard := some (21, true) }) (v := (.pointer (some ⟨g2, o2 + 1, none⟩))) rfl (by kernel_rfl) (by kernel_rfl) (by kernel_rfl) (fun _ _ _ h => h) (Or.inl ⟨by rfl, fun W hW => ?_⟩) hHeld ?_
    · obtain ⟨z0, z1, z2, z3, z4, z5, _⟩ := hW
      go_simp
    simp only [Act.put, List.setIfInBounds_toArray, List.set_cons_zero, List.set_cons_succ]
    refine wpAnyH_take (i := 24) (oi := { dst := some 133, op := Op.load 5 (Operand.tmp 132), type := 5, pos := "law.go:103", after := #[{ on := 23, ground := Ground.data }, { on := 21, ground := Ground.guard }], guard := some (21, true) }) (v := (.int .u8 (S.toNat : Int))) rfl (by kernel_rfl) (by kernel_rfl) (by kernel_rfl) (fun _ _ _ h => h) (Or.inl ⟨by rfl, fun W hW => ?_⟩) hHeld ?_
    · obtain ⟨z0, z1, z2, z3, z4, z5, _⟩ := hW
      go_simp
    simp only [Act.put, List.setIfInBounds_toArray, List.set_cons_zero, List.set_cons_succ]
    refine wpAnyH_take (i := 25) (oi := { dst := some 134, op := Op.move (Operand.tmp 10), type := 23, pos := "law.go:103", after := #[{ on := 21, ground := Ground.guard }], guard := some (21, true) }) (v := (.slice (some ⟨g3, o3, none⟩) 3 c3)) rfl (by kernel_rfl) (by kernel_rfl) (by kernel_rfl) (fun _ _ _ h => h) (Or.inl ⟨by rfl, fun W hW => ?_⟩) hHeld ?_
    · obtain ⟨z0, z1, z2, z3, z4, z5, _⟩ := hW
      go_simp
    simp only [Act.put, List.setIfInBounds_toArray, List.set_cons_zero, List.set_cons_succ]
    refine wpAnyH_take (i := 26) (oi := { dst := some 135, op := Op.indexAddr 23 (Operand.tmp 134) (Operand.const (Value.int IntKind.i64 1)), type := 0, pos := "law.go:103", after := #[{ on := 25, ground := Ground.data }, { on := 21, ground := Ground.guard }], guard := some (21, true) }) (v := (.pointer (some ⟨g3, o3 + 1, none⟩))) rfl (by kernel_rfl) (by kernel_rfl) (by kernel_rfl) (fun _ _ _ h => h) (Or.inl ⟨by rfl, fun W hW => ?_⟩) hHeld ?_
    · obtain ⟨z0, z1, z2, z3, z4, z5, _⟩ := hW
      go_simp
    simp only [Act.put, List.setIfInBounds_toArray, List.set_cons_zero, List.set_cons_succ]
    refine wpAnyH_take (i := 27) (oi := { dst := some 136, op := Op.load 5 (Operand.tmp 135), type := 5, pos := "law.go:103", after := #[{ on := 26, ground := Ground.data }, { on := 21, ground := Ground.guard }], guard := some (21, true) }) (v := (.int .u8 (T.toNat : Int))) rfl (by kernel_rfl) (by kernel_rfl) (by kernel_rfl) (fun _ _ _ h => h) (Or.inl ⟨by rfl, fun W hW => ?_⟩) hHeld ?_
    · obtain ⟨z0, z1, z2, z3, z4, z5, _⟩ := hW
      go_simp
    simp only [Act.put, List.setIfInBounds_toArray, List.set_cons_zero, List.set_cons_succ]
    refine wpAnyH_take (i := 28) (oi := { dst := some 137, op := Op.binOp BinOp.xor 5 (Operand.tmp 133) (Operand.tmp 136) 5, type := 5, pos := "law.go:103", after := #[{ on := 24, ground := Ground.data }, { on := 27, ground := Ground.data }, { on := 21, ground := Ground.guard }], guard := some (21, true) }) (v := (.int .u8 (bits .xor .u8 (S.toNat : Int) (T.toNat : Int)))) rfl (by kernel_rfl) (by kernel_rfl) (by kernel_rfl) (fun _ _ _ h => h) (Or.inl ⟨by rfl, fun W hW => ?_⟩) hHeld ?_
    · obtain ⟨z0, z1, z2, z3, z4, z5, _⟩ := hW
      go_simp
    simp only [Act.put, List.setIfInBounds_toArray, List.set_cons_zero, List.set_cons_succ]
    refine wpAnyH_take (i := 29) (oi := { dst := some 138, op := Op.binOp BinOp.eql 5 (Operand.tmp 137) (Operand.const (Value.int IntKind.u8 128)) 5, type := 4, pos := "law.go:103", after := #[{ on := 28, ground := Ground.data }, { on := 21, ground := Ground.guard }], guard := some (21, true) }) (v := (.bool true)) rfl (by kernel_rfl) (by kernel_rfl) (by kernel_rfl) (fun _ _ _ h => h) (Or.inl ⟨by rfl, fun W hW => ?_⟩) hHeld ?_
    · obtain ⟨z0, z1, z2, z3, z4, z5, _⟩ := hW
      go_simp
    simp only [Act.put, List.setIfInBounds_toArray, List.set_cons_zero, List.set_cons_succ]
    refine wpAnyH_take (i := 30) (oi := { dst := some 139, op := Op.pick (Operand.tmp 130) (Operand.tmp 138) (Operand.const (Value.bool false)), type := 4, pos := "law.go:103", after := #[{ on := 21, ground := Ground.data }, { on := 29, ground := Ground.data }], guard := none }) (v := (.bool true)) rfl (by kernel_rfl) (by kernel_rfl) (by kernel_rfl) (fun _ _ _ h => h) (Or.inl ⟨by rfl, fun W hW => ?_⟩) hHeld ?_
    · obtain ⟨z0, z1, z2, z3, z4, z5, _⟩ := hW
      go_simp
    simp only [Act.put, List.setIfInBounds_toArray, List.set_cons_zero, List.set_cons_succ]
    refine wpAnyH_take (i := 31) (oi := { dst := some 140, op := Op.move (Operand.tmp 139), type := 4, pos := "law.go:103", after := #[{ on := 30, ground := Ground.data }, { on := 21, ground := Ground.chain }], guard := none }) (v := (.bool true)) rfl (by kernel_rfl) (by kernel_rfl) (by kernel_rfl) (fun _ _ _ h => h) (Or.inl ⟨by rfl, fun W hW => ?_⟩) hHeld ?_
    · obtain ⟨z0, z1, z2, z3, z4, z5, _⟩ := hW
      go_simp
    simp only [Act.put, List.setIfInBounds_toArray, List.set_cons_zero, List.set_cons_succ]
    refine wpAnyH_take (i := 32) (oi := { dst := some 141, op := Op.move (Operand.tmp 7), type := 23, pos := "law.go:103", after := #[{ on := 31, ground := Ground.guard }], guard := some (31, true) }) (v := (.slice (some ⟨g2, o2, none⟩) 3 c2)) rfl (by kernel_rfl) (by kernel_rfl) (by kernel_rfl) (fun _ _ _ h => h) (Or.inl ⟨by rfl, fun W hW => ?_⟩) hHeld ?_
    · obtain ⟨z0, z1, z2, z3, z4, z5, _⟩ := hW
      go_simp
    simp only [Act.put, List.setIfInBounds_toArray, List.set_cons_zero, List.set_cons_succ]
    refine wpAnyH_take (i := 33) (oi := { dst := some 142, op := Op.indexAddr 23 (Operand.tmp 141) (Operand.const (Value.int IntKind.i64 2)), type := 0, pos := "law.go:103", after := #[{ on := 32, ground := Ground.data }, { on := 31, ground := Ground.guard }], guard := some (31, true) }) (v := (.pointer (some ⟨g2, o2 + 2, none⟩))) rfl (by kernel_rfl) (by kernel_rfl) (by kernel_rfl) (fun _ _ _ h => h) (Or.inl ⟨by rfl, fun W hW => ?_⟩) hHeld ?_
    · obtain ⟨z0, z1, z2, z3, z4, z5, _⟩ := hW
      go_simp
    simp only [Act.put, List.setIfInBounds_toArray, List.set_cons_zero, List.set_cons_succ]
    refine wpAnyH_take (i := 34) (oi := { dst := some 143, op := Op.load 5 (Operand.tmp 142), type := 5, pos := "law.go:103", after := #[{ on := 33, ground := Ground.data }, { on := 31, ground := Ground.guard }], guard := some (31, true) }) (v := (.int .u8 (U.toNat : Int))) rfl (by kernel_rfl) (by kernel_rfl) (by kernel_rfl) (fun _ _ _ h => h) (Or.inl ⟨by rfl, fun W hW => ?_⟩) hHeld ?_
    · obtain ⟨z0, z1, z2, z3, z4, z5, _⟩ := hW
      go_simp
    simp only [Act.put, List.setIfInBounds_toArray, List.set_cons_zero, List.set_cons_succ]
    refine wpAnyH_take (i := 35) (oi := { dst := some 144, op := Op.move (Operand.tmp 10), type := 23, pos := "law.go:103", after := #[{ on := 31, ground := Ground.guard }], guard := some (31, true) }) (v := (.slice (some ⟨g3, o3, none⟩) 3 c3)) rfl (by kernel_rfl) (by kernel_rfl) (by kernel_rfl) (fun _ _ _ h => h) (Or.inl ⟨by rfl, fun W hW => ?_⟩) hHeld ?_
    · obtain ⟨z0, z1, z2, z3, z4, z5, _⟩ := hW
      go_simp
    simp only [Act.put, List.setIfInBounds_toArray, List.set_cons_zero, List.set_cons_succ]
    refine wpAnyH_take (i := 36) (oi := { dst := some 145, op := Op.indexAddr 23 (Operand.tmp 144) (Operand.const (Value.int IntKind.i64 2)), type := 0, pos := "law.go:103", after := #[{ on := 35, ground := Ground.data }, { on := 31, ground := Ground.guard }], guard := some (31, true) }) (v := (.pointer (some ⟨g3, o3 + 2, none⟩))) rfl (by kernel_rfl) (by kernel_rfl) (by kernel_rfl) (fun _ _ _ h => h) (Or.inl ⟨by rfl, fun W hW => ?_⟩) hHeld ?_
    · obtain ⟨z0, z1, z2, z3, z4, z5, _⟩ := hW
      go_simp
    simp only [Act.put, List.setIfInBounds_toArray, List.set_cons_zero, List.set_cons_succ]
    refine wpAnyH_take (i := 37) (oi := { dst := some 146, op := Op.load 5 (Operand.tmp 145), type := 5, pos := "law.go:103", after := #[{ on := 36, ground := Ground.data }, { on := 31, ground := Ground.guard }], guard := some (31, true) }) (v := (.int .u8 (U.toNat : Int))) rfl (by kernel_rfl) (by kernel_rfl) (by kernel_rfl) (fun _ _ _ h => h) (Or.inl ⟨by rfl, fun W hW => ?_⟩) hHeld ?_
    · obtain ⟨z0, z1, z2, z3, z4, z5, _⟩ := hW
      go_simp
    simp only [Act.put, List.setIfInBounds_toArray, List.set_cons_zero, List.set_cons_succ]
    refine wpAnyH_take (i := 38) (oi := { dst := some 147, op := Op.binOp BinOp.eql 5 (Operand.tmp 143) (Operand.tmp 146) 5, type := 4, pos := "law.go:103", after := #[{ on := 34, ground := Ground.data }, { on := 37, ground := Ground.data }, { on := 31, ground := Ground.guard }], guard := some (31, true) }) (v := (.bool true)) rfl (by kernel_rfl) (by kernel_rfl) (by kernel_rfl) (fun _ _ _ h => h) (Or.inl ⟨by rfl, fun W hW => ?_⟩) hHeld ?_
    · obtain ⟨z0, z1, z2, z3, z4, z5, _⟩ := hW
      go_simp
    simp only [Act.put, List.setIfInBounds_toArray, List.set_cons_zero, List.set_cons_succ]
    refine wpAnyH_take (i := 39) (oi := { dst := some 148, op := Op.pick (Operand.tmp 140) (Operand.tmp 147) (Operand.const (Value.bool false)), type := 4, pos := "law.go:103", after := #[{ on := 31, ground := Ground.data }, { on := 38, ground := Ground.data }], guard := none }) (v := (.bool true)) rfl (by kernel_rfl) (by kernel_rfl) (by kernel_rfl) (fun _ _ _ h => h) (Or.inl ⟨by rfl, fun W hW => ?_⟩) hHeld ?_
    · obtain ⟨z0, z1, z2, z3, z4, z5, _⟩ := hW
      go_simp
    simp only [Act.put, List.setIfInBounds_toArray, List.set_cons_zero, List.set_cons_succ]
    refine wpAnyH_take (i := 40) (oi := { dst := some 149, op := Op.move (Operand.tmp 148), type := 4, pos := "law.go:103", after := #[{ on := 39, ground := Ground.data }, { on := 31, ground := Ground.chain }], guard := none }) (v := (.bool true)) rfl (by kernel_rfl) (by kernel_rfl) (by kernel_rfl) (fun _ _ _ h => h) (Or.inl ⟨by rfl, fun W hW => ?_⟩) hHeld ?_
    · obtain ⟨z0, z1, z2, z3, z4, z5, _⟩ := hW
      go_simp
    simp only [Act.put, List.setIfInBounds_toArray, List.set_cons_zero, List.set_cons_succ]
    refine wpAnyH_ready (rs := [41]) (by kernel_rfl) (by simp) ?_
    refine AllReadyH.cons (o := { dst := some 150, op := Op.call { callee := Callee.value (Operand.func 23), args := #[], argTypes := #[] }, type := 4, pos := "law.go:103", after := #[{ on := 40, ground := Ground.chain }, { on := 40, ground := Ground.guard }], guard := some (40, true) }) rfl (fun K hK => ?_) AllReadyH.nil
    go_simp
    with_reducible refine (HA.out _ hHeld.2.2.2.2.2.2).mono ?_
    rintro e w6 ⟨rfl, hb6⟩
    have hbb := bCall hHeld.2.2.2.2.2.2 hb6
    clear hb6
    go_wp2_with fail
    refine hK.out _ _ (sSix D0.out D1.out D2.out E0.out E1.out E2.out hg2 hg3 hbb) (fun hHeld2 => ?_)
    clear hK K hHeld
    have hHeld := hHeld2
    clear hHeld2
    try simp only [Act.put, List.setIfInBounds_toArray, List.set_cons_zero, List.set_cons_succ]
    refine wpAnyH_take (i := 42) (oi := { dst := some 151, op := Op.pick (Operand.tmp 149) (Operand.tmp 150) (Operand.const (Value.bool false)), type := 4, pos := "law.go:103", after := #[{ on := 40, ground := Ground.data }, { on := 41, ground := Ground.data }], guard := none }) (v := (.bool true)) rfl (by kernel_rfl) (by kernel_rfl) (by kernel_rfl) (fun _ _ _ h => h) (Or.inl ⟨by rfl, fun W hW => ?_⟩) hHeld ?_
    · obtain ⟨z0, z1, z2, z3, z4, z5, _⟩ := hW
      go_simp
    simp only [Act.put, List.setIfInBounds_toArray, List.set_cons_zero, List.set_cons_succ]
    refine wpAnyH_take (i := 43) (oi := { dst := some 4, op := Op.assign (Operand.tmp 151), type := 4, pos := "law.go:103", after := #[{ on := 42, ground := Ground.data }, { on := 41, ground := Ground.chain }, { on := 0, ground := Ground.phase }, { on := 1, ground := Ground.phase }, { on := 2, ground := Ground.phase }, { on := 3, ground := Ground.phase }, { on := 4, ground := Ground.phase }, { on := 5, ground := Ground.phase }, { on := 6, ground := Ground.phase }, { on := 7, ground := Ground.phase }, { on := 8, ground := Ground.phase }, { on := 9, ground := Ground.phase }, { on := 10, ground := Ground.phase }, { on := 11, ground := Ground.phase }, { on := 12, ground := Ground.phase }, { on := 13, ground := Ground.phase }, { on := 14, ground := Ground.phase }, { on := 15, ground := Ground.phase }, { on := 16, ground := Ground.phase }, { on := 17, ground := Ground.phase }, { on := 18, ground := Ground.phase }, { on := 19, ground := Ground.phase }, { on := 20, ground := Ground.phase }, { on := 21, ground := Ground.phase }, { on := 22, ground := Ground.phase }, { on := 23, ground := Ground.phase }, { on := 24, ground := Ground.phase }, { on := 25, ground := Ground.phase }, { on := 26, ground := Ground.phase }, { on := 27, ground := Ground.phase }, { on := 28, ground := Ground.phase }, { on := 29, ground := Ground.phase }, { on := 30, ground := Ground.phase }, { on := 31, ground := Ground.phase }, { on := 32, ground := Ground.phase }, { on := 33, ground := Ground.phase }, { on := 34, ground := Ground.phase }, { on := 35, ground := Ground.phase }, { on := 36, ground := Ground.phase }, { on := 37, ground := Ground.phase }, { on := 38, ground := Ground.phase }, { on := 39, ground := Ground.phase }, { on := 40, ground := Ground.phase }, { on := 41, ground := Ground.phase }, { on := 42, ground := Ground.phase }], guard := none }) (v := (.bool true)) rfl (by kernel_rfl) (by kernel_rfl) (by kernel_rfl) (fun _ _ _ h => h) (Or.inl ⟨by rfl, fun W hW => ?_⟩) hHeld ?_
    · obtain ⟨z0, z1, z2, z3, z4, z5, _⟩ := hW
      go_simp
    simp only [Act.put, List.setIfInBounds_toArray, List.set_cons_zero, List.set_cons_succ]
    refine wpAnyH_done (by kernel_rfl) ?_ _
    have HB6 := keepd (bCall HB3.out hHeld.2.2.2.2.2.2)
    clear hHeld
    go_wp2
    go_ret
    exact ⟨rfl, HB6.out⟩

end Go.Proofs.YtemmdknnmhdhkaaDoor
