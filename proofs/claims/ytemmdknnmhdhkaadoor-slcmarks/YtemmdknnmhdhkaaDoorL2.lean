/-
  The law SlcAlone. No conditions beyond those each theorem states.
-/
import Derived.Test.YtemmdknnmhdhkaaDoorT9
namespace Go.Proofs.YtemmdknnmhdhkaaDoor
open Go.RowKit
set_option maxRecDepth 100000

attribute [local go_sem ↓] ex_eq29 ex_ne29
attribute [local go_sem] isV_at toV_at

/-- A triple's value, field by field. -/
abbrev Tr.vs (X : Tr) : List Value := [.int .i64 X.f, .int .i64 X.lv, .bool X.a, .bool X.i, .bool X.o, .int .u8 (X.v.toNat : Int)]

theorem put1_yes {X : Tr} (h : X.may = true) : putL [X] = [u8 X.f, X.sec, X.v] ∧ perr [X] = 0 := by
  have : allT [X] = true := by unfold allT; simp [h]
  exact ⟨(put_yes this).1, (put_yes this).2⟩
theorem put1_no {X : Tr} (h : X.may = false) : putL [X] = [] ∧ perr [X] = 1 := by
  have : allT [X] = false := by unfold allT; simp [h]
  exact put_no this

theorem lies_same {X Y : Tr} (hX : X.may = true) (hY : Y.may = true) : ([u8 X.f, X.sec, X.v] == [u8 Y.f, Y.sec, Y.v]) = sameT X Y := by
  rw [sameT_eq, Bool.eq_iff_iff]
  simp only [beq_iff_eq, decide_eq_true_eq]
  constructor
  · intro h
    have h1 := get_lies [X] (by unfold allT; simp [hX])
    have h2 := get_lies [Y] (by unfold allT; simp [hY])
    have e1 : liesL [X] = [u8 X.f, X.sec, X.v] := rfl
    have e2 : liesL [Y] = [u8 Y.f, Y.sec, Y.v] := rfl
    rw [e1, h, ← e2, h2] at h1
    simpa using h1.symm
  · rintro rfl
    rfl

theorem two_srs {W : World} {a b : Nat} {X Y : Tr} (h : SR 29 W a X.vs) (h' : SR 29 W b Y.vs) :
    W.cell? ⟨a, 0, none⟩ = some (.int .i64 X.f) ∧ W.cell? ⟨a, 1, none⟩ = some (.int .i64 X.lv) ∧ W.cell? ⟨a, 2, none⟩ = some (.bool X.a) ∧ W.cell? ⟨a, 3, none⟩ = some (.bool X.i) ∧ W.cell? ⟨a, 4, none⟩ = some (.bool X.o) ∧ W.cell? ⟨a, 5, none⟩ = some (.int .u8 (X.v.toNat : Int)) ∧
    W.cell? ⟨b, 0, none⟩ = some (.int .i64 Y.f) ∧ W.cell? ⟨b, 1, none⟩ = some (.int .i64 Y.lv) ∧ W.cell? ⟨b, 2, none⟩ = some (.bool Y.a) ∧ W.cell? ⟨b, 3, none⟩ = some (.bool Y.i) ∧ W.cell? ⟨b, 4, none⟩ = some (.bool Y.o) ∧ W.cell? ⟨b, 5, none⟩ = some (.int .u8 (Y.v.toNat : Int)) :=
  ⟨h.cell 0, h.cell 1, h.cell 2, h.cell 3, h.cell 4, h.cell 5, h'.cell 0, h'.cell 1, h'.cell 2, h'.cell 3, h'.cell 4, h'.cell 5⟩

theorem two_srsB {w W : World} {a b : Nat} {X Y : Tr} (h : SR 29 w a X.vs) (h' : SR 29 w b Y.vs) (hb : Below w.heap.size w W) :
    W.cell? ⟨a, 0, none⟩ = some (.int .i64 X.f) ∧ W.cell? ⟨a, 1, none⟩ = some (.int .i64 X.lv) ∧ W.cell? ⟨a, 2, none⟩ = some (.bool X.a) ∧ W.cell? ⟨a, 3, none⟩ = some (.bool X.i) ∧ W.cell? ⟨a, 4, none⟩ = some (.bool X.o) ∧ W.cell? ⟨a, 5, none⟩ = some (.int .u8 (X.v.toNat : Int)) ∧
    W.cell? ⟨b, 0, none⟩ = some (.int .i64 Y.f) ∧ W.cell? ⟨b, 1, none⟩ = some (.int .i64 Y.lv) ∧ W.cell? ⟨b, 2, none⟩ = some (.bool Y.a) ∧ W.cell? ⟨b, 3, none⟩ = some (.bool Y.i) ∧ W.cell? ⟨b, 4, none⟩ = some (.bool Y.o) ∧ W.cell? ⟨b, 5, none⟩ = some (.int .u8 (Y.v.toNat : Int)) ∧ Below w.heap.size w W := by
  obtain ⟨q0, q1, q2, q3, q4, q5, r0, r1, r2, r3, r4, r5⟩ := two_srs (h.call hb h.lt) (h'.call hb h'.lt)
  exact ⟨q0, q1, q2, q3, q4, q5, r0, r1, r2, r3, r4, r5, hb⟩

set_option maxHeartbeats 1000000 in
theorem alone_law (X Y : Tr) (w : World) (hL : Laid w) :
    Calls Tryd.prog 8 #[.agg #[.int .i64 X.f, .int .i64 X.lv, .bool X.a, .bool X.i, .bool X.o, .int .u8 (X.v.toNat : Int)], .agg #[.int .i64 Y.f, .int .i64 Y.lv, .bool Y.a, .bool Y.i, .bool Y.o, .int .u8 (Y.v.toNat : Int)]] w
      fun e w' => e = .returned (.bool true) ∧ Below w.heap.size w w' := by
  have HL := keepd hL
  clear hL
  obtain ⟨P, hP⟩ : ∃ P, putL [X] = P := ⟨_, rfl⟩
  obtain ⟨z, hz⟩ : ∃ z, P.length = z := ⟨_, rfl⟩
  obtain ⟨er, he⟩ : ∃ er, perr [X] = er := ⟨_, rfl⟩
  obtain ⟨P', hP'⟩ : ∃ P, putL [Y] = P := ⟨_, rfl⟩
  obtain ⟨z', hz'⟩ : ∃ z, P'.length = z := ⟨_, rfl⟩
  obtain ⟨er', he'⟩ : ∃ er, perr [Y] = er := ⟨_, rfl⟩
  have HP := keepd hP
  have HZ := keepd hz
  have HE := keepd he
  have HP' := keepd hP'
  have HZ' := keepd hz'
  have HE' := keepd he'
  clear hP hz he hP' hz' he'
  go_enter Tryd.func8, Tryd.ntmps8
  go_upto_region 1 with fail
  generalize hW : (w.alloc (.cells X.vs.toArray 29)).alloc (.cells Y.vs.toArray 29) = W
  have s0 : SR 29 W w.heap.size X.vs := by subst hW; exact (SR.new 29 w X.vs).alloc _
  have s1 : SR 29 W (w.heap.size + 1) Y.vs := by
    have := SR.new 29 (w.alloc (.cells X.vs.toArray 29)) Y.vs
    rw [World.size_alloc] at this
    subst hW
    exact this
  have bW : Below w.heap.size w W := by subst hW; exact bAlloc (bAlloc (Below.refl _ _) _) _
  obtain ⟨a, ha⟩ : ∃ a, w.heap.size = a := ⟨_, rfl⟩
  rw [ha] at s0 s1
  rw [ha]
  have HS0 := keepd s0
  have HS1 := keepd s1
  have HB := keepd bW
  obtain ⟨q0, q1, q2, q3, q4, q5, r0, r1, r2, r3, r4, r5⟩ := two_srs s0 s1
  clear hW s0 s1 bW
  go_wp2_with fail
  with_reducible refine (put_any _ [X] 1 1 P z er _ rfl (by decide) (one_rdT W X) HP.out HZ.out HE.out).mono ?_
  rintro e w1 ⟨A1, c1, rfl, hr1, hb1⟩
  have hb : Below W.heap.size W w1 := upA hb1
  have s0 := HS0.out.call hb HS0.out.lt
  have s1 := HS1.out.call hb HS1.out.lt
  have HR1 := keepd hr1
  have HB1 := keepd (bCall HB.out hb)
  clear q0 q1 q2 q3 q4 q5 r0 r1 r2 r3 r4 r5
  obtain ⟨q0, q1, q2, q3, q4, q5, r0, r1, r2, r3, r4, r5⟩ := two_srs s0 s1
  clear HS0 HS1 HB hb hb1 hr1
  have HS0 := keepd s0
  have HS1 := keepd s1
  clear s0 s1
  go_wp2_with fail
  with_reducible refine (put_any _ [Y] 1 1 P' z' er' _ rfl (by decide) (one_rdT w1 Y) HP'.out HZ'.out HE'.out).mono ?_
  rintro e w2 ⟨A2, c2, rfl, hr2, hb2⟩
  have hb : Below w1.heap.size w1 w2 := upA hb2
  have s0 := HS0.out.call hb HS0.out.lt
  have s1 := HS1.out.call hb HS1.out.lt
  have HR2 := keepd hr2
  have HR1' := keepd (HR1.out.at_ hb)
  have HB2 := keepd (bCall HB1.out hb)
  clear q0 q1 q2 q3 q4 q5 r0 r1 r2 r3 r4 r5
  clear HS0 HS1 HB1 hb hb2 hr2 HR1
  have HS0 := keepd s0
  have HS1 := keepd s1
  clear s0 s1
  cases hm : X.may
  · obtain ⟨p1, p2⟩ := put1_no hm
    rw [HP.out] at p1
    rw [HE.out] at p2
    subst p1 p2
    have hz0 := HZ.out
    simp at hz0
    subst hz0
    have HA := keepd (awake_any w2 (HL.out.below HB2.out))
    clear hm
    go_wp2_with fail
    with_reducible refine HA.out.mono ?_
    rintro e w3 ⟨rfl, hb⟩
    go_wp2
    go_ret
    exact ⟨rfl, bCall HB2.out hb⟩
  · obtain ⟨p1, p2⟩ := put1_yes hm
    rw [HP.out] at p1
    rw [HE.out] at p2
    subst p1 p2
    have hz0 := HZ.out
    simp at hz0
    subst hz0
    have HM := keepd hm
    have cc := HR1'.out.len
    simp only [List.length_cons, List.length_nil] at cc
    unfold maxLen at cc
    obtain ⟨cc1, cc2⟩ := cc
    clear hm
    go_wp2_with fail
    go_loopw [9] (fun vi wr => ∃ k : Nat, 1 ≤ k ∧ k ≤ 3 ∧ vi = .int .i64 k ∧ Hid (Below w2.heap.size w2 wr)) (fun vi _ => 3 - (intOf vi).toNat)
    case atStart => exact ⟨1, by omega, by omega, rfl, Below.refl _ _⟩
    case round =>
      obtain ⟨k, hk1, hk2, rfl, HB3⟩ := hrel
      by_cases hlt : k < 3
      · obtain ⟨Pk, hPk⟩ : ∃ Pk, [u8 X.f, X.sec, X.v].take k = Pk := ⟨_, rfl⟩
        have hlk : Pk.length = k := by rw [← hPk, List.length_take]; simp; omega
        have hnone := get_short (b := Pk) (by rw [hlk]; omega)
        obtain ⟨g1, g2⟩ := got_no hnone
        have HRk := keepd ((HR1'.out.at_ HB3.out).take k)
        rw [hPk] at HRk
        have HG1 := keepd g1
        have HG2 := keepd g2
        have HLk := keepd hlk
        have i0 : (0 : Int) ≤ (k : Int) := by omega
        have i1 : (k : Int) ≤ (c1 : Int) := by omega
        clear hnone g1 g2 hlk hPk
        go_wp2_with fail
        with_reducible refine (get_any A1 Pk k c1 [] 0 2 _ HLk.out.symm (by omega) HRk.out HG1.out rfl HG2.out).mono ?_
        rintro e w4 ⟨A4, c4, rfl, _, hb4⟩
        have HB4 := keepd (bCall HB3.out hb4)
        clear hb4
        go_wp2
        go_roundw
        case rel => exact ⟨k + 1, by omega, by omega, by go_num, HB4⟩
        case measure => simp [intOf]; omega
      · obtain rfl : k = 3 := by omega
        have hBr := bCall HB2.out HB3.out
        have HBr := keepd hBr
        have s0 := HS0.out.call HB3.out HS0.out.lt
        have s1 := HS1.out.call HB3.out HS1.out.lt
        have HS0 := keepd s0
        have HS1 := keepd s1
        have HLr := keepd (HL.out.below hBr)
        have HR1 := keepd (HR1'.out.at_ HB3.out)
        have HR2 := keepd (HR2.out.at_ HB3.out)
        clear hBr
        obtain ⟨q0, q1, q2, q3, q4, q5, r0, r1, r2, r3, r4, r5⟩ := two_srs s0 s1
        clear s0 s1
        cases hm : Y.may
        · obtain ⟨p1, p2⟩ := put1_no hm
          rw [HP'.out] at p1
          rw [HE'.out] at p2
          subst p1 p2
          have hz0 := HZ'.out
          simp at hz0
          subst hz0
          clear hm
          have HA : Hid (∀ W, Below wr.heap.size wr W → Calls Tryd.prog 23 #[] W fun e w' => e = .returned (.bool true) ∧ Below W.heap.size W w') := fun W hW => awake_any W (HLr.out.below hW)
          go_wp2_with fail
          refine wp_region_held_drew (S := (fun W => Below wr.heap.size wr W)) (by kernel_rfl) (Below.refl wr.heap.size wr).drew (fun hHeld => ?_)
          refine wpAnyH_take (i := 0) (oi := { dst := some 53, op := Op.move (Operand.tmp 8), type := 26, pos := "law.go:143", after := #[], guard := none }) (v := (.int .i64 1)) rfl (by kernel_rfl) (by kernel_rfl) (by kernel_rfl) (fun _ _ _ h => h) (Or.inl ⟨by rfl, fun W hW => ?_⟩) hHeld ?_
          · go_simp
          simp only [Act.put, List.setIfInBounds_toArray, List.set_cons_zero, List.set_cons_succ]
          refine wpAnyH_take (i := 1) (oi := { dst := some 54, op := Op.binOp BinOp.neq 26 (Operand.tmp 53) (Operand.const (Value.int IntKind.i64 0)) 26, type := 4, pos := "law.go:143", after := #[{ on := 0, ground := Ground.data }], guard := none }) (v := (.bool true)) rfl (by kernel_rfl) (by kernel_rfl) (by kernel_rfl) (fun _ _ _ h => h) (Or.inl ⟨by rfl, fun W hW => ?_⟩) hHeld ?_
          · go_simp
          simp only [Act.put, List.setIfInBounds_toArray, List.set_cons_zero, List.set_cons_succ]
          refine wpAnyH_take (i := 2) (oi := { dst := some 55, op := Op.move (Operand.tmp 54), type := 4, pos := "law.go:143", after := #[{ on := 1, ground := Ground.data }], guard := none }) (v := (.bool true)) rfl (by kernel_rfl) (by kernel_rfl) (by kernel_rfl) (fun _ _ _ h => h) (Or.inl ⟨by rfl, fun W hW => ?_⟩) hHeld ?_
          · go_simp
          simp only [Act.put, List.setIfInBounds_toArray, List.set_cons_zero, List.set_cons_succ]
          refine wpAnyH_take (i := 3) (oi := { dst := some 56, op := Op.move (Operand.tmp 5), type := 23, pos := "law.go:143", after := #[{ on := 2, ground := Ground.guard }], guard := some (2, false) }) (v := undef) rfl (by kernel_rfl) (by kernel_rfl) (by kernel_rfl) (fun _ _ _ h => h) (Or.inr ⟨by rfl, rfl⟩) hHeld ?_
          simp only [Act.put, List.setIfInBounds_toArray, List.set_cons_zero, List.set_cons_succ]
          refine wpAnyH_take (i := 4) (oi := { dst := some 57, op := Op.move (Operand.tmp 7), type := 23, pos := "law.go:143", after := #[{ on := 2, ground := Ground.guard }], guard := some (2, false) }) (v := undef) rfl (by kernel_rfl) (by kernel_rfl) (by kernel_rfl) (fun _ _ _ h => h) (Or.inr ⟨by rfl, rfl⟩) hHeld ?_
          simp only [Act.put, List.setIfInBounds_toArray, List.set_cons_zero, List.set_cons_succ]
          refine wpAnyH_take (i := 5) (oi := { dst := some 58, op := Op.call { callee := Callee.value (Operand.func 21), args := #[Operand.tmp 56, Operand.tmp 57], argTypes := #[23, 23] }, type := 4, pos := "law.go:143", after := #[{ on := 3, ground := Ground.data }, { on := 4, ground := Ground.data }, { on := 2, ground := Ground.chain }, { on := 2, ground := Ground.guard }], guard := some (2, false) }) (v := undef) rfl (by kernel_rfl) (by kernel_rfl) (by kernel_rfl) (fun _ _ _ h => h) (Or.inr ⟨by rfl, rfl⟩) hHeld ?_
          simp only [Act.put, List.setIfInBounds_toArray, List.set_cons_zero, List.set_cons_succ]
          refine wpAnyH_take (i := 6) (oi := { dst := some 59, op := Op.load 29 (Operand.tmp 2), type := 29, pos := "law.go:143", after := #[{ on := 2, ground := Ground.guard }], guard := some (2, false) }) (v := undef) rfl (by kernel_rfl) (by kernel_rfl) (by kernel_rfl) (fun _ _ _ h => h) (Or.inr ⟨by rfl, rfl⟩) hHeld ?_
          simp only [Act.put, List.setIfInBounds_toArray, List.set_cons_zero, List.set_cons_succ]
          refine wpAnyH_take (i := 7) (oi := { dst := some 60, op := Op.load 29 (Operand.tmp 3), type := 29, pos := "law.go:143", after := #[{ on := 2, ground := Ground.guard }], guard := some (2, false) }) (v := undef) rfl (by kernel_rfl) (by kernel_rfl) (by kernel_rfl) (fun _ _ _ h => h) (Or.inr ⟨by rfl, rfl⟩) hHeld ?_
          simp only [Act.put, List.setIfInBounds_toArray, List.set_cons_zero, List.set_cons_succ]
          refine wpAnyH_take (i := 8) (oi := { dst := some 61, op := Op.binOp BinOp.eql 29 (Operand.tmp 59) (Operand.tmp 60) 29, type := 4, pos := "law.go:143", after := #[{ on := 6, ground := Ground.data }, { on := 7, ground := Ground.data }, { on := 2, ground := Ground.guard }], guard := some (2, false) }) (v := undef) rfl (by kernel_rfl) (by kernel_rfl) (by kernel_rfl) (fun _ _ _ h => h) (Or.inr ⟨by rfl, rfl⟩) hHeld ?_
          simp only [Act.put, List.setIfInBounds_toArray, List.set_cons_zero, List.set_cons_succ]
          refine wpAnyH_take (i := 9) (oi := { dst := some 62, op := Op.binOp BinOp.eql 4 (Operand.tmp 58) (Operand.tmp 61) 4, type := 4, pos := "law.go:143", after := #[{ on := 5, ground := Ground.data }, { on := 8, ground := Ground.data }, { on := 2, ground := Ground.guard }], guard := some (2, false) }) (v := undef) rfl (by kernel_rfl) (by kernel_rfl) (by kernel_rfl) (fun _ _ _ h => h) (Or.inr ⟨by rfl, rfl⟩) hHeld ?_
          simp only [Act.put, List.setIfInBounds_toArray, List.set_cons_zero, List.set_cons_succ]
          refine wpAnyH_take (i := 10) (oi := { dst := some 63, op := Op.pick (Operand.tmp 55) (Operand.const (Value.bool true)) (Operand.tmp 62), type := 4, pos := "law.go:143", after := #[{ on := 2, ground := Ground.data }, { on := 9, ground := Ground.data }], guard := none }) (v := (.bool true)) rfl (by kernel_rfl) (by kernel_rfl) (by kernel_rfl) (fun _ _ _ h => h) (Or.inl ⟨by rfl, fun W hW => ?_⟩) hHeld ?_
          · go_simp
          simp only [Act.put, List.setIfInBounds_toArray, List.set_cons_zero, List.set_cons_succ]
          refine wpAnyH_take (i := 11) (oi := { dst := some 64, op := Op.move (Operand.tmp 63), type := 4, pos := "law.go:143", after := #[{ on := 10, ground := Ground.data }, { on := 5, ground := Ground.chain }], guard := none }) (v := (.bool true)) rfl (by kernel_rfl) (by kernel_rfl) (by kernel_rfl) (fun _ _ _ h => h) (Or.inl ⟨by rfl, fun W hW => ?_⟩) hHeld ?_
          · go_simp
          simp only [Act.put, List.setIfInBounds_toArray, List.set_cons_zero, List.set_cons_succ]
          refine wpAnyH_ready (rs := [12]) (by kernel_rfl) (by simp) ?_
          refine AllReadyH.cons (o := { dst := some 65, op := Op.call { callee := Callee.value (Operand.func 23), args := #[], argTypes := #[] }, type := 4, pos := "law.go:143", after := #[{ on := 11, ground := Ground.chain }, { on := 11, ground := Ground.guard }], guard := some (11, true) }) rfl (fun K hK => ?_) AllReadyH.nil
          go_simp
          with_reducible refine (HA.out _ hHeld).mono ?_
          rintro e w6 ⟨rfl, hb6⟩
          have hbb := bCall hHeld hb6
          clear hb6
          go_wp2_with fail
          refine hK.out _ _ hbb (fun hHeld2 => ?_)
          clear hK K hHeld
          have hHeld := hHeld2
          clear hHeld2
          try simp only [Act.put, List.setIfInBounds_toArray, List.set_cons_zero, List.set_cons_succ]
          refine wpAnyH_take (i := 13) (oi := { dst := some 66, op := Op.pick (Operand.tmp 64) (Operand.tmp 65) (Operand.const (Value.bool false)), type := 4, pos := "law.go:143", after := #[{ on := 11, ground := Ground.data }, { on := 12, ground := Ground.data }], guard := none }) (v := (.bool true)) rfl (by kernel_rfl) (by kernel_rfl) (by kernel_rfl) (fun _ _ _ h => h) (Or.inl ⟨by rfl, fun W hW => ?_⟩) hHeld ?_
          · go_simp
          simp only [Act.put, List.setIfInBounds_toArray, List.set_cons_zero, List.set_cons_succ]
          refine wpAnyH_take (i := 14) (oi := { dst := some 4, op := Op.assign (Operand.tmp 66), type := 4, pos := "law.go:143", after := #[{ on := 13, ground := Ground.data }, { on := 12, ground := Ground.chain }, { on := 0, ground := Ground.phase }, { on := 1, ground := Ground.phase }, { on := 2, ground := Ground.phase }, { on := 3, ground := Ground.phase }, { on := 4, ground := Ground.phase }, { on := 5, ground := Ground.phase }, { on := 6, ground := Ground.phase }, { on := 7, ground := Ground.phase }, { on := 8, ground := Ground.phase }, { on := 9, ground := Ground.phase }, { on := 10, ground := Ground.phase }, { on := 11, ground := Ground.phase }, { on := 12, ground := Ground.phase }, { on := 13, ground := Ground.phase }], guard := none }) (v := (.bool true)) rfl (by kernel_rfl) (by kernel_rfl) (by kernel_rfl) (fun _ _ _ h => h) (Or.inl ⟨by rfl, fun W hW => ?_⟩) hHeld ?_
          · go_simp
          simp only [Act.put, List.setIfInBounds_toArray, List.set_cons_zero, List.set_cons_succ]
          refine wpAnyH_done (by kernel_rfl) ?_ _
          have HB6 := keepd (bCall HBr.out hHeld)
          clear hHeld
          go_wp2
          go_ret
          exact ⟨rfl, HB6.out⟩
        · obtain ⟨p1, p2⟩ := put1_yes hm
          rw [HP'.out] at p1
          rw [HE'.out] at p2
          subst p1 p2
          have hz0 := HZ'.out
          simp at hz0
          subst hz0
          have HQ := keepd (lies_same HM.out hm)
          clear hm
          have HA : Hid (∀ W, Below wr.heap.size wr W → Calls Tryd.prog 23 #[] W fun e w' => e = .returned (.bool true) ∧ Below W.heap.size W w') := fun W hW => awake_any W (HLr.out.below hW)
          obtain ⟨v, hv⟩ : ∃ v, sameT X Y = v := ⟨_, rfl⟩
          have HO : Hid (∀ W, Below wr.heap.size wr W → Calls Tryd.prog 21 #[.slice A1 3 c1, .slice A2 3 c2] W fun e w' => e = .returned (.bool v) ∧ W = w') := fun W hW => by
            have := octets_any A1 A2 _ _ 3 3 c1 c2 _ W rfl rfl (HR1.out.at_ hW) (HR2.out.at_ hW)
            rw [HQ.out, hv] at this
            exact this
          have hv' : sameT ⟨X.f, X.lv, X.a, X.i, X.o, X.v⟩ ⟨Y.f, Y.lv, Y.a, Y.i, Y.o, Y.v⟩ = v := hv
          have hvv : (v == v) = true := by simp
          clear hv
          go_wp2_with fail
          go_region_held3 (fun W => W.cell? ⟨a, 0, none⟩ = some (.int .i64 X.f) ∧ W.cell? ⟨a, 1, none⟩ = some (.int .i64 X.lv) ∧ W.cell? ⟨a, 2, none⟩ = some (.bool X.a) ∧ W.cell? ⟨a, 3, none⟩ = some (.bool X.i) ∧ W.cell? ⟨a, 4, none⟩ = some (.bool X.o) ∧ W.cell? ⟨a, 5, none⟩ = some (.int .u8 (X.v.toNat : Int)) ∧
              W.cell? ⟨a + 1, 0, none⟩ = some (.int .i64 Y.f) ∧ W.cell? ⟨a + 1, 1, none⟩ = some (.int .i64 Y.lv) ∧ W.cell? ⟨a + 1, 2, none⟩ = some (.bool Y.a) ∧ W.cell? ⟨a + 1, 3, none⟩ = some (.bool Y.i) ∧ W.cell? ⟨a + 1, 4, none⟩ = some (.bool Y.o) ∧ W.cell? ⟨a + 1, 5, none⟩ = some (.int .u8 (Y.v.toNat : Int)) ∧ Below wr.heap.size wr W)
            ((refine two_srsB HS0.out HS1.out ?_; repeat (first | assumption | exact Below.refl _ _ | with_reducible refine bAlloc ?_ _ | with_reducible refine Below.drew ?_)))
            (first | (go_at_call 21; (with_reducible refine (HO.out _ ?_).mono ?_); (focus (repeat (first | assumption | exact Below.refl _ _ | with_reducible refine Below.drew ?_))); rintro e w5 ⟨rfl, rfl⟩)
                   | (go_at_call 23; (with_reducible refine (HA.out _ ?_).mono ?_); (focus (repeat (first | assumption | exact Below.refl _ _ | with_reducible refine Below.drew ?_))); rintro e w6 ⟨rfl, hb6⟩; have hbb : Below wr.heap.size wr w6 := (by refine bCall ?_ hb6; repeat (first | assumption | exact Below.refl _ _ | with_reducible refine Below.drew ?_))))
          have HB6 := keepd (bCall HBr.out hbb)
          clear hbb hb6
          go_wp2
          go_ret
          exact ⟨rfl, HB6.out⟩

end Go.Proofs.YtemmdknnmhdhkaaDoor
