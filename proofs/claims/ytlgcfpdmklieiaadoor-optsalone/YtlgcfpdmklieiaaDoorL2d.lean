/-
  The law OptsAlone, walked: the second one has an answer.
-/
import Derived.Test.YtlgcfpdmklieiaaDoorL2b
import Derived.Deep.WholeRow
namespace Go.Proofs.YtlgcfpdmklieiaaDoor
open Go.RowKit
set_option maxRecDepth 100000

attribute [local go_sem ↓] ex_ld25 ex_ld67 ex_ld73 ex_st25 ex_st67 ex_st73 ex_eq25 ex_ne25 ex_ix22 ex_eq23
attribute [local go_sem] ptrB_at okPtr_at aggC_at agg16 agg11 agg12 isO_at toO_at idx0 idx1 idx2 idx3 okIdx_at isRow_new World.setRow_alloc_new isB4_at toB4_at

set_option maxHeartbeats 4000000 in
theorem alone_no (X : O) (v c : Int) (hm on : Bool) (p : Int) (hh : okO X = true) (Y Z : O) (k kk : Int) (u' : Int) (om : (vOk u' && cOk (codeI p)) = true) (z1 : gotF X v c = (Y, [], k)) (z2 : askF X hm p on = (Z, [(u', codeI p)], kk)) (w : World) (hL : LaidA w) : Calls Tryd.prog 4 #[X.v, .agg #[.int .i64 v, .int .i64 c], .agg #[.bool hm, .bool on, .int .i64 p]] w fun e w' => e = .returned (.bool true) ∧ Below w.heap.size w w' := by
  have CG := keepd (gotO_any X v c)
  have CK := keepd (askO_any X hm p on)
  have CC := keepd (checkO_any X)
  have CP := keepd (place_any c)
  have CA := keepd awake_any
  have oG := got_only X v c hh
  have oA := ask_only X hm p on hh
  rw [z1] at CG oG
  rw [z2] at CK oA
  rw [hh] at CC
  simp only [if_true] at CC
  have OG := keepd oG
  have OA := keepd oA
  have HL := keepd hL
  clear hL z1 z2 hh oG oA
  generalize plI c = pl at *
  generalize plK c = fd at *
  go_enter Tryd.func4, Tryd.ntmps4
  go_upto_region 1 with fail
  generalize hW : ((w.alloc (.cells X.cs.toArray 25)).alloc (.cells (List.toArray [.int .i64 v, .int .i64 c]) 27)).alloc (.cells (List.toArray [.bool hm, .bool on, .int .i64 p]) 29) = W
  obtain ⟨h1, h2, h2', h3, _⟩ := three_new _ _ _ _ _ _ _ _ hW
  clear hW
  have HX := keepd h1
  have HV := keepd h2
  have HK := keepd h2'
  have HB := keepd h3
  clear h1 h2 h2' h3
  have d0 := HV.out.cell 0
  have d1 := HV.out.cell 1
  have e0 := HK.out.cell 0
  have e1 := HK.out.cell 1
  have e2 := HK.out.cell 2
  simp only [List.getElem?_cons_succ, List.getElem?_cons_zero] at d0 d1 e0 e1 e2
  obtain ⟨r1, k1⟩ := HX.out.facts 16 rfl
  go_wp2_with fail
  with_reducible refine (CG.out _ ((LaidA.laid HL.out).below HB.out)).mono ?_
  rintro e w2 ⟨sl, rfl, ho, hb⟩
  have HB := keepd (bCall HB.out hb)
  have HX := keepd (HX.out.call hb HX.out.lt)
  have HV := keepd (HV.out.call hb HV.out.lt)
  have HK := keepd (HK.out.call hb HK.out.lt)
  have O1 := keepd ho
  clear ho hb CG d0 d1 e0 e1 e2 r1 k1
  go_upto_region 2 with fail
  generalize hW : w2.alloc (.cells Y.cs.toArray 25) = W2
  obtain ⟨h1, hb, h3⟩ := one_new _ _ _ _ hW
  have HB := keepd (bCall HB.out hb)
  have HX := keepd (HX.out.call hb HX.out.lt)
  have HV := keepd (HV.out.call hb HV.out.lt)
  have HK := keepd (HK.out.call hb HK.out.lt)
  have O1 := keepd (O1.out.below hb)
  generalize w2.heap.size = bY at *
  have HY := keepd h1
  clear h1 hb h3 hW
  have d0 := HV.out.cell 0
  have d1 := HV.out.cell 1
  have e0 := HK.out.cell 0
  have e1 := HK.out.cell 1
  have e2 := HK.out.cell 2
  simp only [List.getElem?_cons_succ, List.getElem?_cons_zero] at d0 d1 e0 e1 e2
  obtain ⟨r1, k1⟩ := HX.out.facts 16 rfl
  go_wp2_with fail
  with_reducible refine (CK.out _ (HL.out.below HB.out)).mono ?_
  rintro e w3 ⟨sm, rfl, ho, hb⟩
  have HB := keepd (bCall HB.out hb)
  have HX := keepd (HX.out.call hb HX.out.lt)
  have HV := keepd (HV.out.call hb HV.out.lt)
  have HK := keepd (HK.out.call hb HK.out.lt)
  have HY := keepd (HY.out.call hb HY.out.lt)
  have O1 := keepd (O1.out.below hb)
  have O2 := keepd ho
  clear ho hb CK d0 d1 e0 e1 e2 r1 k1
  go_upto_region 3 with fail
  generalize hW : w3.alloc (.cells Z.cs.toArray 25) = W3
  obtain ⟨h1, hb, h3⟩ := one_new _ _ _ _ hW
  have HB := keepd (bCall HB.out hb)
  have HX := keepd (HX.out.call hb HX.out.lt)
  have HV := keepd (HV.out.call hb HV.out.lt)
  have HK := keepd (HK.out.call hb HK.out.lt)
  have HY := keepd (HY.out.call hb HY.out.lt)
  have O1 := keepd (O1.out.below hb)
  have O2 := keepd (O2.out.below hb)
  generalize w3.heap.size = bZ at *
  have HZ := keepd h1
  clear h1 hb h3 hW
  obtain ⟨r1, k1⟩ := HX.out.facts 16 rfl
  have HM : Hid (AM w X Y Z v c hm on p bY bZ sl sm [] [(u', codeI p)] W3) := ⟨HX.out, HV.out, HK.out, HY.out, HZ.out, O1.out.base (Nat.zero_le _), O2.out.base (Nat.zero_le _), HB.out⟩
  clear HX HV HK HY HZ O1 O2 HB
  go_wp2_with fail
  with_reducible refine (CC.out _).mono ?_
  rintro e w4 ⟨rfl, hb⟩
  have HM := keepd (HM.out.call hb)
  clear hb CC r1 k1
  have d1 := HM.out.v.cell 1
  simp only [List.getElem?_cons_succ, List.getElem?_cons_zero] at d1
  go_wp2_with fail
  with_reducible refine (CP.out _ ((LaidA.laid HL.out).below HM.out.b)).mono ?_
  rintro e w5 ⟨rfl, rfl⟩
  clear CP d1
  go_wp2_with fail
  go_loopw [15, 16] (fun vi _ wr => ∃ i : Nat, i ≤ 4 ∧ vi = .int .i64 i ∧ Hid (AM w X Y Z v c hm on p bY bZ sl sm [] [(u', codeI p)] wr)) (fun vi _ _ => 4 - (intOf vi).toNat)
  case atStart => exact ⟨0, by omega, rfl, HM⟩
  case round =>
    obtain ⟨i, hi, rfl, HM⟩ := hrel
    by_cases hlt : i < 4
    · have g1 : decide ((i : Int) < 4) = true := by simp; omega
      have x0 := (HM.out.x.cell i).trans (cs_us X i hlt)
      have x1 := (HM.out.x.cell (4 + i)).trans (cs_him X i hlt)
      have y0 := (HM.out.y.cell i).trans (cs_us Y i hlt)
      have y1 := (HM.out.y.cell (4 + i)).trans (cs_him Y i hlt)
      have b1 : (i : Int) < 4 := by omega
      have b2 : (0 : Int) ≤ i := by omega
      have W1 := keepd (way3 OG.out.1 i hlt)
      have W2 := keepd (way3 OA.out.1 i hlt)
      obtain ⟨hb, hhb⟩ : ∃ b, ofHim v = b := ⟨_, rfl⟩
      rw [hhb] at W1
      have HHB := keepd hhb
      clear hhb
      go_upto_region 9 with fail
      go_cut [16] (fun s16 wx => s16 = .bool hb ∧ wx = wr)
      case first =>
        have d0 := HM.out.v.cell 0
        simp only [List.getElem?_cons_zero] at d0
        have hq : ((v == 251) || (v == 252)) = hb := HHB.out
        obtain ⟨hv, hhv⟩ : ∃ b, (v == 251) = b := ⟨_, rfl⟩
        rw [hhv] at hq
        cases hv
        · rw [Bool.false_or] at hq
          go_wp2_with fail
          go_meet
          exact ⟨by first | rfl | (congr 1), rfl⟩
        · rw [Bool.true_or] at hq
          subst hq
          go_wp2_with fail
          go_meet
          exact ⟨rfl, rfl⟩
      case rest =>
      obtain ⟨rfl, rfl⟩ := hcut
      go_wp2_with fail
      go_cut [123] (fun s123 wx => s123 = .bool false ∧ Hid (AM w X Y Z v c hm on p bY bZ sl sm [] [(u', codeI p)] wx))
      case first =>
        rcases W1.out with ⟨q, q'⟩ | ⟨q, q', f1, f2, f3⟩ | ⟨q, q', f1, f2, f3⟩
        · clear W1 W2 OG OA
          go_quiet (fail)
          go_wp2_with fail
          go_meet
          exact ⟨rfl, HM.out.drewN _⟩
        · have f2 : (i : Int) = pl := by simpa using f2
          subst f1 f2 f3
          clear W1 W2 OG OA
          go_quiet (fail)
          go_wp2_with fail
          go_meet
          exact ⟨rfl, HM.out.drewN _⟩
        · have f2 : (i : Int) = pl := by simpa using f2
          subst f1 f2 f3
          clear W1 W2 OG OA
          go_quiet (fail)
          go_wp2_with fail
          go_meet
          exact ⟨rfl, HM.out.drewN _⟩
      case rest =>
      obtain ⟨rfl, HM⟩ := hcut
      clear x0 x1 y0 y1
      have x0 := (HM.out.x.cell i).trans (cs_us X i hlt)
      have x1 := (HM.out.x.cell (4 + i)).trans (cs_him X i hlt)
      have y0 := (HM.out.z.cell i).trans (cs_us Z i hlt)
      have y1 := (HM.out.z.cell (4 + i)).trans (cs_him Z i hlt)
      have e0 := HM.out.k.cell 0
      have e2 := HM.out.k.cell 2
      simp only [List.getElem?_cons_succ, List.getElem?_cons_zero] at e0 e2
      go_wp2_with fail
      go_cut [166] (fun s166 wx => s166 = .bool false ∧ Hid (AM w X Y Z v c hm on p bY bZ sl sm [] [(u', codeI p)] wx))
      case first =>
        clear W1
        rcases W2.out with ⟨q, q'⟩ | ⟨q, q', f1, f2, f3⟩ | ⟨q, q', f1, f2, f3⟩
        · clear W2 OG OA
          go_quiet (fail)
          go_wp2_with fail
          go_meet
          exact ⟨rfl, HM.out.drewN _⟩
        · have f2 : (i : Int) = p := by simpa using f2
          clear W2 OG OA f1
          subst f2 f3
          go_quiet (fail)
          go_wp2_with fail
          go_meet
          exact ⟨rfl, HM.out.drewN _⟩
        · have f2 : (i : Int) = p := by simpa using f2
          clear W2 OG OA f1
          subst f2 f3
          go_quiet (fail)
          go_wp2_with fail
          go_meet
          exact ⟨rfl, HM.out.drewN _⟩
      case rest =>
      obtain ⟨rfl, HM⟩ := hcut
      clear x0 x1 y0 y1 e0 e2 W1 W2
      go_wp2_with fail
      go_roundw
      case rel => exact ⟨i + 1, by omega, by go_num, HM⟩
      case measure => simp [intOf]; omega
    · have g1 : decide ((i : Int) < 4) = false := by simp; omega
      clear hlt hi
      have d1 := HM.out.v.cell 1
      simp only [List.getElem?_cons_succ, List.getElem?_cons_zero] at d1
      go_wp2_with fail
      go_cut [207] (fun s207 wx => s207 = .bool false ∧ Hid (AM w X Y Z v c hm on p bY bZ sl sm [] [(u', codeI p)] wx))
      case first =>
        have hl := HM.out.l.ans0
        obtain ⟨bm, hl', cm⟩ := HM.out.m.ans1
        subst hl hl'
        have CJ := keepd (checkI_any u' (codeI p))
        rw [om] at CJ
        simp only [if_true] at CJ
        have A : A14 w X Y Z v c hm on p bY bZ (.slice none 0 0) (.slice (some ⟨bm, 0, none⟩) 1 1) [] [(u', codeI p)] [(bm, itC u' (codeI p))] _ := A14.mk HM.out (⟨cm, trivial⟩)
        have c1 : (c != c) = false := by simp
        obtain ⟨a0, a1, a2, a3, a4, _⟩ := A.s1
        clear OG OA  cm om
        generalize codeI p = cp at *
        refine wp_region_held_drew (S := (fun W => W.cell? ⟨bm, 0, none⟩ = some (.int .i64 3) ∧ W.cell? ⟨bm, 1, none⟩ = some (.int .i64 u') ∧ W.cell? ⟨bm, 2, none⟩ = some (.int .i64 cp) ∧ W.cell? ⟨bm, 3, none⟩ = some (.slice none 0 0) ∧ W.cell? ⟨w.heap.size + 1, 1, none⟩ = some (.int .i64 c) ∧ A14 w X Y Z v c hm on p bY bZ (.slice none 0 0) (.slice (some ⟨bm, 0, none⟩) 1 1) [] [(u', cp)] [(bm, itC u' cp)] W)) (by kernel_rfl) (A14.s1 (A14.drew A)) (fun hHeld => ?_)
        refine wpAnyH_take (i := 0) (oi := { dst := some 167, op := Op.move (Operand.tmp 8), type := 38, pos := "law.go:76", after := #[], guard := none }) (v := .slice none 0 0) rfl (by kernel_rfl) (by kernel_rfl) (by kernel_rfl) (fun _ _ _ h => h) (Or.inl ⟨by rfl, fun W hW => ?_⟩) hHeld ?_
        · obtain ⟨s0, s1, s2, s3, s4, _⟩ := hW
          go_simp
        simp only [Act.put, List.setIfInBounds_toArray, List.set_cons_zero, List.set_cons_succ]
        refine wpAnyH_take (i := 1) (oi := { dst := some 168, op := Op.call { callee := Callee.builtin Builtin.len, args := #[Operand.tmp 167], argTypes := #[38] }, type := 3, pos := "law.go:76", after := #[{ on := 0, ground := Ground.data }], guard := none }) (v := .int .i64 0) rfl (by kernel_rfl) (by kernel_rfl) (by kernel_rfl) (fun _ _ _ h => h) (Or.inl ⟨by rfl, fun W hW => ?_⟩) hHeld ?_
        · obtain ⟨s0, s1, s2, s3, s4, _⟩ := hW
          go_simp
        simp only [Act.put, List.setIfInBounds_toArray, List.set_cons_zero, List.set_cons_succ]
        refine wpAnyH_take (i := 2) (oi := { dst := some 169, op := Op.binOp BinOp.gtr 3 (Operand.tmp 168) (Operand.const (Value.int IntKind.i64 1)) 3, type := 4, pos := "law.go:76", after := #[{ on := 1, ground := Ground.data }], guard := none }) (v := .bool false) rfl (by kernel_rfl) (by kernel_rfl) (by kernel_rfl) (fun _ _ _ h => h) (Or.inl ⟨by rfl, fun W hW => ?_⟩) hHeld ?_
        · obtain ⟨s0, s1, s2, s3, s4, _⟩ := hW
          go_simp
        simp only [Act.put, List.setIfInBounds_toArray, List.set_cons_zero, List.set_cons_succ]
        refine wpAnyH_take (i := 3) (oi := { dst := some 170, op := Op.move (Operand.tmp 169), type := 4, pos := "law.go:76", after := #[{ on := 2, ground := Ground.data }], guard := none }) (v := .bool false) rfl (by kernel_rfl) (by kernel_rfl) (by kernel_rfl) (fun _ _ _ h => h) (Or.inl ⟨by rfl, fun W hW => ?_⟩) hHeld ?_
        · obtain ⟨s0, s1, s2, s3, s4, _⟩ := hW
          go_simp
        simp only [Act.put, List.setIfInBounds_toArray, List.set_cons_zero, List.set_cons_succ]
        refine wpAnyH_take (i := 4) (oi := { dst := some 171, op := Op.move (Operand.tmp 11), type := 38, pos := "law.go:76", after := #[{ on := 3, ground := Ground.guard }], guard := some (3, false) }) (v := .slice (some ⟨bm, 0, none⟩) 1 1) rfl (by kernel_rfl) (by kernel_rfl) (by kernel_rfl) (fun _ _ _ h => h) (Or.inl ⟨by rfl, fun W hW => ?_⟩) hHeld ?_
        · obtain ⟨s0, s1, s2, s3, s4, _⟩ := hW
          go_simp
        simp only [Act.put, List.setIfInBounds_toArray, List.set_cons_zero, List.set_cons_succ]
        refine wpAnyH_take (i := 5) (oi := { dst := some 172, op := Op.call { callee := Callee.builtin Builtin.len, args := #[Operand.tmp 171], argTypes := #[38] }, type := 3, pos := "law.go:76", after := #[{ on := 4, ground := Ground.data }, { on := 3, ground := Ground.guard }], guard := some (3, false) }) (v := .int .i64 1) rfl (by kernel_rfl) (by kernel_rfl) (by kernel_rfl) (fun _ _ _ h => h) (Or.inl ⟨by rfl, fun W hW => ?_⟩) hHeld ?_
        · obtain ⟨s0, s1, s2, s3, s4, _⟩ := hW
          go_simp
        simp only [Act.put, List.setIfInBounds_toArray, List.set_cons_zero, List.set_cons_succ]
        refine wpAnyH_take (i := 6) (oi := { dst := some 173, op := Op.binOp BinOp.gtr 3 (Operand.tmp 172) (Operand.const (Value.int IntKind.i64 1)) 3, type := 4, pos := "law.go:76", after := #[{ on := 5, ground := Ground.data }, { on := 3, ground := Ground.guard }], guard := some (3, false) }) (v := .bool false) rfl (by kernel_rfl) (by kernel_rfl) (by kernel_rfl) (fun _ _ _ h => h) (Or.inl ⟨by rfl, fun W hW => ?_⟩) hHeld ?_
        · obtain ⟨s0, s1, s2, s3, s4, _⟩ := hW
          go_simp
        simp only [Act.put, List.setIfInBounds_toArray, List.set_cons_zero, List.set_cons_succ]
        refine wpAnyH_take (i := 7) (oi := { dst := some 174, op := Op.pick (Operand.tmp 170) (Operand.const (Value.bool true)) (Operand.tmp 173), type := 4, pos := "law.go:76", after := #[{ on := 3, ground := Ground.data }, { on := 6, ground := Ground.data }], guard := none }) (v := .bool false) rfl (by kernel_rfl) (by kernel_rfl) (by kernel_rfl) (fun _ _ _ h => h) (Or.inl ⟨by rfl, fun W hW => ?_⟩) hHeld ?_
        · obtain ⟨s0, s1, s2, s3, s4, _⟩ := hW
          go_simp
        simp only [Act.put, List.setIfInBounds_toArray, List.set_cons_zero, List.set_cons_succ]
        refine wpAnyH_take (i := 8) (oi := { dst := some 175, op := Op.move (Operand.tmp 174), type := 4, pos := "law.go:76", after := #[{ on := 7, ground := Ground.data }, { on := 3, ground := Ground.chain }], guard := none }) (v := .bool false) rfl (by kernel_rfl) (by kernel_rfl) (by kernel_rfl) (fun _ _ _ h => h) (Or.inl ⟨by rfl, fun W hW => ?_⟩) hHeld ?_
        · obtain ⟨s0, s1, s2, s3, s4, _⟩ := hW
          go_simp
        simp only [Act.put, List.setIfInBounds_toArray, List.set_cons_zero, List.set_cons_succ]
        refine wpAnyH_take (i := 9) (oi := { dst := some 176, op := Op.move (Operand.tmp 8), type := 38, pos := "law.go:76", after := #[{ on := 8, ground := Ground.guard }], guard := some (8, false) }) (v := .slice none 0 0) rfl (by kernel_rfl) (by kernel_rfl) (by kernel_rfl) (fun _ _ _ h => h) (Or.inl ⟨by rfl, fun W hW => ?_⟩) hHeld ?_
        · obtain ⟨s0, s1, s2, s3, s4, _⟩ := hW
          go_simp
        simp only [Act.put, List.setIfInBounds_toArray, List.set_cons_zero, List.set_cons_succ]
        refine wpAnyH_take (i := 10) (oi := { dst := some 177, op := Op.call { callee := Callee.builtin Builtin.len, args := #[Operand.tmp 176], argTypes := #[38] }, type := 3, pos := "law.go:76", after := #[{ on := 9, ground := Ground.data }, { on := 8, ground := Ground.guard }], guard := some (8, false) }) (v := .int .i64 0) rfl (by kernel_rfl) (by kernel_rfl) (by kernel_rfl) (fun _ _ _ h => h) (Or.inl ⟨by rfl, fun W hW => ?_⟩) hHeld ?_
        · obtain ⟨s0, s1, s2, s3, s4, _⟩ := hW
          go_simp
        simp only [Act.put, List.setIfInBounds_toArray, List.set_cons_zero, List.set_cons_succ]
        refine wpAnyH_take (i := 11) (oi := { dst := some 178, op := Op.binOp BinOp.eql 3 (Operand.tmp 177) (Operand.const (Value.int IntKind.i64 1)) 3, type := 4, pos := "law.go:76", after := #[{ on := 10, ground := Ground.data }, { on := 8, ground := Ground.guard }], guard := some (8, false) }) (v := .bool false) rfl (by kernel_rfl) (by kernel_rfl) (by kernel_rfl) (fun _ _ _ h => h) (Or.inl ⟨by rfl, fun W hW => ?_⟩) hHeld ?_
        · obtain ⟨s0, s1, s2, s3, s4, _⟩ := hW
          go_simp
        simp only [Act.put, List.setIfInBounds_toArray, List.set_cons_zero, List.set_cons_succ]
        refine wpAnyH_take (i := 12) (oi := { dst := some 179, op := Op.move (Operand.tmp 178), type := 4, pos := "law.go:76", after := #[{ on := 11, ground := Ground.data }, { on := 8, ground := Ground.chain }, { on := 8, ground := Ground.guard }], guard := some (8, false) }) (v := .bool false) rfl (by kernel_rfl) (by kernel_rfl) (by kernel_rfl) (fun _ _ _ h => h) (Or.inl ⟨by rfl, fun W hW => ?_⟩) hHeld ?_
        · obtain ⟨s0, s1, s2, s3, s4, _⟩ := hW
          go_simp
        simp only [Act.put, List.setIfInBounds_toArray, List.set_cons_zero, List.set_cons_succ]
        refine wpAnyH_take (i := 13) (oi := { dst := some 180, op := Op.move (Operand.tmp 8), type := 38, pos := "law.go:76", after := #[{ on := 12, ground := Ground.guard }], guard := some (12, true) }) (v := undef) rfl (by kernel_rfl) (by kernel_rfl) (by kernel_rfl) (fun _ _ _ h => h) (Or.inr ⟨by rfl, rfl⟩) hHeld ?_
        simp only [Act.put, List.setIfInBounds_toArray, List.set_cons_zero, List.set_cons_succ]
        refine wpAnyH_take (i := 14) (oi := { dst := some 181, op := Op.indexAddr 38 (Operand.tmp 180) (Operand.const (Value.int IntKind.i64 0)), type := 0, pos := "law.go:76", after := #[{ on := 13, ground := Ground.data }, { on := 12, ground := Ground.guard }], guard := some (12, true) }) (v := undef) rfl (by kernel_rfl) (by kernel_rfl) (by kernel_rfl) (fun _ _ _ h => h) (Or.inr ⟨by rfl, rfl⟩) hHeld ?_
        simp only [Act.put, List.setIfInBounds_toArray, List.set_cons_zero, List.set_cons_succ]
        refine wpAnyH_take (i := 15) (oi := { dst := some 182, op := Op.load 51 (Operand.tmp 181), type := 51, pos := "law.go:76", after := #[{ on := 14, ground := Ground.data }, { on := 12, ground := Ground.guard }], guard := some (12, true) }) (v := undef) rfl (by kernel_rfl) (by kernel_rfl) (by kernel_rfl) (fun _ _ _ h => h) (Or.inr ⟨by rfl, rfl⟩) hHeld ?_
        simp only [Act.put, List.setIfInBounds_toArray, List.set_cons_zero, List.set_cons_succ]
        refine wpAnyH_take (i := 16) (oi := { dst := some 183, op := Op.call { callee := Callee.value (Operand.func 20), args := #[Operand.tmp 182], argTypes := #[51] }, type := 33, pos := "law.go:76", after := #[{ on := 15, ground := Ground.data }, { on := 12, ground := Ground.chain }, { on := 12, ground := Ground.guard }], guard := some (12, true) }) (v := undef) rfl (by kernel_rfl) (by kernel_rfl) (by kernel_rfl) (fun _ _ _ h => h) (Or.inr ⟨by rfl, rfl⟩) hHeld ?_
        simp only [Act.put, List.setIfInBounds_toArray, List.set_cons_zero, List.set_cons_succ]
        refine wpAnyH_take (i := 17) (oi := { dst := some 184, op := Op.binOp BinOp.neq 33 (Operand.tmp 183) (Operand.const (Value.int IntKind.i64 0)) 33, type := 4, pos := "law.go:76", after := #[{ on := 16, ground := Ground.data }, { on := 12, ground := Ground.guard }], guard := some (12, true) }) (v := undef) rfl (by kernel_rfl) (by kernel_rfl) (by kernel_rfl) (fun _ _ _ h => h) (Or.inr ⟨by rfl, rfl⟩) hHeld ?_
        simp only [Act.put, List.setIfInBounds_toArray, List.set_cons_zero, List.set_cons_succ]
        refine wpAnyH_take (i := 18) (oi := { dst := some 185, op := Op.move (Operand.tmp 184), type := 4, pos := "law.go:76", after := #[{ on := 17, ground := Ground.data }, { on := 16, ground := Ground.chain }, { on := 12, ground := Ground.guard }], guard := some (12, true) }) (v := undef) rfl (by kernel_rfl) (by kernel_rfl) (by kernel_rfl) (fun _ _ _ h => h) (Or.inr ⟨by rfl, rfl⟩) hHeld ?_
        simp only [Act.put, List.setIfInBounds_toArray, List.set_cons_zero, List.set_cons_succ]
        refine wpAnyH_take (i := 19) (oi := { dst := some 186, op := Op.move (Operand.tmp 8), type := 38, pos := "law.go:76", after := #[{ on := 18, ground := Ground.guard }], guard := some (18, false) }) (v := undef) rfl (by kernel_rfl) (by kernel_rfl) (by kernel_rfl) (fun _ _ _ h => h) (Or.inr ⟨by rfl, rfl⟩) hHeld ?_
        simp only [Act.put, List.setIfInBounds_toArray, List.set_cons_zero, List.set_cons_succ]
        refine wpAnyH_take (i := 20) (oi := { dst := some 187, op := Op.indexAddr 38 (Operand.tmp 186) (Operand.const (Value.int IntKind.i64 0)), type := 0, pos := "law.go:76", after := #[{ on := 19, ground := Ground.data }, { on := 18, ground := Ground.guard }], guard := some (18, false) }) (v := undef) rfl (by kernel_rfl) (by kernel_rfl) (by kernel_rfl) (fun _ _ _ h => h) (Or.inr ⟨by rfl, rfl⟩) hHeld ?_
        simp only [Act.put, List.setIfInBounds_toArray, List.set_cons_zero, List.set_cons_succ]
        refine wpAnyH_take (i := 21) (oi := { dst := some 188, op := Op.fieldAddr 51 (Operand.tmp 187) 2, type := 0, pos := "law.go:76", after := #[{ on := 20, ground := Ground.data }, { on := 18, ground := Ground.guard }], guard := some (18, false) }) (v := undef) rfl (by kernel_rfl) (by kernel_rfl) (by kernel_rfl) (fun _ _ _ h => h) (Or.inr ⟨by rfl, rfl⟩) hHeld ?_
        simp only [Act.put, List.setIfInBounds_toArray, List.set_cons_zero, List.set_cons_succ]
        refine wpAnyH_take (i := 22) (oi := { dst := some 189, op := Op.load 3 (Operand.tmp 188), type := 3, pos := "law.go:76", after := #[{ on := 21, ground := Ground.data }, { on := 18, ground := Ground.guard }], guard := some (18, false) }) (v := undef) rfl (by kernel_rfl) (by kernel_rfl) (by kernel_rfl) (fun _ _ _ h => h) (Or.inr ⟨by rfl, rfl⟩) hHeld ?_
        simp only [Act.put, List.setIfInBounds_toArray, List.set_cons_zero, List.set_cons_succ]
        refine wpAnyH_take (i := 23) (oi := { dst := some 190, op := Op.fieldAddr 27 (Operand.tmp 4) 1, type := 0, pos := "law.go:76", after := #[{ on := 18, ground := Ground.guard }], guard := some (18, false) }) (v := undef) rfl (by kernel_rfl) (by kernel_rfl) (by kernel_rfl) (fun _ _ _ h => h) (Or.inr ⟨by rfl, rfl⟩) hHeld ?_
        simp only [Act.put, List.setIfInBounds_toArray, List.set_cons_zero, List.set_cons_succ]
        refine wpAnyH_take (i := 24) (oi := { dst := some 191, op := Op.load 3 (Operand.tmp 190), type := 3, pos := "law.go:76", after := #[{ on := 23, ground := Ground.data }, { on := 18, ground := Ground.guard }], guard := some (18, false) }) (v := undef) rfl (by kernel_rfl) (by kernel_rfl) (by kernel_rfl) (fun _ _ _ h => h) (Or.inr ⟨by rfl, rfl⟩) hHeld ?_
        simp only [Act.put, List.setIfInBounds_toArray, List.set_cons_zero, List.set_cons_succ]
        refine wpAnyH_take (i := 25) (oi := { dst := some 192, op := Op.binOp BinOp.neq 3 (Operand.tmp 189) (Operand.tmp 191) 3, type := 4, pos := "law.go:76", after := #[{ on := 22, ground := Ground.data }, { on := 24, ground := Ground.data }, { on := 18, ground := Ground.guard }], guard := some (18, false) }) (v := undef) rfl (by kernel_rfl) (by kernel_rfl) (by kernel_rfl) (fun _ _ _ h => h) (Or.inr ⟨by rfl, rfl⟩) hHeld ?_
        simp only [Act.put, List.setIfInBounds_toArray, List.set_cons_zero, List.set_cons_succ]
        refine wpAnyH_take (i := 26) (oi := { dst := some 193, op := Op.pick (Operand.tmp 185) (Operand.const (Value.bool true)) (Operand.tmp 192), type := 4, pos := "law.go:76", after := #[{ on := 18, ground := Ground.data }, { on := 25, ground := Ground.data }, { on := 12, ground := Ground.guard }], guard := some (12, true) }) (v := undef) rfl (by kernel_rfl) (by kernel_rfl) (by kernel_rfl) (fun _ _ _ h => h) (Or.inr ⟨by rfl, rfl⟩) hHeld ?_
        simp only [Act.put, List.setIfInBounds_toArray, List.set_cons_zero, List.set_cons_succ]
        refine wpAnyH_take (i := 27) (oi := { dst := some 194, op := Op.pick (Operand.tmp 179) (Operand.tmp 193) (Operand.const (Value.bool false)), type := 4, pos := "law.go:76", after := #[{ on := 12, ground := Ground.data }, { on := 26, ground := Ground.data }, { on := 8, ground := Ground.guard }], guard := some (8, false) }) (v := .bool false) rfl (by kernel_rfl) (by kernel_rfl) (by kernel_rfl) (fun _ _ _ h => h) (Or.inl ⟨by rfl, fun W hW => ?_⟩) hHeld ?_
        · obtain ⟨s0, s1, s2, s3, s4, _⟩ := hW
          go_simp
        simp only [Act.put, List.setIfInBounds_toArray, List.set_cons_zero, List.set_cons_succ]
        refine wpAnyH_take (i := 28) (oi := { dst := some 195, op := Op.pick (Operand.tmp 175) (Operand.const (Value.bool true)) (Operand.tmp 194), type := 4, pos := "law.go:76", after := #[{ on := 8, ground := Ground.data }, { on := 27, ground := Ground.data }], guard := none }) (v := .bool false) rfl (by kernel_rfl) (by kernel_rfl) (by kernel_rfl) (fun _ _ _ h => h) (Or.inl ⟨by rfl, fun W hW => ?_⟩) hHeld ?_
        · obtain ⟨s0, s1, s2, s3, s4, _⟩ := hW
          go_simp
        simp only [Act.put, List.setIfInBounds_toArray, List.set_cons_zero, List.set_cons_succ]
        refine wpAnyH_take (i := 29) (oi := { dst := some 196, op := Op.move (Operand.tmp 195), type := 4, pos := "law.go:76", after := #[{ on := 28, ground := Ground.data }, { on := 18, ground := Ground.chain }], guard := none }) (v := .bool false) rfl (by kernel_rfl) (by kernel_rfl) (by kernel_rfl) (fun _ _ _ h => h) (Or.inl ⟨by rfl, fun W hW => ?_⟩) hHeld ?_
        · obtain ⟨s0, s1, s2, s3, s4, _⟩ := hW
          go_simp
        simp only [Act.put, List.setIfInBounds_toArray, List.set_cons_zero, List.set_cons_succ]
        refine wpAnyH_take (i := 30) (oi := { dst := some 197, op := Op.move (Operand.tmp 11), type := 38, pos := "law.go:76", after := #[{ on := 29, ground := Ground.guard }], guard := some (29, false) }) (v := .slice (some ⟨bm, 0, none⟩) 1 1) rfl (by kernel_rfl) (by kernel_rfl) (by kernel_rfl) (fun _ _ _ h => h) (Or.inl ⟨by rfl, fun W hW => ?_⟩) hHeld ?_
        · obtain ⟨s0, s1, s2, s3, s4, _⟩ := hW
          go_simp
        simp only [Act.put, List.setIfInBounds_toArray, List.set_cons_zero, List.set_cons_succ]
        refine wpAnyH_take (i := 31) (oi := { dst := some 198, op := Op.call { callee := Callee.builtin Builtin.len, args := #[Operand.tmp 197], argTypes := #[38] }, type := 3, pos := "law.go:76", after := #[{ on := 30, ground := Ground.data }, { on := 29, ground := Ground.guard }], guard := some (29, false) }) (v := .int .i64 1) rfl (by kernel_rfl) (by kernel_rfl) (by kernel_rfl) (fun _ _ _ h => h) (Or.inl ⟨by rfl, fun W hW => ?_⟩) hHeld ?_
        · obtain ⟨s0, s1, s2, s3, s4, _⟩ := hW
          go_simp
        simp only [Act.put, List.setIfInBounds_toArray, List.set_cons_zero, List.set_cons_succ]
        refine wpAnyH_take (i := 32) (oi := { dst := some 199, op := Op.binOp BinOp.eql 3 (Operand.tmp 198) (Operand.const (Value.int IntKind.i64 1)) 3, type := 4, pos := "law.go:76", after := #[{ on := 31, ground := Ground.data }, { on := 29, ground := Ground.guard }], guard := some (29, false) }) (v := .bool true) rfl (by kernel_rfl) (by kernel_rfl) (by kernel_rfl) (fun _ _ _ h => h) (Or.inl ⟨by rfl, fun W hW => ?_⟩) hHeld ?_
        · obtain ⟨s0, s1, s2, s3, s4, _⟩ := hW
          go_simp
        simp only [Act.put, List.setIfInBounds_toArray, List.set_cons_zero, List.set_cons_succ]
        refine wpAnyH_take (i := 33) (oi := { dst := some 200, op := Op.move (Operand.tmp 199), type := 4, pos := "law.go:76", after := #[{ on := 32, ground := Ground.data }, { on := 29, ground := Ground.chain }, { on := 29, ground := Ground.guard }], guard := some (29, false) }) (v := .bool true) rfl (by kernel_rfl) (by kernel_rfl) (by kernel_rfl) (fun _ _ _ h => h) (Or.inl ⟨by rfl, fun W hW => ?_⟩) hHeld ?_
        · obtain ⟨s0, s1, s2, s3, s4, _⟩ := hW
          go_simp
        simp only [Act.put, List.setIfInBounds_toArray, List.set_cons_zero, List.set_cons_succ]
        refine wpAnyH_take (i := 34) (oi := { dst := some 201, op := Op.move (Operand.tmp 11), type := 38, pos := "law.go:76", after := #[{ on := 33, ground := Ground.guard }], guard := some (33, true) }) (v := .slice (some ⟨bm, 0, none⟩) 1 1) rfl (by kernel_rfl) (by kernel_rfl) (by kernel_rfl) (fun _ _ _ h => h) (Or.inl ⟨by rfl, fun W hW => ?_⟩) hHeld ?_
        · obtain ⟨s0, s1, s2, s3, s4, _⟩ := hW
          go_simp
        simp only [Act.put, List.setIfInBounds_toArray, List.set_cons_zero, List.set_cons_succ]
        refine wpAnyH_take (i := 35) (oi := { dst := some 202, op := Op.indexAddr 38 (Operand.tmp 201) (Operand.const (Value.int IntKind.i64 0)), type := 0, pos := "law.go:76", after := #[{ on := 34, ground := Ground.data }, { on := 33, ground := Ground.guard }], guard := some (33, true) }) (v := .pointer (some ⟨bm, 0, none⟩)) rfl (by kernel_rfl) (by kernel_rfl) (by kernel_rfl) (fun _ _ _ h => h) (Or.inl ⟨by rfl, fun W hW => ?_⟩) hHeld ?_
        · obtain ⟨s0, s1, s2, s3, s4, _⟩ := hW
          go_simp
        simp only [Act.put, List.setIfInBounds_toArray, List.set_cons_zero, List.set_cons_succ]
        refine wpAnyH_take (i := 36) (oi := { dst := some 203, op := Op.load 51 (Operand.tmp 202), type := 51, pos := "law.go:76", after := #[{ on := 35, ground := Ground.data }, { on := 33, ground := Ground.guard }], guard := some (33, true) }) (v := it u' cp) rfl (by kernel_rfl) (by kernel_rfl) (by kernel_rfl) (fun _ _ _ h => h) (Or.inl ⟨by rfl, fun W hW => ?_⟩) hHeld ?_
        · obtain ⟨s0, s1, s2, s3, s4, _⟩ := hW
          go_simp
        simp only [Act.put, List.setIfInBounds_toArray, List.set_cons_zero, List.set_cons_succ]
        refine wpAnyH_ready (rs := [37]) (by kernel_rfl) (by simp) ?_
        refine AllReadyH.cons (o := { dst := some 204, op := Op.call { callee := Callee.value (Operand.func 20), args := #[Operand.tmp 203], argTypes := #[51] }, type := 33, pos := "law.go:76", after := #[{ on := 36, ground := Ground.data }, { on := 33, ground := Ground.chain }, { on := 33, ground := Ground.guard }], guard := some (33, true) }) rfl (fun K hK => ?_) AllReadyH.nil
        go_simp
        with_reducible refine (CJ.out _).mono ?_
        rintro e w7 ⟨rfl, hb⟩
        have K7 := A14.call (A14.drew A) hb
        clear hb
        go_wp2_with fail
        refine hK.out _ _ (A14.s1 K7) (fun hHeld2 => ?_)
        clear hK K hHeld
        rename (_ ∧ _) => hHeld
        try simp only [Act.put, List.setIfInBounds_toArray, List.set_cons_zero, List.set_cons_succ]
        refine wpAnyH_take (i := 38) (oi := { dst := some 205, op := Op.binOp BinOp.neq 33 (Operand.tmp 204) (Operand.const (Value.int IntKind.i64 0)) 33, type := 4, pos := "law.go:76", after := #[{ on := 37, ground := Ground.data }, { on := 33, ground := Ground.guard }], guard := some (33, true) }) (v := .bool false) rfl (by kernel_rfl) (by kernel_rfl) (by kernel_rfl) (fun _ _ _ h => h) (Or.inl ⟨by rfl, fun W hW => ?_⟩) hHeld ?_
        · obtain ⟨s0, s1, s2, s3, s4, _⟩ := hW
          go_simp
        simp only [Act.put, List.setIfInBounds_toArray, List.set_cons_zero, List.set_cons_succ]
        refine wpAnyH_take (i := 39) (oi := { dst := some 206, op := Op.pick (Operand.tmp 200) (Operand.tmp 205) (Operand.const (Value.bool false)), type := 4, pos := "law.go:76", after := #[{ on := 33, ground := Ground.data }, { on := 38, ground := Ground.data }, { on := 29, ground := Ground.guard }], guard := some (29, false) }) (v := .bool false) rfl (by kernel_rfl) (by kernel_rfl) (by kernel_rfl) (fun _ _ _ h => h) (Or.inl ⟨by rfl, fun W hW => ?_⟩) hHeld ?_
        · obtain ⟨s0, s1, s2, s3, s4, _⟩ := hW
          go_simp
        simp only [Act.put, List.setIfInBounds_toArray, List.set_cons_zero, List.set_cons_succ]
        refine wpAnyH_take (i := 40) (oi := { dst := some 207, op := Op.pick (Operand.tmp 196) (Operand.const (Value.bool true)) (Operand.tmp 206), type := 4, pos := "law.go:76", after := #[{ on := 29, ground := Ground.data }, { on := 39, ground := Ground.data }], guard := none }) (v := .bool false) rfl (by kernel_rfl) (by kernel_rfl) (by kernel_rfl) (fun _ _ _ h => h) (Or.inl ⟨by rfl, fun W hW => ?_⟩) hHeld ?_
        · obtain ⟨s0, s1, s2, s3, s4, _⟩ := hW
          go_simp
        simp only [Act.put, List.setIfInBounds_toArray, List.set_cons_zero, List.set_cons_succ]
        refine wpAnyH_done (by kernel_rfl) ?_ _
        go_wp2_with fail
        go_meet
        exact ⟨rfl, K7.am⟩
      case rest =>
      obtain ⟨rfl, HM⟩ := hcut
      clear d1
      have CY := keepd (checkO_any Y)
      have CZ := keepd (checkO_any Z)
      rw [OG.out.1.ok] at CY
      rw [OA.out.1.ok] at CZ
      simp only [if_true] at CY CZ
      have E1 := keepd OG.out.1.mu
      have E2 := keepd OA.out.1.mh
      clear OG OA
      obtain ⟨r2, k2⟩ := HM.out.y.facts 16 rfl
      go_wp2_with fail
      with_reducible refine (CY.out _).mono ?_
      rintro e w6 ⟨rfl, hb⟩
      have HM := keepd (HM.out.call hb)
      clear hb CY r2 k2
      obtain ⟨r2, k2⟩ := HM.out.z.facts 16 rfl
      go_wp2_with fail
      with_reducible refine (CZ.out _).mono ?_
      rintro e w7 ⟨rfl, hb⟩
      have HM := keepd (HM.out.call hb)
      clear hb CZ r2 k2
      have y8 := HM.out.y.cell 8
      have y9 := HM.out.y.cell 9
      have ya := HM.out.y.cell 10
      have yb := HM.out.y.cell 11
      have x8 := HM.out.x.cell 8
      have x9 := HM.out.x.cell 9
      have xa := HM.out.x.cell 10
      have xb := HM.out.x.cell 11
      have zc := HM.out.z.cell 12
      have zd := HM.out.z.cell 13
      have ze := HM.out.z.cell 14
      have zf := HM.out.z.cell 15
      have xc := HM.out.x.cell 12
      have xd := HM.out.x.cell 13
      have xe := HM.out.x.cell 14
      have xf := HM.out.x.cell 15
      simp only [O.cs, List.getElem?_cons_succ, List.getElem?_cons_zero, E1.out, E2.out] at y8 y9 ya yb x8 x9 xa xb zc zd ze zf xc xd xe xf
      have hs1 := same4_self X.mu
      have hs2 := same4_self X.mh
      go_wp2_with fail
      with_reducible refine (CA.out _ ((LaidA.laid HL.out).below HM.out.b)).mono ?_
      rintro e w8 ⟨rfl, hb⟩
      have HB := keepd (bCall HM.out.b hb)
      clear hb CA y8 y9 ya yb x8 x9 xa xb zc zd ze zf xc xd xe xf
      go_wp2_with fail
      go_ret
      exact ⟨rfl, HB.out⟩

end Go.Proofs.YtlgcfpdmklieiaaDoor
