/-
  The law OptsAlone, walked: neither has an answer.
-/
import Derived.Test.YtlgcfpdmklieiaaDoorL2b
import Derived.Deep.WholeRow
namespace Go.Proofs.YtlgcfpdmklieiaaDoor
open Go.RowKit
set_option maxRecDepth 100000

attribute [local go_sem ↓] ex_ld25 ex_ld67 ex_ld73 ex_st25 ex_st67 ex_st73 ex_eq25 ex_ne25 ex_ix22 ex_eq23
attribute [local go_sem] ptrB_at okPtr_at aggC_at agg16 agg11 agg12 isO_at toO_at idx0 idx1 idx2 idx3 okIdx_at isRow_new World.setRow_alloc_new isB4_at toB4_at

set_option maxHeartbeats 4000000 in
theorem alone_nn (X : O) (v c : Int) (hm on : Bool) (p : Int) (hh : okO X = true) (Y Z : O) (k kk : Int) (z1 : gotF X v c = (Y, [], k)) (z2 : askF X hm p on = (Z, [], kk)) (w : World) (hL : LaidA w) : Calls Tryd.prog 4 #[X.v, .agg #[.int .i64 v, .int .i64 c], .agg #[.bool hm, .bool on, .int .i64 p]] w fun e w' => e = .returned (.bool true) ∧ Below w.heap.size w w' := by
  have CG := keepd (gotO_any X v c)
  have CK := keepd (askO_any X hm p on)
  have CC := keepd (checkO_any X)
  have CP := keepd (place_any c)
  have CA := keepd awake_any
  have oG := got_only X v c hh
  have oA := ask_only X hm p on hh
  rw [z1] at CG oG
  rw [z2] at CK oA
  rw [hh] at CC
  simp only [if_true] at CC
  have OG := keepd oG
  have OA := keepd oA
  have HL := keepd hL
  clear hL z1 z2 hh oG oA
  generalize plI c = pl at *
  generalize plK c = fd at *
  go_enter Tryd.func4, Tryd.ntmps4
  go_upto_region 1 with fail
  generalize hW : ((w.alloc (.cells X.cs.toArray 25)).alloc (.cells (List.toArray [.int .i64 v, .int .i64 c]) 27)).alloc (.cells (List.toArray [.bool hm, .bool on, .int .i64 p]) 29) = W
  obtain ⟨h1, h2, h2', h3, _⟩ := three_new _ _ _ _ _ _ _ _ hW
  clear hW
  have HX := keepd h1
  have HV := keepd h2
  have HK := keepd h2'
  have HB := keepd h3
  clear h1 h2 h2' h3
  have d0 := HV.out.cell 0
  have d1 := HV.out.cell 1
  have e0 := HK.out.cell 0
  have e1 := HK.out.cell 1
  have e2 := HK.out.cell 2
  simp only [List.getElem?_cons_succ, List.getElem?_cons_zero] at d0 d1 e0 e1 e2
  obtain ⟨r1, k1⟩ := HX.out.facts 16 rfl
  go_wp2_with fail
  with_reducible refine (CG.out _ ((LaidA.laid HL.out).below HB.out)).mono ?_
  rintro e w2 ⟨sl, rfl, ho, hb⟩
  have HB := keepd (bCall HB.out hb)
  have HX := keepd (HX.out.call hb HX.out.lt)
  have HV := keepd (HV.out.call hb HV.out.lt)
  have HK := keepd (HK.out.call hb HK.out.lt)
  have O1 := keepd ho
  clear ho hb CG d0 d1 e0 e1 e2 r1 k1
  go_upto_region 2 with fail
  generalize hW : w2.alloc (.cells Y.cs.toArray 25) = W2
  obtain ⟨h1, hb, h3⟩ := one_new _ _ _ _ hW
  have HB := keepd (bCall HB.out hb)
  have HX := keepd (HX.out.call hb HX.out.lt)
  have HV := keepd (HV.out.call hb HV.out.lt)
  have HK := keepd (HK.out.call hb HK.out.lt)
  have O1 := keepd (O1.out.below hb)
  generalize w2.heap.size = bY at *
  have HY := keepd h1
  clear h1 hb h3 hW
  have d0 := HV.out.cell 0
  have d1 := HV.out.cell 1
  have e0 := HK.out.cell 0
  have e1 := HK.out.cell 1
  have e2 := HK.out.cell 2
  simp only [List.getElem?_cons_succ, List.getElem?_cons_zero] at d0 d1 e0 e1 e2
  obtain ⟨r1, k1⟩ := HX.out.facts 16 rfl
  go_wp2_with fail
  with_reducible refine (CK.out _ (HL.out.below HB.out)).mono ?_
  rintro e w3 ⟨sm, rfl, ho, hb⟩
  have HB := keepd (bCall HB.out hb)
  have HX := keepd (HX.out.call hb HX.out.lt)
  have HV := keepd (HV.out.call hb HV.out.lt)
  have HK := keepd (HK.out.call hb HK.out.lt)
  have HY := keepd (HY.out.call hb HY.out.lt)
  have O1 := keepd (O1.out.below hb)
  have O2 := keepd ho
  clear ho hb CK d0 d1 e0 e1 e2 r1 k1
  go_upto_region 3 with fail
  generalize hW : w3.alloc (.cells Z.cs.toArray 25) = W3
  obtain ⟨h1, hb, h3⟩ := one_new _ _ _ _ hW
  have HB := keepd (bCall HB.out hb)
  have HX := keepd (HX.out.call hb HX.out.lt)
  have HV := keepd (HV.out.call hb HV.out.lt)
  have HK := keepd (HK.out.call hb HK.out.lt)
  have HY := keepd (HY.out.call hb HY.out.lt)
  have O1 := keepd (O1.out.below hb)
  have O2 := keepd (O2.out.below hb)
  generalize w3.heap.size = bZ at *
  have HZ := keepd h1
  clear h1 hb h3 hW
  obtain ⟨r1, k1⟩ := HX.out.facts 16 rfl
  have HM : Hid (AM w X Y Z v c hm on p bY bZ sl sm [] [] W3) := ⟨HX.out, HV.out, HK.out, HY.out, HZ.out, O1.out.base (Nat.zero_le _), O2.out.base (Nat.zero_le _), HB.out⟩
  clear HX HV HK HY HZ O1 O2 HB
  go_wp2_with fail
  with_reducible refine (CC.out _).mono ?_
  rintro e w4 ⟨rfl, hb⟩
  have HM := keepd (HM.out.call hb)
  clear hb CC r1 k1
  have d1 := HM.out.v.cell 1
  simp only [List.getElem?_cons_succ, List.getElem?_cons_zero] at d1
  go_wp2_with fail
  with_reducible refine (CP.out _ ((LaidA.laid HL.out).below HM.out.b)).mono ?_
  rintro e w5 ⟨rfl, rfl⟩
  clear CP d1
  go_wp2_with fail
  go_loopw [15, 16] (fun vi _ wr => ∃ i : Nat, i ≤ 4 ∧ vi = .int .i64 i ∧ Hid (AM w X Y Z v c hm on p bY bZ sl sm [] [] wr)) (fun vi _ _ => 4 - (intOf vi).toNat)
  case atStart => exact ⟨0, by omega, rfl, HM⟩
  case round =>
    obtain ⟨i, hi, rfl, HM⟩ := hrel
    by_cases hlt : i < 4
    · have g1 : decide ((i : Int) < 4) = true := by simp; omega
      have x0 := (HM.out.x.cell i).trans (cs_us X i hlt)
      have x1 := (HM.out.x.cell (4 + i)).trans (cs_him X i hlt)
      have y0 := (HM.out.y.cell i).trans (cs_us Y i hlt)
      have y1 := (HM.out.y.cell (4 + i)).trans (cs_him Y i hlt)
      have b1 : (i : Int) < 4 := by omega
      have b2 : (0 : Int) ≤ i := by omega
      have W1 := keepd (way3 OG.out.1 i hlt)
      have W2 := keepd (way3 OA.out.1 i hlt)
      obtain ⟨hb, hhb⟩ : ∃ b, ofHim v = b := ⟨_, rfl⟩
      rw [hhb] at W1
      have HHB := keepd hhb
      clear hhb
      go_upto_region 9 with fail
      go_cut [16] (fun s16 wx => s16 = .bool hb ∧ wx = wr)
      case first =>
        have d0 := HM.out.v.cell 0
        simp only [List.getElem?_cons_zero] at d0
        have hq : ((v == 251) || (v == 252)) = hb := HHB.out
        obtain ⟨hv, hhv⟩ : ∃ b, (v == 251) = b := ⟨_, rfl⟩
        rw [hhv] at hq
        cases hv
        · rw [Bool.false_or] at hq
          go_wp2_with fail
          go_meet
          exact ⟨by first | rfl | (congr 1), rfl⟩
        · rw [Bool.true_or] at hq
          subst hq
          go_wp2_with fail
          go_meet
          exact ⟨rfl, rfl⟩
      case rest =>
      obtain ⟨rfl, rfl⟩ := hcut
      go_wp2_with fail
      go_cut [123] (fun s123 wx => s123 = .bool false ∧ Hid (AM w X Y Z v c hm on p bY bZ sl sm [] [] wx))
      case first =>
        rcases W1.out with ⟨q, q'⟩ | ⟨q, q', f1, f2, f3⟩ | ⟨q, q', f1, f2, f3⟩
        · clear W1 W2 OG OA
          go_quiet (fail)
          go_wp2_with fail
          go_meet
          exact ⟨rfl, HM.out.drewN _⟩
        · have f2 : (i : Int) = pl := by simpa using f2
          subst f1 f2 f3
          clear W1 W2 OG OA
          go_quiet (fail)
          go_wp2_with fail
          go_meet
          exact ⟨rfl, HM.out.drewN _⟩
        · have f2 : (i : Int) = pl := by simpa using f2
          subst f1 f2 f3
          clear W1 W2 OG OA
          go_quiet (fail)
          go_wp2_with fail
          go_meet
          exact ⟨rfl, HM.out.drewN _⟩
      case rest =>
      obtain ⟨rfl, HM⟩ := hcut
      clear x0 x1 y0 y1
      have x0 := (HM.out.x.cell i).trans (cs_us X i hlt)
      have x1 := (HM.out.x.cell (4 + i)).trans (cs_him X i hlt)
      have y0 := (HM.out.z.cell i).trans (cs_us Z i hlt)
      have y1 := (HM.out.z.cell (4 + i)).trans (cs_him Z i hlt)
      have e0 := HM.out.k.cell 0
      have e2 := HM.out.k.cell 2
      simp only [List.getElem?_cons_succ, List.getElem?_cons_zero] at e0 e2
      go_wp2_with fail
      go_cut [166] (fun s166 wx => s166 = .bool false ∧ Hid (AM w X Y Z v c hm on p bY bZ sl sm [] [] wx))
      case first =>
        clear W1
        rcases W2.out with ⟨q, q'⟩ | ⟨q, q', f1, f2, f3⟩ | ⟨q, q', f1, f2, f3⟩
        · clear W2 OG OA
          go_quiet (fail)
          go_wp2_with fail
          go_meet
          exact ⟨rfl, HM.out.drewN _⟩
        · have f2 : (i : Int) = p := by simpa using f2
          clear W2 OG OA f1
          subst f2 f3
          go_quiet (fail)
          go_wp2_with fail
          go_meet
          exact ⟨rfl, HM.out.drewN _⟩
        · have f2 : (i : Int) = p := by simpa using f2
          clear W2 OG OA f1
          subst f2 f3
          go_quiet (fail)
          go_wp2_with fail
          go_meet
          exact ⟨rfl, HM.out.drewN _⟩
      case rest =>
      obtain ⟨rfl, HM⟩ := hcut
      clear x0 x1 y0 y1 e0 e2 W1 W2
      go_wp2_with fail
      go_roundw
      case rel => exact ⟨i + 1, by omega, by go_num, HM⟩
      case measure => simp [intOf]; omega
    · have g1 : decide ((i : Int) < 4) = false := by simp; omega
      clear hlt hi
      have d1 := HM.out.v.cell 1
      simp only [List.getElem?_cons_succ, List.getElem?_cons_zero] at d1
      go_wp2_with fail
      go_cut [207] (fun s207 wx => s207 = .bool false ∧ Hid (AM w X Y Z v c hm on p bY bZ sl sm [] [] wx))
      case first =>
        have hl := HM.out.l.ans0
        have hl' := HM.out.m.ans0
        subst hl hl'
        clear OG OA
        go_quiet (fail)
        go_wp2_with fail
        go_meet
        exact ⟨rfl, HM.out.drewN _⟩
      case rest =>
      obtain ⟨rfl, HM⟩ := hcut
      clear d1
      have CY := keepd (checkO_any Y)
      have CZ := keepd (checkO_any Z)
      rw [OG.out.1.ok] at CY
      rw [OA.out.1.ok] at CZ
      simp only [if_true] at CY CZ
      have E1 := keepd OG.out.1.mu
      have E2 := keepd OA.out.1.mh
      clear OG OA
      obtain ⟨r2, k2⟩ := HM.out.y.facts 16 rfl
      go_wp2_with fail
      with_reducible refine (CY.out _).mono ?_
      rintro e w6 ⟨rfl, hb⟩
      have HM := keepd (HM.out.call hb)
      clear hb CY r2 k2
      obtain ⟨r2, k2⟩ := HM.out.z.facts 16 rfl
      go_wp2_with fail
      with_reducible refine (CZ.out _).mono ?_
      rintro e w7 ⟨rfl, hb⟩
      have HM := keepd (HM.out.call hb)
      clear hb CZ r2 k2
      have y8 := HM.out.y.cell 8
      have y9 := HM.out.y.cell 9
      have ya := HM.out.y.cell 10
      have yb := HM.out.y.cell 11
      have x8 := HM.out.x.cell 8
      have x9 := HM.out.x.cell 9
      have xa := HM.out.x.cell 10
      have xb := HM.out.x.cell 11
      have zc := HM.out.z.cell 12
      have zd := HM.out.z.cell 13
      have ze := HM.out.z.cell 14
      have zf := HM.out.z.cell 15
      have xc := HM.out.x.cell 12
      have xd := HM.out.x.cell 13
      have xe := HM.out.x.cell 14
      have xf := HM.out.x.cell 15
      simp only [O.cs, List.getElem?_cons_succ, List.getElem?_cons_zero, E1.out, E2.out] at y8 y9 ya yb x8 x9 xa xb zc zd ze zf xc xd xe xf
      have hs1 := same4_self X.mu
      have hs2 := same4_self X.mh
      go_wp2_with fail
      with_reducible refine (CA.out _ ((LaidA.laid HL.out).below HM.out.b)).mono ?_
      rintro e w8 ⟨rfl, hb⟩
      have HB := keepd (bCall HM.out.b hb)
      clear hb CA y8 y9 ya yb x8 x9 xa xb zc zd ze zf xc xd xe xf
      go_wp2_with fail
      go_ret
      exact ⟨rfl, HB.out⟩

end Go.Proofs.YtlgcfpdmklieiaaDoor
