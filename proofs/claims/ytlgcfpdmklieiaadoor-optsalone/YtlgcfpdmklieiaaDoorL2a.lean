/-
  The law OptsAlone, walked: of options that may not be.
-/
import Derived.Test.YtlgcfpdmklieiaaDoorV3
import Derived.Deep.WholeRow
namespace Go.Proofs.YtlgcfpdmklieiaaDoor
open Go.RowKit
set_option maxRecDepth 100000

attribute [local go_sem ↓] ex_ld25 ex_ld67 ex_ld73 ex_st25 ex_st67 ex_st73 ex_eq25 ex_ne25 ex_ix22
attribute [local go_sem] ptrB_at okPtr_at aggC_at agg16 agg11 agg12 isO_at toO_at idx0 idx1 idx2 idx3 okIdx_at isRow_new World.setRow_alloc_new

theorem alone_bad (X : O) (v c : Int) (hm on : Bool) (p : Int) (hh : okO X = false) (w : World) (hL : LaidA w) : Calls Tryd.prog 4 #[X.v, .agg #[.int .i64 v, .int .i64 c], .agg #[.bool hm, .bool on, .int .i64 p]] w fun e w' => e = .returned (.bool true) ∧ Below w.heap.size w w' := by
  have CG := keepd (gotO_any X v c)
  have CK := keepd (askO_any X hm p on)
  have CC := keepd (checkO_any X)
  have CA := keepd awake_any
  have z1 : gotF X v c = (X, [], 1) := by unfold gotF; rw [hh, Bool.false_and, if_pos rfl]
  have z2 : askF X hm p on = (X, [], 1) := by unfold askF; rw [hh, Bool.false_and, if_pos rfl]
  rw [z1] at CG
  rw [z2] at CK
  rw [hh] at CC
  simp only [Bool.false_eq_true, if_false] at CC
  have HL := keepd hL
  clear hL z1 z2 hh
  have hs := sameO_self X
  go_enter Tryd.func4, Tryd.ntmps4
  go_upto_region 1 with fail
  generalize hW : ((w.alloc (.cells X.cs.toArray 25)).alloc (.cells (List.toArray [.int .i64 v, .int .i64 c]) 27)).alloc (.cells (List.toArray [.bool hm, .bool on, .int .i64 p]) 29) = W
  obtain ⟨h1, h2, h2', h3, _⟩ := three_new _ _ _ _ _ _ _ _ hW
  clear hW
  have HX := keepd h1
  have HV := keepd h2
  have HK := keepd h2'
  have HB := keepd h3
  clear h1 h2 h2' h3
  have d0 := HV.out.cell 0
  have d1 := HV.out.cell 1
  have e0 := HK.out.cell 0
  have e1 := HK.out.cell 1
  have e2 := HK.out.cell 2
  simp only [List.getElem?_cons_succ, List.getElem?_cons_zero] at d0 d1 e0 e1 e2
  obtain ⟨r1, k1⟩ := HX.out.facts 16 rfl
  go_wp2_with fail
  with_reducible refine (CG.out _ ((LaidA.laid HL.out).below HB.out)).mono ?_
  rintro e w2 ⟨sl, rfl, ho, hb⟩
  have HB := keepd (bCall HB.out hb)
  have HX := keepd (HX.out.call hb HX.out.lt)
  have HV := keepd (HV.out.call hb HV.out.lt)
  have HK := keepd (HK.out.call hb HK.out.lt)
  have O1 := keepd ho
  clear ho hb CG d0 d1 e0 e1 e2 r1 k1
  go_upto_region 2 with fail
  generalize hW : w2.alloc (.cells X.cs.toArray 25) = W2
  obtain ⟨h1, hb, h3⟩ := one_new _ _ _ _ hW
  have HB := keepd (bCall HB.out hb)
  have HX := keepd (HX.out.call hb HX.out.lt)
  have HV := keepd (HV.out.call hb HV.out.lt)
  have HK := keepd (HK.out.call hb HK.out.lt)
  have O1 := keepd (O1.out.below hb)
  generalize w2.heap.size = bY at *
  have HY := keepd h1
  clear h1 hb h3 hW
  have d0 := HV.out.cell 0
  have d1 := HV.out.cell 1
  have e0 := HK.out.cell 0
  have e1 := HK.out.cell 1
  have e2 := HK.out.cell 2
  simp only [List.getElem?_cons_succ, List.getElem?_cons_zero] at d0 d1 e0 e1 e2
  obtain ⟨r1, k1⟩ := HX.out.facts 16 rfl
  go_wp2_with fail
  with_reducible refine (CK.out _ (HL.out.below HB.out)).mono ?_
  rintro e w3 ⟨sm, rfl, ho, hb⟩
  have HB := keepd (bCall HB.out hb)
  have HX := keepd (HX.out.call hb HX.out.lt)
  have HV := keepd (HV.out.call hb HV.out.lt)
  have HK := keepd (HK.out.call hb HK.out.lt)
  have HY := keepd (HY.out.call hb HY.out.lt)
  have O1 := keepd (O1.out.below hb)
  have O2 := keepd ho
  clear ho hb CK d0 d1 e0 e1 e2 r1 k1
  go_upto_region 3 with fail
  generalize hW : w3.alloc (.cells X.cs.toArray 25) = W3
  obtain ⟨h1, hb, h3⟩ := one_new _ _ _ _ hW
  have HB := keepd (bCall HB.out hb)
  have HX := keepd (HX.out.call hb HX.out.lt)
  have HV := keepd (HV.out.call hb HV.out.lt)
  have HK := keepd (HK.out.call hb HK.out.lt)
  have HY := keepd (HY.out.call hb HY.out.lt)
  have O1 := keepd (O1.out.below hb)
  have O2 := keepd (O2.out.below hb)
  generalize w3.heap.size = bZ at *
  have HZ := keepd h1
  clear h1 hb h3 hW
  obtain ⟨r1, k1⟩ := HX.out.facts 16 rfl
  go_wp2_with fail
  with_reducible refine (CC.out _).mono ?_
  rintro e w4 ⟨rfl, hb⟩
  have HB := keepd (bCall HB.out hb)
  have HX := keepd (HX.out.call hb HX.out.lt)
  have HV := keepd (HV.out.call hb HV.out.lt)
  have HK := keepd (HK.out.call hb HK.out.lt)
  have HY := keepd (HY.out.call hb HY.out.lt)
  have HZ := keepd (HZ.out.call hb HZ.out.lt)
  clear hb CC r1 k1
  obtain ⟨r1, k1⟩ := HX.out.facts 16 rfl
  obtain ⟨r2, k2⟩ := HY.out.facts 16 rfl
  obtain ⟨r3, k3⟩ := HZ.out.facts 16 rfl
  go_wp2_with fail
  with_reducible refine (CA.out _ ((LaidA.laid HL.out).below HB.out)).mono ?_
  rintro e w9 ⟨rfl, hb⟩
  have HB := keepd (bCall HB.out hb)
  clear hb CA
  go_wp2_with fail
  go_ret
  exact ⟨rfl, HB.out⟩

end Go.Proofs.YtlgcfpdmklieiaaDoor
