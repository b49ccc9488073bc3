/-
  The law OptsOthers, walked.
-/
import Derived.Test.YtlgcfpdmklieiaaDoorV2
import Derived.Deep.WholeRow
namespace Go.Proofs.YtlgcfpdmklieiaaDoor
open Go.RowKit
set_option maxRecDepth 100000

attribute [local go_sem ↓] ex_ld25 ex_ld67 ex_ld73 ex_st25 ex_st67 ex_st73 ex_eq25 ex_ne25 ex_ix22
attribute [local go_sem] ptrB_at okPtr_at aggC_at agg16 agg11 agg12 isO_at toO_at idx0 idx1 idx2 idx3 okIdx_at isRow_new World.setRow_alloc_new

theorem One.of {w : World} {b : Nat} {v c : Int} (h : SR 51 w b (itC v c)) : One w 0 (.slice (some ⟨b, 0, none⟩) 1 1) [(v, c)] := .inr ⟨b, v, c, rfl, rfl, Nat.zero_le _, h⟩

theorem One.new2 (w : World) (o : Obj) (v c : Int) : One ((w.alloc o).alloc (.cells (itC v c).toArray 51)) 0 (.slice (some ⟨w.heap.size + 1, 0, none⟩) 1 1) [(v, c)] := One.of (heap_alloc2_new w _ _)

theorem others_kept (X : O) (v c : Int) (hk : plK c = true) (w : World) (hL : Laid w) : Calls Tryd.prog 6 #[X.v, .agg #[.int .i64 v, .int .i64 c]] w fun e w' => e = .returned (.bool true) ∧ Below w.heap.size w w' := by
  have CP := keepd (place_any c)
  have CG := keepd (gotO_any X v c)
  have CA := keepd awake_any
  rw [hk] at CP
  generalize plI c = p at *
  obtain ⟨⟨Y, L, k⟩, hZ⟩ : ∃ Z, gotF X v c = Z := ⟨_, rfl⟩
  rw [hZ] at CG
  have HL := keepd hL
  clear hL hk hZ
  go_enter Tryd.func6, Tryd.ntmps6
  go_upto_region 1 with fail
  generalize hW : (w.alloc (.cells X.cs.toArray 25)).alloc (.cells (List.toArray [.int .i64 v, .int .i64 c]) 27) = W
  obtain ⟨h1, h2, h3, _⟩ := two_new _ _ _ _ _ _ hW
  clear hW
  have HX := keepd h1
  have HV := keepd h2
  have HB := keepd h3
  have d0 := h2.cell 0
  have d1 := h2.cell 1
  simp only [List.getElem?_cons_succ, List.getElem?_cons_zero] at d0 d1
  obtain ⟨r1, k1⟩ := h1.facts 16 rfl
  clear h1 h2 h3
  go_wp2_with fail
  with_reducible refine (CP.out _ (HL.out.below HB.out)).mono ?_
  rintro e w1 ⟨rfl, rfl⟩
  clear CP
  go_wp2_with fail
  with_reducible refine (CG.out _ (HL.out.below HB.out)).mono ?_
  rintro e w2 ⟨sl, rfl, ho, hb⟩
  have HB := keepd (bCall HB.out hb)
  have HX := keepd (HX.out.call hb HX.out.lt)
  have HV := keepd (HV.out.call hb HV.out.lt)
  have O1 := keepd ho
  clear ho hb CG d0 d1 r1 k1
  go_upto_region 3 with fail
  generalize hW : w2.alloc (.cells Y.cs.toArray 25) = W2
  obtain ⟨h1, h2, h3⟩ := one_new _ _ _ _ hW
  have HB := keepd (bCall HB.out h2)
  have HX := keepd (HX.out.call h2 HX.out.lt)
  have HV := keepd (HV.out.call h2 HV.out.lt)
  have O1 := keepd (O1.out.below h2)
  generalize w2.heap.size = bY at *
  have HY := keepd h1
  clear h1 h2 h3 hW
  have d0 := HV.out.cell 0
  have d1 := HV.out.cell 1
  simp only [List.getElem?_cons_succ, List.getElem?_cons_zero] at d0 d1
  obtain ⟨r1, k1⟩ := HX.out.facts 16 rfl
  obtain ⟨r2, k2⟩ := HY.out.facts 16 rfl
  go_wp2_with fail
  with_reducible refine (CA.out _ (HL.out.below HB.out)).mono ?_
  rintro e w3 ⟨rfl, hb⟩
  have HB := keepd (bCall HB.out hb)
  clear hb CA
  go_wp2_with fail
  go_ret
  exact ⟨rfl, HB.out⟩

theorem others_bad (X : O) (v c : Int) (hk : plK c = false) (hZ : gotF X v c = (X, [], 1)) (w : World) (hL : Laid w) : Calls Tryd.prog 6 #[X.v, .agg #[.int .i64 v, .int .i64 c]] w fun e w' => e = .returned (.bool true) ∧ Below w.heap.size w w' := by
  have CP := keepd (place_any c)
  have CG := keepd (gotO_any X v c)
  have CA := keepd awake_any
  rw [hk] at CP
  generalize plI c = p at *
  rw [hZ] at CG
  have HL := keepd hL
  clear hL hk hZ
  have hs := sameO_self X
  go_enter Tryd.func6, Tryd.ntmps6
  go_upto_region 1 with fail
  generalize hW : (w.alloc (.cells X.cs.toArray 25)).alloc (.cells (List.toArray [.int .i64 v, .int .i64 c]) 27) = W
  obtain ⟨h1, h2, h3, _⟩ := two_new _ _ _ _ _ _ hW
  clear hW
  have HX := keepd h1
  have HV := keepd h2
  have HB := keepd h3
  have d0 := h2.cell 0
  have d1 := h2.cell 1
  simp only [List.getElem?_cons_succ, List.getElem?_cons_zero] at d0 d1
  obtain ⟨r1, k1⟩ := h1.facts 16 rfl
  clear h1 h2 h3
  go_wp2_with fail
  with_reducible refine (CP.out _ (HL.out.below HB.out)).mono ?_
  rintro e w1 ⟨rfl, rfl⟩
  clear CP
  go_wp2_with fail
  with_reducible refine (CG.out _ (HL.out.below HB.out)).mono ?_
  rintro e w2 ⟨sl, rfl, ho, hb⟩
  have HB := keepd (bCall HB.out hb)
  have HX := keepd (HX.out.call hb HX.out.lt)
  have HV := keepd (HV.out.call hb HV.out.lt)
  have O1 := keepd ho
  clear ho hb CG d0 d1 r1 k1
  go_upto_region 3 with fail
  generalize hW : w2.alloc (.cells X.cs.toArray 25) = W2
  obtain ⟨h1, h2, h3⟩ := one_new _ _ _ _ hW
  have HB := keepd (bCall HB.out h2)
  have HX := keepd (HX.out.call h2 HX.out.lt)
  have HV := keepd (HV.out.call h2 HV.out.lt)
  have O1 := keepd (O1.out.below h2)
  generalize w2.heap.size = bY at *
  have HY := keepd h1
  clear h1 h2 h3 hW
  have d0 := HV.out.cell 0
  have d1 := HV.out.cell 1
  simp only [List.getElem?_cons_succ, List.getElem?_cons_zero] at d0 d1
  obtain ⟨r1, k1⟩ := HX.out.facts 16 rfl
  obtain ⟨r2, k2⟩ := HY.out.facts 16 rfl
  rcases O1.out with ⟨rfl, _⟩ | ⟨_, _, _, _, h, _⟩
  · go_wp2_with fail
    with_reducible refine (CA.out _ (HL.out.below HB.out)).mono ?_
    rintro e w3 ⟨rfl, hb⟩
    have HB := keepd (bCall HB.out hb)
    clear hb CA
    go_wp2_with fail
    go_ret
    exact ⟨rfl, HB.out⟩
  · cases h

theorem others_none (X : O) (v c : Int) (hk : plK c = false) (hZ : gotF X v c = (X, [], 0)) (g1 : (v == 253) = false) (g2 : (v == 251) = false ∨ (v == 251) = true ∧ (c != 6) = false) (w : World) (hL : Laid w) : Calls Tryd.prog 6 #[X.v, .agg #[.int .i64 v, .int .i64 c]] w fun e w' => e = .returned (.bool true) ∧ Below w.heap.size w w' := by
  have CP := keepd (place_any c)
  have CG := keepd (gotO_any X v c)
  have CA := keepd awake_any
  rw [hk] at CP
  generalize plI c = p at *
  rw [hZ] at CG
  have HL := keepd hL
  clear hL hk hZ
  have hs := sameO_self X
  go_enter Tryd.func6, Tryd.ntmps6
  go_upto_region 1 with fail
  generalize hW : (w.alloc (.cells X.cs.toArray 25)).alloc (.cells (List.toArray [.int .i64 v, .int .i64 c]) 27) = W
  obtain ⟨h1, h2, h3, _⟩ := two_new _ _ _ _ _ _ hW
  clear hW
  have HX := keepd h1
  have HV := keepd h2
  have HB := keepd h3
  have d0 := h2.cell 0
  have d1 := h2.cell 1
  simp only [List.getElem?_cons_succ, List.getElem?_cons_zero] at d0 d1
  obtain ⟨r1, k1⟩ := h1.facts 16 rfl
  clear h1 h2 h3
  go_wp2_with fail
  with_reducible refine (CP.out _ (HL.out.below HB.out)).mono ?_
  rintro e w1 ⟨rfl, rfl⟩
  clear CP
  go_wp2_with fail
  with_reducible refine (CG.out _ (HL.out.below HB.out)).mono ?_
  rintro e w2 ⟨sl, rfl, ho, hb⟩
  have HB := keepd (bCall HB.out hb)
  have HX := keepd (HX.out.call hb HX.out.lt)
  have HV := keepd (HV.out.call hb HV.out.lt)
  have O1 := keepd ho
  clear ho hb CG d0 d1 r1 k1
  go_upto_region 3 with fail
  generalize hW : w2.alloc (.cells X.cs.toArray 25) = W2
  obtain ⟨h1, h2, h3⟩ := one_new _ _ _ _ hW
  have HB := keepd (bCall HB.out h2)
  have HX := keepd (HX.out.call h2 HX.out.lt)
  have HV := keepd (HV.out.call h2 HV.out.lt)
  have O1 := keepd (O1.out.below h2)
  generalize w2.heap.size = bY at *
  have HY := keepd h1
  clear h1 h2 h3 hW
  have d0 := HV.out.cell 0
  have d1 := HV.out.cell 1
  simp only [List.getElem?_cons_succ, List.getElem?_cons_zero] at d0 d1
  obtain ⟨r1, k1⟩ := HX.out.facts 16 rfl
  obtain ⟨r2, k2⟩ := HY.out.facts 16 rfl
  rcases O1.out with ⟨rfl, _⟩ | ⟨_, _, _, _, h, _⟩
  · rcases g2 with g2 | ⟨g2, g3⟩
    all_goals
      go_wp2_with fail
      with_reducible refine (CA.out _ (HL.out.below HB.out)).mono ?_
      rintro e w3 ⟨rfl, hb⟩
      have HB := keepd (bCall HB.out hb)
      clear hb CA
      go_wp2_with fail
      go_ret
      exact ⟨rfl, HB.out⟩
  · cases h

theorem others_one (X : O) (v c u : Int) (hk : plK c = false) (hZ : gotF X v c = (X, [(u, c)], 0)) (hv : (v = 253 ∧ (c == 6) = true ∧ u = 251) ∨ (v = 253 ∧ (c == 6) = false ∧ u = 252) ∨ (v = 251 ∧ (c == 6) = false ∧ (c != 6) = true ∧ u = 254)) (w : World) (hL : Laid w) : Calls Tryd.prog 6 #[X.v, .agg #[.int .i64 v, .int .i64 c]] w fun e w' => e = .returned (.bool true) ∧ Below w.heap.size w w' := by
  have CR := keepd sameRow_any
  have CP := keepd (place_any c)
  have CG := keepd (gotO_any X v c)
  have CA := keepd awake_any
  rw [hk] at CP
  generalize plI c = p at *
  rw [hZ] at CG
  have HL := keepd hL
  clear hL hk hZ
  have hs := sameO_self X
  go_enter Tryd.func6, Tryd.ntmps6
  go_upto_region 1 with fail
  generalize hW : (w.alloc (.cells X.cs.toArray 25)).alloc (.cells (List.toArray [.int .i64 v, .int .i64 c]) 27) = W
  obtain ⟨h1, h2, h3, _⟩ := two_new _ _ _ _ _ _ hW
  clear hW
  have HX := keepd h1
  have HV := keepd h2
  have HB := keepd h3
  have d0 := h2.cell 0
  have d1 := h2.cell 1
  simp only [List.getElem?_cons_succ, List.getElem?_cons_zero] at d0 d1
  obtain ⟨r1, k1⟩ := h1.facts 16 rfl
  clear h1 h2 h3
  go_wp2_with fail
  with_reducible refine (CP.out _ (HL.out.below HB.out)).mono ?_
  rintro e w1 ⟨rfl, rfl⟩
  clear CP
  go_wp2_with fail
  with_reducible refine (CG.out _ (HL.out.below HB.out)).mono ?_
  rintro e w2 ⟨sl, rfl, ho, hb⟩
  have HB := keepd (bCall HB.out hb)
  have HX := keepd (HX.out.call hb HX.out.lt)
  have HV := keepd (HV.out.call hb HV.out.lt)
  have O1 := keepd ho
  clear ho hb CG d0 d1 r1 k1
  go_upto_region 3 with fail
  generalize hW : w2.alloc (.cells X.cs.toArray 25) = W2
  obtain ⟨h1, h2, h3⟩ := one_new _ _ _ _ hW
  have HB := keepd (bCall HB.out h2)
  have HX := keepd (HX.out.call h2 HX.out.lt)
  have HV := keepd (HV.out.call h2 HV.out.lt)
  have O1 := keepd (O1.out.below h2)
  generalize w2.heap.size = bY at *
  have HY := keepd h1
  clear h1 h2 h3 hW
  have d0 := HV.out.cell 0
  have d1 := HV.out.cell 1
  simp only [List.getElem?_cons_succ, List.getElem?_cons_zero] at d0 d1
  obtain ⟨r1, k1⟩ := HX.out.facts 16 rfl
  obtain ⟨r2, k2⟩ := HY.out.facts 16 rfl
  rcases O1.out with ⟨_, h⟩ | ⟨b, v', c', rfl, h, hge, h4⟩
  · cases h
  · cases h
    clear O1
    have HO := keepd h4
    clear h4 hge
    have hss : sameR [(u, c)] [(u, c)] = true := by simp [sameR]
    have lt := HV.out.lt
    have e0 := fun o => (((Below.refl W2.heap.size W2).alloc (Nat.le_refl _) o).cell (p := ⟨w.heap.size + 1, 0, none⟩) lt).trans d0
    have e1 := fun o => (((Below.refl W2.heap.size W2).alloc (Nat.le_refl _) o).cell (p := ⟨w.heap.size + 1, 1, none⟩) lt).trans d1
    clear lt
    rcases hv with ⟨rfl, g6, rfl⟩ | ⟨rfl, g6, rfl⟩ | ⟨rfl, g6, g7, rfl⟩
    · have hn := bAlloc (bAlloc (Below.refl W2.heap.size W2) (.cells (itC 251 c).toArray 51)) (.cells (itC 251 c).toArray 51)
      have On := keepd (One.new2 W2 (.cells (itC 251 c).toArray 51) 251 c)
      have O1 := keepd (One.of (HO.out.call hn HO.out.lt))
      have HB := keepd (bCall HB.out hn)
      clear hn
      go_wp2_with fail
      with_reducible refine (CR.out _ _ _ _ _ _ _ O1.out On.out).mono ?_
      rintro e w4 ⟨rfl, hb⟩
      rw [hss]
      have HB := keepd (bCall HB.out hb)
      clear hb hss On O1 HO d0 d1 e0 e1 r1 k1 r2 k2
      go_wp2_with fail
      with_reducible refine (CA.out _ (HL.out.below HB.out)).mono ?_
      rintro e w3 ⟨rfl, hb⟩
      have HB := keepd (bCall HB.out hb)
      clear hb CA
      go_wp2_with fail
      go_ret
      exact ⟨rfl, HB.out⟩
    · have hn := bAlloc (bAlloc (Below.refl W2.heap.size W2) (.cells (itC 252 c).toArray 51)) (.cells (itC 252 c).toArray 51)
      have On := keepd (One.new2 W2 (.cells (itC 252 c).toArray 51) 252 c)
      have O1 := keepd (One.of (HO.out.call hn HO.out.lt))
      have HB := keepd (bCall HB.out hn)
      clear hn
      go_wp2_with fail
      with_reducible refine (CR.out _ _ _ _ _ _ _ O1.out On.out).mono ?_
      rintro e w4 ⟨rfl, hb⟩
      rw [hss]
      have HB := keepd (bCall HB.out hb)
      clear hb hss On O1 HO d0 d1 e0 e1 r1 k1 r2 k2
      go_wp2_with fail
      with_reducible refine (CA.out _ (HL.out.below HB.out)).mono ?_
      rintro e w3 ⟨rfl, hb⟩
      have HB := keepd (bCall HB.out hb)
      clear hb CA
      go_wp2_with fail
      go_ret
      exact ⟨rfl, HB.out⟩
    · have hn := bAlloc (bAlloc (Below.refl W2.heap.size W2) (.cells (itC 254 c).toArray 51)) (.cells (itC 254 c).toArray 51)
      have On := keepd (One.new2 W2 (.cells (itC 254 c).toArray 51) 254 c)
      have O1 := keepd (One.of (HO.out.call hn HO.out.lt))
      have HB := keepd (bCall HB.out hn)
      clear hn
      go_wp2_with fail
      with_reducible refine (CR.out _ _ _ _ _ _ _ O1.out On.out).mono ?_
      rintro e w4 ⟨rfl, hb⟩
      rw [hss]
      have HB := keepd (bCall HB.out hb)
      clear hb hss On O1 HO d0 d1 e0 e1 r1 k1 r2 k2
      go_wp2_with fail
      with_reducible refine (CA.out _ (HL.out.below HB.out)).mono ?_
      rintro e w3 ⟨rfl, hb⟩
      have HB := keepd (bCall HB.out hb)
      clear hb CA
      go_wp2_with fail
      go_ret
      exact ⟨rfl, HB.out⟩


theorem others_law (X : O) (v c : Int) (w : World) (hL : Laid w) : Calls Tryd.prog 6 #[X.v, .agg #[.int .i64 v, .int .i64 c]] w fun e w' => e = .returned (.bool true) ∧ Below w.heap.size w w' := by
  cases hk : plK c
  · cases h : (okO X && (vOk v && cOk c))
    · exact others_bad X v c hk (by unfold gotF; rw [h, if_pos rfl]) w hL
    · have hZ : gotF X v c = (X, nkF v c, 0) := by unfold gotF; rw [h, hk, if_neg (by simp), if_pos rfl]
      by_cases h3 : v = 253
      · by_cases h6 : c = 6
        · exact others_one X v c 251 hk (by rw [hZ]; simp [nkF, h3, h6]) (.inl ⟨h3, by simp [h6], rfl⟩) w hL
        · exact others_one X v c 252 hk (by rw [hZ]; simp [nkF, h3, h6]) (.inr (.inl ⟨h3, by simp [h6], rfl⟩)) w hL
      · by_cases h1 : v = 251
        · by_cases h6 : c = 6
          · exact others_none X v c hk (by rw [hZ]; simp [nkF, h1, h6]) (by simp [h3]) (.inr ⟨by simp [h1], by simp [h6]⟩) w hL
          · exact others_one X v c 254 hk (by rw [hZ]; simp [nkF, h1, h6]) (.inr (.inr ⟨h1, by simp [h6], by simp [h6], rfl⟩)) w hL
        · exact others_none X v c hk (by rw [hZ]; simp [nkF, h1, h3]) (by simp [h3]) (.inl (by simp [h1])) w hL
  · exact others_kept X v c hk w hL

end Go.Proofs.YtlgcfpdmklieiaaDoor
