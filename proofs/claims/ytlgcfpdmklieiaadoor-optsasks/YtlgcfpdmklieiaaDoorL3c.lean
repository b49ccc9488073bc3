/-
  The law OptsAsks, walked: what was asked for is wanted, and whatever comes.
-/
import Derived.Test.YtlgcfpdmklieiaaDoorL3a
import Derived.Deep.WholeRow
namespace Go.Proofs.YtlgcfpdmklieiaaDoor
open Go.RowKit
set_option maxRecDepth 100000

attribute [local go_sem ↓] ex_ld25 ex_ld67 ex_ld73 ex_st25 ex_st67 ex_st73 ex_eq25 ex_ne25 ex_ix22
attribute [local go_sem] ptrB_at okPtr_at aggC_at agg16 agg11 agg12 isO_at toO_at idx0 idx1 idx2 idx3 okIdx_at isRow_new World.setRow_alloc_new

set_option maxHeartbeats 8000000 in
theorem asks_go_t (X : O) (on : Bool) (p : Int) (i : Nat) (hi : i < 4) (h3 : p % 4 = (i : Int)) (A : Option Addr) (l : List (Int × Int)) (n cp : Nat) (hn : n = l.length) (hh : okO X = true) (hmm : (on && !X.mh.at i) = false) (Y : O) (M : List (Int × Int)) (k : Int) (z2 : askF X true i on = (Y, M, k)) (hy : okO Y = true) (hw : wF (Y.him.at i) = on) (w : World) (hL : LaidA w) (hr : RdV w A l cp) : Calls Tryd.prog 7 #[X.v, .agg #[.bool true, .bool on, .int .i64 p], .slice A n cp] w fun e w' => e = .returned (.bool true) ∧ Below w.heap.size w w' := by
  have CW := keepd (wanted_any (Y.him.at i))
  rw [hw] at CW
  have HR := keepd hr
  have HN := keepd hn
  have c1 := hr.1
  have c2 := hr.2.1
  unfold maxLen at c2
  rw [← hn] at c1
  have HY := keepd hy
  clear hr hw hn hy
  have CC := keepd (checkO_any X)
  have CA := keepd awake_any
  rw [hh] at CC
  simp only [if_true] at CC
  have e3 : bits .and .i64 p 3 = (i : Int) := by rw [i64_and3]; exact h3
  have CK := keepd (askO_any X true i on)
  rw [z2] at CK
  have HL := keepd hL
  clear hL hh h3 z2
  go_enter Tryd.func7, Tryd.ntmps7
  go_upto_region 1 with fail
  generalize hW : (w.alloc (.cells X.cs.toArray 25)).alloc (.cells (List.toArray [.bool true, .bool on, .int .i64 p]) 29) = W
  obtain ⟨h1, h2, h3, _⟩ := two_new _ _ _ _ _ _ hW
  clear hW
  have HX := keepd h1
  have HK := keepd h2
  have HB := keepd h3
  obtain ⟨r1, k1⟩ := h1.facts 16 rfl
  clear h1 h2 h3
  go_wp2_with fail
  with_reducible refine (CC.out _).mono ?_
  rintro e w1 ⟨rfl, hb⟩
  have HB := keepd (bCall HB.out hb)
  have HX := keepd (HX.out.call hb HX.out.lt)
  have HK := keepd (HK.out.call hb HK.out.lt)
  clear hb CC r1 k1
  have d0 := HK.out.cell 0
  have d1 := HK.out.cell 1
  have d2 := HK.out.cell 2
  simp only [List.getElem?_cons_succ, List.getElem?_cons_zero] at d0 d1 d2
  obtain ⟨r1, k1⟩ := HX.out.facts 16 rfl
  go_wp2_with fail
  with_reducible refine (CK.out _ (HL.out.below HB.out)).mono ?_
  rintro e w2 ⟨sm, rfl, ho, hb⟩
  have HB := keepd (bCall HB.out hb)
  have HX := keepd (HX.out.call hb HX.out.lt)
  have HK := keepd (HK.out.call hb HK.out.lt)
  have O1 := keepd ho
  clear ho hb CK d0 d1 d2 r1 k1
  go_upto_region 5 with fail
  generalize hW : w2.alloc (.cells Y.cs.toArray 25) = W2
  obtain ⟨h1, hb, h3⟩ := one_new _ _ _ _ hW
  have M0 : Hid (KM w X Y true on p w2.heap.size W2) := ⟨HX.out.call hb HX.out.lt, HK.out.call hb HK.out.lt, h1, by have := HK.out.lt; omega, bCall HB.out hb⟩
  generalize w2.heap.size = bY at *
  clear h1 hb h3 hW HX HK HB
  have x8 := (M0.out.x.cell (8 + i)).trans (cs_mu X i hi)
  have xc := (M0.out.x.cell (12 + i)).trans (cs_mh X i hi)
  have y0 := (M0.out.y.cell i).trans (cs_us' Y i hi)
  have y4 := (M0.out.y.cell (4 + i)).trans (cs_him' Y i hi)
  have d0 := M0.out.k.cell 0
  have d1 := M0.out.k.cell 1
  simp only [List.getElem?_cons_succ, List.getElem?_cons_zero] at d0 d1
  have b1 : (i : Int) < 4 := by omega
  have b2 : (0 : Int) ≤ i := by omega
  go_quiet (fail)
  have M0 := keepd (M0.out.drewN nq)
  clear x8 xc y0 y4 d0 d1
  generalize W2.drewN nq = W3 at *
  have x8 := (M0.out.x.cell (8 + i)).trans (cs_mu X i hi)
  have xc := (M0.out.x.cell (12 + i)).trans (cs_mh X i hi)
  have y0 := (M0.out.y.cell i).trans (cs_us' Y i hi)
  have y4 := (M0.out.y.cell (4 + i)).trans (cs_him' Y i hi)
  have d0 := M0.out.k.cell 0
  have d1 := M0.out.k.cell 1
  simp only [List.getElem?_cons_succ, List.getElem?_cons_zero] at d0 d1
  go_wp2_with fail
  go_quiet (fail)
  have M0 := keepd (M0.out.drewN nq)
  clear x8 xc y0 y4 d0 d1
  generalize W3.drewN nq = W4 at *
  have d0 := M0.out.k.cell 0
  have d1 := M0.out.k.cell 1
  simp only [List.getElem?_cons_succ, List.getElem?_cons_zero] at d0 d1
  clear O1
  generalize X.mh.at i = mm at *
  generalize Y.him.at i = q at *
  go_upto_region 8 with fail
  generalize W4 = W5 at *
  go_cut [59] (fun s59 wx => s59 = .bool false ∧ wx = W5)
  case first =>
    cases on
    · go_wp2_with fail
      go_meet
      exact ⟨rfl, rfl⟩
    · cases mm
      · cases hmm
      · go_wp2_with fail
        go_meet
        exact ⟨rfl, rfl⟩
  case rest =>
  obtain ⟨rfl, rfl⟩ := hcut
  clear hmm
  have g0 : (on != on) = false := by simp
  go_wp2_with fail
  go_quiet ((go_at_call 21; exact Calls.quiet_of_same (CW.out _ (HL.out.below (bDrewN M0.out.b _)))))
  have M0 := keepd (M0.out.drewN nq)
  clear d0 d1 CW b1 b2 e3
  generalize World.drewN _ nq = W6 at *
  go_wp2_with fail
  go_loopw [13, 14, 15, 16] (fun vi _ _ _ wr => ∃ (j : Nat) (Z : O), j ≤ n ∧ j ≤ 40 ∧ vi = .int .i64 j ∧ Hid (okO Z = true) ∧ Hid (KM w X Z true on p bY wr)) (fun vi _ _ _ _ => 40 - (intOf vi).toNat)
  case atStart => exact ⟨0, Y, by omega, by omega, rfl, HY, M0⟩
  case round =>
    obtain ⟨j, Z, hj, hj4, rfl, HZ, M1⟩ := hrel
    by_cases hlt : j < n ∧ j < 40
    · obtain ⟨h1, h2⟩ := hlt
      have g1 : decide ((j : Int) < (n : Int)) = true := by simp; omega
      have g2 : decide ((j : Int) < 40) = true := by simp; omega
      have hjl : j < l.length := by rw [← HN.out]; exact h1
      obtain ⟨b, off, hA, hbl, hce⟩ := HR.out.2.2 (by rintro rfl; simp at hjl)
      subst hA
      obtain ⟨e0, e1⟩ := hce j _ (List.getElem?_eq_getElem hjl)
      generalize l[j] = vc at *
      obtain ⟨v, c⟩ := vc
      simp only [] at e0 e1
      have E0 := keepd e0
      have E1 := keepd e1
      clear hce e0 e1
      have CG := keepd (gotO_any Z v c)
      have oG := (got_only Z v c HZ.out).1.ok
      obtain ⟨⟨Z', L, k'⟩, z1⟩ : ∃ z, gotF Z v c = z := ⟨_, rfl⟩
      rw [z1] at CG oG
      have OG := keepd oG
      clear oG z1
      go_wp2_with fail
      go_cut [14, 15, 16] (fun s14 _ _ wx => ∃ bN, s14 = .pointer (some ⟨bN, 0, none⟩) ∧ Hid (SR 25 wx bN Z'.cs) ∧ Hid (KM w X Z true on p bY wx))
      case first =>
        have KA := M1.out.drew
        refine wp_region_held_drew (S := (fun W => rowOf W bY = Z.cs.toArray ∧ isRow W 25 bY 16 = true ∧ W.cell? ⟨b, off + j * 2, none⟩ = some (.int .i64 v) ∧ W.cell? ⟨b, off + j * 2 + 1, none⟩ = some (.int .i64 c) ∧ KM w X Z true on p bY W)) (by kernel_rfl) (KM.s5 KA hbl E0.out E1.out) (fun hHeld => ?_)
        refine wpAnyH_take (i := 0) (oi := { dst := some 91, op := Op.load 25 (Operand.tmp 8), type := 25, pos := "law.go:188", after := #[], guard := none }) (v := (.agg Z.cs.toArray)) rfl (by kernel_rfl) (by kernel_rfl) (by kernel_rfl) (fun _ _ _ h => h) (Or.inl ⟨by rfl, fun W hW => ?_⟩) hHeld ?_
        · obtain ⟨s0, s1, s2, s3, _⟩ := hW
          go_simp
        simp only [Act.put, List.setIfInBounds_toArray, List.set_cons_zero, List.set_cons_succ]
        refine wpAnyH_take (i := 1) (oi := { dst := some 92, op := Op.move (Operand.tmp 2), type := 62, pos := "law.go:188", after := #[], guard := none }) (v := (.slice (some ⟨b, off, none⟩) n cp)) rfl (by kernel_rfl) (by kernel_rfl) (by kernel_rfl) (fun _ _ _ h => h) (Or.inl ⟨by rfl, fun W hW => ?_⟩) hHeld ?_
        · obtain ⟨s0, s1, s2, s3, _⟩ := hW
          go_simp
        simp only [Act.put, List.setIfInBounds_toArray, List.set_cons_zero, List.set_cons_succ]
        refine wpAnyH_take (i := 2) (oi := { dst := some 93, op := Op.move (Operand.tmp 13), type := 3, pos := "law.go:188", after := #[], guard := none }) (v := (.int .i64 j)) rfl (by kernel_rfl) (by kernel_rfl) (by kernel_rfl) (fun _ _ _ h => h) (Or.inl ⟨by rfl, fun W hW => ?_⟩) hHeld ?_
        · obtain ⟨s0, s1, s2, s3, _⟩ := hW
          go_simp
        simp only [Act.put, List.setIfInBounds_toArray, List.set_cons_zero, List.set_cons_succ]
        refine wpAnyH_take (i := 3) (oi := { dst := some 94, op := Op.indexAddr 62 (Operand.tmp 92) (Operand.tmp 93), type := 0, pos := "law.go:188", after := #[{ on := 1, ground := Ground.data }, { on := 2, ground := Ground.data }], guard := none }) (v := (.pointer (some ⟨b, off + j * 2, none⟩))) rfl (by kernel_rfl) (by kernel_rfl) (by kernel_rfl) (fun _ _ _ h => h) (Or.inl ⟨by rfl, fun W hW => ?_⟩) hHeld ?_
        · obtain ⟨s0, s1, s2, s3, _⟩ := hW
          go_simp
        simp only [Act.put, List.setIfInBounds_toArray, List.set_cons_zero, List.set_cons_succ]
        refine wpAnyH_take (i := 4) (oi := { dst := some 95, op := Op.fieldAddr 27 (Operand.tmp 94) 0, type := 0, pos := "law.go:188", after := #[{ on := 3, ground := Ground.data }], guard := none }) (v := (.pointer (some ⟨b, off + j * 2, none⟩))) rfl (by kernel_rfl) (by kernel_rfl) (by kernel_rfl) (fun _ _ _ h => h) (Or.inl ⟨by rfl, fun W hW => ?_⟩) hHeld ?_
        · obtain ⟨s0, s1, s2, s3, _⟩ := hW
          go_simp
        simp only [Act.put, List.setIfInBounds_toArray, List.set_cons_zero, List.set_cons_succ]
        refine wpAnyH_take (i := 5) (oi := { dst := some 96, op := Op.load 3 (Operand.tmp 95), type := 3, pos := "law.go:188", after := #[{ on := 4, ground := Ground.data }], guard := none }) (v := (.int .i64 v)) rfl (by kernel_rfl) (by kernel_rfl) (by kernel_rfl) (fun _ _ _ h => h) (Or.inl ⟨by rfl, fun W hW => ?_⟩) hHeld ?_
        · obtain ⟨s0, s1, s2, s3, _⟩ := hW
          go_simp
        simp only [Act.put, List.setIfInBounds_toArray, List.set_cons_zero, List.set_cons_succ]
        refine wpAnyH_take (i := 6) (oi := { dst := some 97, op := Op.move (Operand.tmp 2), type := 62, pos := "law.go:188", after := #[], guard := none }) (v := (.slice (some ⟨b, off, none⟩) n cp)) rfl (by kernel_rfl) (by kernel_rfl) (by kernel_rfl) (fun _ _ _ h => h) (Or.inl ⟨by rfl, fun W hW => ?_⟩) hHeld ?_
        · obtain ⟨s0, s1, s2, s3, _⟩ := hW
          go_simp
        simp only [Act.put, List.setIfInBounds_toArray, List.set_cons_zero, List.set_cons_succ]
        refine wpAnyH_take (i := 7) (oi := { dst := some 98, op := Op.move (Operand.tmp 13), type := 3, pos := "law.go:188", after := #[], guard := none }) (v := (.int .i64 j)) rfl (by kernel_rfl) (by kernel_rfl) (by kernel_rfl) (fun _ _ _ h => h) (Or.inl ⟨by rfl, fun W hW => ?_⟩) hHeld ?_
        · obtain ⟨s0, s1, s2, s3, _⟩ := hW
          go_simp
        simp only [Act.put, List.setIfInBounds_toArray, List.set_cons_zero, List.set_cons_succ]
        refine wpAnyH_take (i := 8) (oi := { dst := some 99, op := Op.indexAddr 62 (Operand.tmp 97) (Operand.tmp 98), type := 0, pos := "law.go:188", after := #[{ on := 6, ground := Ground.data }, { on := 7, ground := Ground.data }], guard := none }) (v := (.pointer (some ⟨b, off + j * 2, none⟩))) rfl (by kernel_rfl) (by kernel_rfl) (by kernel_rfl) (fun _ _ _ h => h) (Or.inl ⟨by rfl, fun W hW => ?_⟩) hHeld ?_
        · obtain ⟨s0, s1, s2, s3, _⟩ := hW
          go_simp
        simp only [Act.put, List.setIfInBounds_toArray, List.set_cons_zero, List.set_cons_succ]
        refine wpAnyH_take (i := 9) (oi := { dst := some 100, op := Op.fieldAddr 27 (Operand.tmp 99) 1, type := 0, pos := "law.go:188", after := #[{ on := 8, ground := Ground.data }], guard := none }) (v := (.pointer (some ⟨b, off + j * 2 + 1, none⟩))) rfl (by kernel_rfl) (by kernel_rfl) (by kernel_rfl) (fun _ _ _ h => h) (Or.inl ⟨by rfl, fun W hW => ?_⟩) hHeld ?_
        · obtain ⟨s0, s1, s2, s3, _⟩ := hW
          go_simp
        simp only [Act.put, List.setIfInBounds_toArray, List.set_cons_zero, List.set_cons_succ]
        refine wpAnyH_take (i := 10) (oi := { dst := some 101, op := Op.load 3 (Operand.tmp 100), type := 3, pos := "law.go:188", after := #[{ on := 9, ground := Ground.data }], guard := none }) (v := (.int .i64 c)) rfl (by kernel_rfl) (by kernel_rfl) (by kernel_rfl) (fun _ _ _ h => h) (Or.inl ⟨by rfl, fun W hW => ?_⟩) hHeld ?_
        · obtain ⟨s0, s1, s2, s3, _⟩ := hW
          go_simp
        simp only [Act.put, List.setIfInBounds_toArray, List.set_cons_zero, List.set_cons_succ]
        refine wpAnyH_ready (rs := [11, 16]) (by kernel_rfl) (by simp) ?_
        refine AllReadyH.cons (o := { dst := some 102, op := Op.call { callee := Callee.value (Operand.func 14), args := #[Operand.tmp 91, Operand.tmp 96, Operand.tmp 101], argTypes := #[25, 3, 3] }, type := 39, pos := "law.go:188", after := #[{ on := 0, ground := Ground.data }, { on := 5, ground := Ground.data }, { on := 10, ground := Ground.data }], guard := none }) rfl (fun K hK => ?_) (AllReadyH.cons (o := { dst := some 14, op := Op.alloc 25, type := 0, pos := "law.go:188", after := #[], guard := none }) rfl (fun K hK => ?_) AllReadyH.nil)
        · skip
          go_simp
          with_reducible refine (CG.out _ ((LaidA.laid HL.out).below KA.b)).mono ?_
          rintro e w7 ⟨sl, rfl, _, hb⟩
          have K7 := KA.call hb
          clear hb
          go_wp2_with fail
          refine hK.out _ _ (KM.s5 K7 hbl E0.out E1.out) (fun hHeld2 => ?_)
          clear hK K hHeld
          have hHeld := hHeld2
          clear hHeld2
          try simp only [Act.put, List.setIfInBounds_toArray, List.set_cons_zero, List.set_cons_succ]
          refine wpAnyH_take (i := 12) (oi := { dst := some 90, op := Op.move (Operand.tmp 102), type := 39, pos := "law.go:188", after := #[{ on := 11, ground := Ground.data }], guard := none }) (v := (.tuple #[Z'.v, sl, .int .i64 k'])) rfl (by kernel_rfl) (by kernel_rfl) (by kernel_rfl) (fun _ _ _ h => h) (Or.inl ⟨by rfl, fun W hW => ?_⟩) hHeld ?_
          · obtain ⟨s0, s1, s2, s3, _⟩ := hW
            go_simp
          simp only [Act.put, List.setIfInBounds_toArray, List.set_cons_zero, List.set_cons_succ]
          refine wpAnyH_take (i := 13) (oi := { dst := some 103, op := Op.extract (Operand.tmp 90) 0, type := 25, pos := "law.go:188", after := #[{ on := 12, ground := Ground.data }], guard := none }) (v := Z'.v) rfl (by kernel_rfl) (by kernel_rfl) (by kernel_rfl) (fun _ _ _ h => h) (Or.inl ⟨by rfl, fun W hW => ?_⟩) hHeld ?_
          · obtain ⟨s0, s1, s2, s3, _⟩ := hW
            go_simp
          simp only [Act.put, List.setIfInBounds_toArray, List.set_cons_zero, List.set_cons_succ]
          refine wpAnyH_take (i := 14) (oi := { dst := some 104, op := Op.extract (Operand.tmp 90) 1, type := 38, pos := "law.go:188", after := #[{ on := 12, ground := Ground.data }, { on := 17, ground := Ground.gcOnly Departure.lateStores }], guard := none }) (v := sl) rfl (by kernel_rfl) (by kernel_rfl) (by kernel_rfl) (fun _ _ _ h => h) (Or.inl ⟨by rfl, fun W hW => ?_⟩) hHeld ?_
          · obtain ⟨s0, s1, s2, s3, _⟩ := hW
            go_simp
          simp only [Act.put, List.setIfInBounds_toArray, List.set_cons_zero, List.set_cons_succ]
          refine wpAnyH_take (i := 15) (oi := { dst := some 105, op := Op.extract (Operand.tmp 90) 2, type := 33, pos := "law.go:188", after := #[{ on := 12, ground := Ground.data }, { on := 18, ground := Ground.gcOnly Departure.lateStores }], guard := none }) (v := (.int .i64 k')) rfl (by kernel_rfl) (by kernel_rfl) (by kernel_rfl) (fun _ _ _ h => h) (Or.inl ⟨by rfl, fun W hW => ?_⟩) hHeld ?_
          · obtain ⟨s0, s1, s2, s3, _⟩ := hW
            go_simp
          simp only [Act.put, List.setIfInBounds_toArray, List.set_cons_zero, List.set_cons_succ]
          refine wpAnyH_ready (rs := [16]) (by kernel_rfl) (by simp) ?_
          refine AllReadyH.cons (o := { dst := some 14, op := Op.alloc 25, type := 0, pos := "law.go:188", after := #[], guard := none }) rfl (fun K hK => ?_) AllReadyH.nil
          go_simp
          have K8 := K7.call (bAlloc (Below.refl _ _) (.cells Z25.toArray 25))
          refine hK.out _ _ (KM.s5 K8 hbl E0.out E1.out) (fun hHeld2 => ?_)
          clear hK K hHeld
          have hHeld := hHeld2
          clear hHeld2
          try simp only [Act.put, List.setIfInBounds_toArray, List.set_cons_zero, List.set_cons_succ]
          refine wpAnyH_ready (rs := [17]) (by kernel_rfl) (by simp) ?_
          refine AllReadyH.cons (o := { dst := none, op := Op.store 25 (Operand.tmp 14) (Operand.tmp 103), type := 0, pos := "law.go:188", after := #[{ on := 16, ground := Ground.data }, { on := 13, ground := Ground.data }, { on := 11, ground := Ground.chain }, { on := 0, ground := Ground.phase }, { on := 1, ground := Ground.phase }, { on := 2, ground := Ground.phase }, { on := 3, ground := Ground.phase }, { on := 4, ground := Ground.phase }, { on := 5, ground := Ground.phase }, { on := 6, ground := Ground.phase }, { on := 7, ground := Ground.phase }, { on := 8, ground := Ground.phase }, { on := 9, ground := Ground.phase }, { on := 10, ground := Ground.phase }, { on := 11, ground := Ground.phase }, { on := 12, ground := Ground.phase }, { on := 13, ground := Ground.phase }, { on := 14, ground := Ground.textOnly Departure.lateStores }, { on := 15, ground := Ground.textOnly Departure.lateStores }, { on := 16, ground := Ground.phase }], guard := none }) rfl (fun K hK => ?_) AllReadyH.nil
          go_simp
          have K9 := K7.call (bAlloc (Below.refl _ _) (.cells Z'.cs.toArray 25))
          have R9 : SR 25 (w7.alloc (.cells Z'.cs.toArray 25)) w7.heap.size Z'.cs := heap_alloc_new w7 _
          refine hK.out _ _ (KM.s5 K9 hbl E0.out E1.out) (fun hHeld2 => ?_)
          clear hK K hHeld
          have hHeld := hHeld2
          clear hHeld2
          try simp only [Act.put, List.setIfInBounds_toArray, List.set_cons_zero, List.set_cons_succ]
          refine wpAnyH_take (i := 18) (oi := { dst := some 15, op := Op.assign (Operand.tmp 104), type := 38, pos := "law.go:188", after := #[{ on := 14, ground := Ground.data }, { on := 17, ground := Ground.chain }, { on := 0, ground := Ground.phase }, { on := 1, ground := Ground.phase }, { on := 2, ground := Ground.phase }, { on := 3, ground := Ground.phase }, { on := 4, ground := Ground.phase }, { on := 5, ground := Ground.phase }, { on := 6, ground := Ground.phase }, { on := 7, ground := Ground.phase }, { on := 8, ground := Ground.phase }, { on := 9, ground := Ground.phase }, { on := 10, ground := Ground.phase }, { on := 11, ground := Ground.phase }, { on := 12, ground := Ground.phase }, { on := 13, ground := Ground.phase }, { on := 14, ground := Ground.phase }, { on := 15, ground := Ground.textOnly Departure.lateStores }, { on := 16, ground := Ground.phase }, { on := 17, ground := Ground.phase }], guard := none }) (v := sl) rfl (by kernel_rfl) (by kernel_rfl) (by kernel_rfl) (fun _ _ _ h => h) (Or.inl ⟨by rfl, fun W hW => ?_⟩) hHeld ?_
          · obtain ⟨s0, s1, s2, s3, _⟩ := hW
            go_simp
          simp only [Act.put, List.setIfInBounds_toArray, List.set_cons_zero, List.set_cons_succ]
          refine wpAnyH_take (i := 19) (oi := { dst := some 16, op := Op.assign (Operand.tmp 105), type := 33, pos := "law.go:188", after := #[{ on := 15, ground := Ground.data }, { on := 18, ground := Ground.chain }, { on := 0, ground := Ground.phase }, { on := 1, ground := Ground.phase }, { on := 2, ground := Ground.phase }, { on := 3, ground := Ground.phase }, { on := 4, ground := Ground.phase }, { on := 5, ground := Ground.phase }, { on := 6, ground := Ground.phase }, { on := 7, ground := Ground.phase }, { on := 8, ground := Ground.phase }, { on := 9, ground := Ground.phase }, { on := 10, ground := Ground.phase }, { on := 11, ground := Ground.phase }, { on := 12, ground := Ground.phase }, { on := 13, ground := Ground.phase }, { on := 14, ground := Ground.phase }, { on := 15, ground := Ground.phase }, { on := 16, ground := Ground.phase }, { on := 17, ground := Ground.phase }, { on := 18, ground := Ground.phase }], guard := none }) (v := (.int .i64 k')) rfl (by kernel_rfl) (by kernel_rfl) (by kernel_rfl) (fun _ _ _ h => h) (Or.inl ⟨by rfl, fun W hW => ?_⟩) hHeld ?_
          · obtain ⟨s0, s1, s2, s3, _⟩ := hW
            go_simp
          simp only [Act.put, List.setIfInBounds_toArray, List.set_cons_zero, List.set_cons_succ]
          refine wpAnyH_done (by kernel_rfl) ?_ _
          have K9 := keepd K9
          have R9 := keepd R9
          clear KA K7 K8 hHeld
          go_wp2_with fail
          go_meet
          exact ⟨_, rfl, R9, K9⟩
        · skip
          go_simp
          have KB : KM w X Z true on p bY (wr.alloc (.cells Z25.toArray 25)).drew := KA.call (bAlloc (Below.refl _ _) (.cells Z25.toArray 25))
          have RB : SR 25 (wr.alloc (.cells Z25.toArray 25)).drew wr.heap.size Z25 := heap_alloc_new wr _
          have hlt2 : bY < wr.heap.size := KA.y.lt
          refine hK.out _ _ (KM.s5 KB hbl E0.out E1.out) (fun hHeld2 => ?_)
          clear hK K hHeld
          have hHeld := hHeld2
          clear hHeld2
          try simp only [Act.put, List.setIfInBounds_toArray, List.set_cons_zero, List.set_cons_succ]
          refine wpAnyH_ready (rs := [11]) (by kernel_rfl) (by simp) ?_
          refine AllReadyH.cons (o := { dst := some 102, op := Op.call { callee := Callee.value (Operand.func 14), args := #[Operand.tmp 91, Operand.tmp 96, Operand.tmp 101], argTypes := #[25, 3, 3] }, type := 39, pos := "law.go:188", after := #[{ on := 0, ground := Ground.data }, { on := 5, ground := Ground.data }, { on := 10, ground := Ground.data }], guard := none }) rfl (fun K hK => ?_) AllReadyH.nil
          go_simp
          with_reducible refine (CG.out _ ((LaidA.laid HL.out).below KB.b)).mono ?_
          rintro e w7 ⟨sl, rfl, _, hb⟩
          have K7 := KB.call hb
          have RB := RB.call hb RB.lt
          clear hb
          go_wp2_with fail
          refine hK.out _ _ (KM.s5 K7 hbl E0.out E1.out) (fun hHeld2 => ?_)
          clear hK K hHeld
          have hHeld := hHeld2
          clear hHeld2
          try simp only [Act.put, List.setIfInBounds_toArray, List.set_cons_zero, List.set_cons_succ]
          refine wpAnyH_take (i := 12) (oi := { dst := some 90, op := Op.move (Operand.tmp 102), type := 39, pos := "law.go:188", after := #[{ on := 11, ground := Ground.data }], guard := none }) (v := (.tuple #[Z'.v, sl, .int .i64 k'])) rfl (by kernel_rfl) (by kernel_rfl) (by kernel_rfl) (fun _ _ _ h => h) (Or.inl ⟨by rfl, fun W hW => ?_⟩) hHeld ?_
          · obtain ⟨s0, s1, s2, s3, _⟩ := hW
            go_simp
          simp only [Act.put, List.setIfInBounds_toArray, List.set_cons_zero, List.set_cons_succ]
          refine wpAnyH_take (i := 13) (oi := { dst := some 103, op := Op.extract (Operand.tmp 90) 0, type := 25, pos := "law.go:188", after := #[{ on := 12, ground := Ground.data }], guard := none }) (v := Z'.v) rfl (by kernel_rfl) (by kernel_rfl) (by kernel_rfl) (fun _ _ _ h => h) (Or.inl ⟨by rfl, fun W hW => ?_⟩) hHeld ?_
          · obtain ⟨s0, s1, s2, s3, _⟩ := hW
            go_simp
          simp only [Act.put, List.setIfInBounds_toArray, List.set_cons_zero, List.set_cons_succ]
          refine wpAnyH_take (i := 14) (oi := { dst := some 104, op := Op.extract (Operand.tmp 90) 1, type := 38, pos := "law.go:188", after := #[{ on := 12, ground := Ground.data }, { on := 17, ground := Ground.gcOnly Departure.lateStores }], guard := none }) (v := sl) rfl (by kernel_rfl) (by kernel_rfl) (by kernel_rfl) (fun _ _ _ h => h) (Or.inl ⟨by rfl, fun W hW => ?_⟩) hHeld ?_
          · obtain ⟨s0, s1, s2, s3, _⟩ := hW
            go_simp
          simp only [Act.put, List.setIfInBounds_toArray, List.set_cons_zero, List.set_cons_succ]
          refine wpAnyH_take (i := 15) (oi := { dst := some 105, op := Op.extract (Operand.tmp 90) 2, type := 33, pos := "law.go:188", after := #[{ on := 12, ground := Ground.data }, { on := 18, ground := Ground.gcOnly Departure.lateStores }], guard := none }) (v := (.int .i64 k')) rfl (by kernel_rfl) (by kernel_rfl) (by kernel_rfl) (fun _ _ _ h => h) (Or.inl ⟨by rfl, fun W hW => ?_⟩) hHeld ?_
          · obtain ⟨s0, s1, s2, s3, _⟩ := hW
            go_simp
          simp only [Act.put, List.setIfInBounds_toArray, List.set_cons_zero, List.set_cons_succ]
          refine wpAnyH_ready (rs := [17]) (by kernel_rfl) (by simp) ?_
          refine AllReadyH.cons (o := { dst := none, op := Op.store 25 (Operand.tmp 14) (Operand.tmp 103), type := 0, pos := "law.go:188", after := #[{ on := 16, ground := Ground.data }, { on := 13, ground := Ground.data }, { on := 11, ground := Ground.chain }, { on := 0, ground := Ground.phase }, { on := 1, ground := Ground.phase }, { on := 2, ground := Ground.phase }, { on := 3, ground := Ground.phase }, { on := 4, ground := Ground.phase }, { on := 5, ground := Ground.phase }, { on := 6, ground := Ground.phase }, { on := 7, ground := Ground.phase }, { on := 8, ground := Ground.phase }, { on := 9, ground := Ground.phase }, { on := 10, ground := Ground.phase }, { on := 11, ground := Ground.phase }, { on := 12, ground := Ground.phase }, { on := 13, ground := Ground.phase }, { on := 14, ground := Ground.textOnly Departure.lateStores }, { on := 15, ground := Ground.textOnly Departure.lateStores }, { on := 16, ground := Ground.phase }], guard := none }) rfl (fun K hK => ?_) AllReadyH.nil
          obtain ⟨r9, k9⟩ := RB.facts 16 rfl
          go_simp
          have K9 := K7.far hlt2 Z'.cs.toArray
          have R9 := RB.row Z'.cs
          clear r9 k9
          refine hK.out _ _ (KM.s5 K9 hbl E0.out E1.out) (fun hHeld2 => ?_)
          clear hK K hHeld
          have hHeld := hHeld2
          clear hHeld2
          try simp only [Act.put, List.setIfInBounds_toArray, List.set_cons_zero, List.set_cons_succ]
          refine wpAnyH_take (i := 18) (oi := { dst := some 15, op := Op.assign (Operand.tmp 104), type := 38, pos := "law.go:188", after := #[{ on := 14, ground := Ground.data }, { on := 17, ground := Ground.chain }, { on := 0, ground := Ground.phase }, { on := 1, ground := Ground.phase }, { on := 2, ground := Ground.phase }, { on := 3, ground := Ground.phase }, { on := 4, ground := Ground.phase }, { on := 5, ground := Ground.phase }, { on := 6, ground := Ground.phase }, { on := 7, ground := Ground.phase }, { on := 8, ground := Ground.phase }, { on := 9, ground := Ground.phase }, { on := 10, ground := Ground.phase }, { on := 11, ground := Ground.phase }, { on := 12, ground := Ground.phase }, { on := 13, ground := Ground.phase }, { on := 14, ground := Ground.phase }, { on := 15, ground := Ground.textOnly Departure.lateStores }, { on := 16, ground := Ground.phase }, { on := 17, ground := Ground.phase }], guard := none }) (v := sl) rfl (by kernel_rfl) (by kernel_rfl) (by kernel_rfl) (fun _ _ _ h => h) (Or.inl ⟨by rfl, fun W hW => ?_⟩) hHeld ?_
          · obtain ⟨s0, s1, s2, s3, _⟩ := hW
            go_simp
          simp only [Act.put, List.setIfInBounds_toArray, List.set_cons_zero, List.set_cons_succ]
          refine wpAnyH_take (i := 19) (oi := { dst := some 16, op := Op.assign (Operand.tmp 105), type := 33, pos := "law.go:188", after := #[{ on := 15, ground := Ground.data }, { on := 18, ground := Ground.chain }, { on := 0, ground := Ground.phase }, { on := 1, ground := Ground.phase }, { on := 2, ground := Ground.phase }, { on := 3, ground := Ground.phase }, { on := 4, ground := Ground.phase }, { on := 5, ground := Ground.phase }, { on := 6, ground := Ground.phase }, { on := 7, ground := Ground.phase }, { on := 8, ground := Ground.phase }, { on := 9, ground := Ground.phase }, { on := 10, ground := Ground.phase }, { on := 11, ground := Ground.phase }, { on := 12, ground := Ground.phase }, { on := 13, ground := Ground.phase }, { on := 14, ground := Ground.phase }, { on := 15, ground := Ground.phase }, { on := 16, ground := Ground.phase }, { on := 17, ground := Ground.phase }, { on := 18, ground := Ground.phase }], guard := none }) (v := (.int .i64 k')) rfl (by kernel_rfl) (by kernel_rfl) (by kernel_rfl) (fun _ _ _ h => h) (Or.inl ⟨by rfl, fun W hW => ?_⟩) hHeld ?_
          · obtain ⟨s0, s1, s2, s3, _⟩ := hW
            go_simp
          simp only [Act.put, List.setIfInBounds_toArray, List.set_cons_zero, List.set_cons_succ]
          refine wpAnyH_done (by kernel_rfl) ?_ _
          have K9 := keepd K9
          have R9 := keepd R9
          clear KA K7 KB RB hHeld
          go_wp2_with fail
          go_meet
          exact ⟨_, rfl, R9, K9⟩
      case rest =>
      obtain ⟨bN, rfl, HNr, M2⟩ := hcut
      obtain ⟨r1, k1⟩ := HNr.out.facts 16 rfl
      obtain ⟨r2, k2⟩ := M2.out.y.facts 16 rfl
      have M3 := keepd (M2.out.st Z')
      go_wp2_with fail
      go_roundw
      case rel => exact ⟨j + 1, Z', by omega, by omega, by go_num, OG, M3⟩
      case measure => simp [intOf]; omega
    · have hg : j = n ∨ (j = 40 ∧ decide ((40 : Int) < (n : Int)) = true) := by
        by_cases h : j < n
        · exact .inr ⟨by omega, by simp; omega⟩
        · exact .inl (by omega)
      clear hlt hj hj4
      rcases hg with rfl | ⟨rfl, g1⟩
      all_goals
        go_wp2_with fail
        all_goals
          go_loopw [17] (fun vi wr => ∃ j2 : Nat, j2 ≤ 4 ∧ vi = .int .i64 j2 ∧ Hid (KM w X Z true on p bY wr)) (fun vi _ => 4 - (intOf vi).toNat)
          case atStart => exact ⟨0, by omega, rfl, M1⟩
          case round =>
            obtain ⟨j2, hj2, rfl, M2⟩ := hrel
            by_cases hlt : j2 < 4
            · have g3 : decide ((j2 : Int) < 4) = true := by simp; omega
              have b1 : (j2 : Int) < 4 := by omega
              have b2 : (0 : Int) ≤ j2 := by omega
              have x0 := (M2.out.y.cell j2).trans (cs_us' Z j2 hlt)
              have x4 := (M2.out.y.cell (4 + j2)).trans (cs_him' Z j2 hlt)
              have x8 := (M2.out.y.cell (8 + j2)).trans (cs_mu Z j2 hlt)
              have xc := (M2.out.y.cell (12 + j2)).trans (cs_mh Z j2 hlt)
              have U := keepd (off2 HZ.out j2 hlt)
              generalize Z.us.at j2 = zu at *
              generalize Z.him.at j2 = zh at *
              generalize Z.mu.at j2 = zm at *
              generalize Z.mh.at j2 = zn at *
              obtain ⟨U1, U2⟩ := U.out
              rcases U1 with rfl | ⟨rfl, rfl⟩ <;> rcases U2 with rfl | ⟨rfl, rfl⟩
              all_goals
                go_wp2_with fail
                go_roundw
                case rel => exact ⟨j2 + 1, by omega, by go_num, M2⟩
                case measure => simp [intOf]; omega
            · have g3 : decide ((j2 : Int) < 4) = false := by simp; omega
              clear hlt hj2
              go_wp2_with fail
              with_reducible refine (CA.out _ ((LaidA.laid HL.out).below M2.out.b)).mono ?_
              rintro e w9 ⟨rfl, hb⟩
              have HB := keepd (bCall M2.out.b hb)
              clear hb CA
              go_wp2_with fail
              go_ret
              exact ⟨rfl, HB.out⟩


end Go.Proofs.YtlgcfpdmklieiaaDoor
