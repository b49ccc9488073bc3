/-
  The contracts of the document's own cell, Standard. No conditions beyond those each theorem states.
-/
import Derived.Test.YtmjhagmniipcaaaDoorR3
namespace Go.Proofs.YtmjhagmniipcaaaDoor
open Go.RowKit
set_option maxRecDepth 100000

attribute [local go_sem ↓] ex_ld25 ex_st25 ex_al25 ex_bu25 ex_ix25 ex_eq25 ex_ne25 ex_eq23 ex_ne23
attribute [local go_sem] ptrB_at okPtr_at aggC_at agg62 isC_at isT_at eqV_t eqV_c isRow_new World.setRow_alloc_new

/-- The functions, and their keys. -/
def fR : List Int := [3, 4, 5, 7, 8, 9, 10, 11, 12, 13, 14, 15, 16, 19, 20, 21, 22, 23, 24, 25, 26, 27, 28, 29, 30]
def kR : List Int := [3, 15, 20, 28, 4, 26, 127, 21, 23, 18, 22, 17, 19, 2, 6, 25, 24, 1, 5, 9, 16, 8, 14, 29, 11]
def fV : List Value := fR.map (.int .i64)
def kV : List Value := kR.map (.int .u8)
theorem info48 : (Tryd.prog.info? 48).map (·.size) = some 25 := by kernel_rfl
theorem info49 : (Tryd.prog.info? 49).map (·.size) = some 25 := by kernel_rfl
theorem fV_one : okAgg 25 (.agg fV.toArray) = true := by decide +kernel
theorem kV_one : okAgg 25 (.agg kV.toArray) = true := by decide +kernel
def z48 : List Value := List.replicate 25 (.int .i64 0)
theorem zero48 : (Tryd.prog.info? 48).map (fun i => i.zero) = some (some (.agg z48.toArray)) := by kernel_rfl
theorem ex_al48 (ρ : Operand → Value) (dst : Option Tmp) (ty : TypeId) (pos : String) (af : Array Edge) (gd : Option (Nat × Bool)) (W : World) :
    Sem.run Tryd.prog (execOp ρ ⟨dst, .alloc 48, ty, pos, af, gd⟩) W = .ok (.value (.pointer (some ⟨W.heap.size, 0, none⟩))) (W.alloc (.cells z48.toArray 48)) := by
  have h := zero48
  cases hq : Tryd.prog.info? 48 with
  | none => rw [hq] at h; cases h
  | some i =>
    rw [hq] at h
    simp only [Option.map_some, Option.some.injEq] at h
    unfold execOp
    simp [Instr.alloc, zeroValue, typeInfo, hq, h, newVar, newRow, Value.cells, go_sem]
theorem ex_st48 (ρ : Operand → Value) (dst : Option Tmp) (x y : Operand) (ty : TypeId) (pos : String) (af : Array Edge) (gd : Option (Nat × Bool)) (W : World) (h : okPtr W 48 25 (ρ x) = true) (hy : okAgg 25 (ρ y) = true) :
    Sem.run Tryd.prog (execOp ρ ⟨dst, .store 48 x y, ty, pos, af, gd⟩) W = .ok .skip (W.setRow (ptrB (ρ x)) (aggC (ρ y))) := by
  obtain ⟨h1, h2⟩ := okPtr_eq h
  obtain ⟨h3, h4⟩ := isRow_sr h2
  obtain ⟨k1, k2, k3⟩ := okAgg_eq hy
  unfold execOp
  simp only []
  rw [h1, k1]
  simp only [Instr.storeAt, Instr.sureAddr, Sem.run_bind, Sem.run_pure, Result.andThen_ok, ptrB_at, aggC_at]
  rw [run_storeVar_row W _ 48 48 _ _ h3 (by rw [info48, k2]) (by rw [h4, k2]) k3]
  rfl
theorem isRow_n48 (W : World) : isRow (W.alloc (.cells z48.toArray 48)) 48 W.heap.size 25 = true := (SR.facts (SR.new 48 W z48) 25 rfl).2
def z49 : List Value := List.replicate 25 (.int .u8 0)
theorem zero49 : (Tryd.prog.info? 49).map (fun i => i.zero) = some (some (.agg z49.toArray)) := by kernel_rfl
theorem ex_al49 (ρ : Operand → Value) (dst : Option Tmp) (ty : TypeId) (pos : String) (af : Array Edge) (gd : Option (Nat × Bool)) (W : World) :
    Sem.run Tryd.prog (execOp ρ ⟨dst, .alloc 49, ty, pos, af, gd⟩) W = .ok (.value (.pointer (some ⟨W.heap.size, 0, none⟩))) (W.alloc (.cells z49.toArray 49)) := by
  have h := zero49
  cases hq : Tryd.prog.info? 49 with
  | none => rw [hq] at h; cases h
  | some i =>
    rw [hq] at h
    simp only [Option.map_some, Option.some.injEq] at h
    unfold execOp
    simp [Instr.alloc, zeroValue, typeInfo, hq, h, newVar, newRow, Value.cells, go_sem]
theorem ex_st49 (ρ : Operand → Value) (dst : Option Tmp) (x y : Operand) (ty : TypeId) (pos : String) (af : Array Edge) (gd : Option (Nat × Bool)) (W : World) (h : okPtr W 49 25 (ρ x) = true) (hy : okAgg 25 (ρ y) = true) :
    Sem.run Tryd.prog (execOp ρ ⟨dst, .store 49 x y, ty, pos, af, gd⟩) W = .ok .skip (W.setRow (ptrB (ρ x)) (aggC (ρ y))) := by
  obtain ⟨h1, h2⟩ := okPtr_eq h
  obtain ⟨h3, h4⟩ := isRow_sr h2
  obtain ⟨k1, k2, k3⟩ := okAgg_eq hy
  unfold execOp
  simp only []
  rw [h1, k1]
  simp only [Instr.storeAt, Instr.sureAddr, Sem.run_bind, Sem.run_pure, Result.andThen_ok, ptrB_at, aggC_at]
  rw [run_storeVar_row W _ 49 49 _ _ h3 (by rw [info49, k2]) (by rw [h4, k2]) k3]
  rfl
theorem isRow_n49 (W : World) : isRow (W.alloc (.cells z49.toArray 49)) 49 W.heap.size 25 = true := (SR.facts (SR.new 49 W z49) 25 rfl).2

attribute [local go_sem ↓] ex_al48 ex_al49 ex_st48 ex_st49
attribute [local go_sem] isRow_n48 isRow_n49

theorem cell_any (X : Tb) (n : Nat) (q : Int) (hn : n < 31) (Z : Tb) (hZ : tset X n ⟨2, q⟩ = Z) (w : World) : Calls Tryd.prog 21 #[tv X, .int .i64 (n : Int), .int .u8 q] w fun e w' => e = .returned (tv Z) ∧ Below w.heap.size w w' := by
  have HZ := keepd hZ
  clear hZ
  go_enter Tryd.func21, Tryd.ntmps21
  go_upto_region 1 with fail
  generalize hW : (w.alloc (.cells (cs X).toArray 25)).alloc (.cells (cs zT).toArray 25) = W
  obtain ⟨h1, h2, h3, h4⟩ := two_new _ _ _ _ hW
  clear hW
  obtain ⟨a0, a1⟩ := TB.at h1 n hn
  have f0 := SR.frozen h1 (n * 2)
  have f1 := SR.frozen h1 (n * 2 + 1)
  have i0 : (0 : Int) ≤ (n : Int) := by omega
  have i1 : (n : Int) < 31 := by omega
  have H1 := keepd h1
  have H2 := keepd h2
  have HB := keepd h3
  clear h1 h2 h3 h4
  go_upto_region 2 with fail
  generalize hW2 : (W.setCell ⟨w.heap.size, n * 2, none⟩ (.int .i64 2)).setCell ⟨w.heap.size, n * 2 + 1, none⟩ (.int .u8 q) = W2
  obtain ⟨h1, h3, h4⟩ : TB W2 w.heap.size (tset X n ⟨2, q⟩) ∧ TB W2 (w.heap.size + 1) zT ∧ Below w.heap.size w W2 := by
    subst hW2
    have q2 : w.heap.size + 1 ≠ w.heap.size := by omega
    exact ⟨TB.put H1.out n hn ⟨2, q⟩, SR.far (SR.far H2.out q2 _) q2 _, bSet (bSet HB.out (Nat.le_refl _) _) (Nat.le_refl _) _⟩
  clear hW2 H1 H2 HB a0 a1 f0 f1
  obtain ⟨r1, k1⟩ := TB.facts h1
  obtain ⟨r2, k2⟩ := TB.facts h3
  have H2 := keepd h3
  have HB := keepd h4
  clear h1 h3 h4
  rw [HZ.out] at r1
  go_wp2_with fail
  exact bodyPost_ret (v := tv Z) (results_cell_row Tryd.results21 _ _ (w.heap.size + 1) 25 _ (0, 0) _ rfl (SR.row H2.out (cs Z)) Tryd.underlying25 rfl (by rw [info25]; simp [cs_len])) rfl ⟨rfl, bRow HB.out (by omega) _⟩

/-- The standard table, as it is filled. -/
def partS : Nat → Tb
  | 0 => zT
  | i + 1 => tset (partS i) (fR.getD i 0).toNat ⟨2, kR.getD i 0⟩
theorem partS_all : cs (partS 25) = cs stdT := by
  have h : ∀ i : Fin 31, partS 25 i = stdT i := by decide +kernel
  exact cs_congr fun i hi => h ⟨i, hi⟩
theorem fR_ok : ∀ i : Fin 25, 0 ≤ fR.getD i 0 ∧ fR.getD i 0 < 31 := by decide +kernel
theorem fV_at : ∀ i : Fin 25, fV[i.1]? = some (.int .i64 (fR.getD i 0)) := by
  intro i
  have hl : i.1 < fR.length := i.2
  unfold fV
  rw [List.getElem?_map, List.getElem?_eq_getElem hl, List.getD_eq_getElem?_getD, List.getElem?_eq_getElem hl]
  rfl
theorem kV_at : ∀ i : Fin 25, kV[i.1]? = some (.int .u8 (kR.getD i 0)) := by
  intro i
  have hl : i.1 < kR.length := i.2
  unfold kV
  rw [List.getElem?_map, List.getElem?_eq_getElem hl, List.getD_eq_getElem?_getD, List.getElem?_eq_getElem hl]
  rfl

set_option maxHeartbeats 4000000 in
theorem refStandard_any (w : World) : Calls Tryd.prog 16 #[] w fun e w' => e = .returned (tv stdT) ∧ Below w.heap.size w w' := by
  have hf1 : okAgg 25 (.agg #[.int .i64 3, .int .i64 4, .int .i64 5, .int .i64 7, .int .i64 8, .int .i64 9, .int .i64 10, .int .i64 11, .int .i64 12, .int .i64 13, .int .i64 14, .int .i64 15, .int .i64 16, .int .i64 19, .int .i64 20, .int .i64 21, .int .i64 22, .int .i64 23, .int .i64 24, .int .i64 25, .int .i64 26, .int .i64 27, .int .i64 28, .int .i64 29, .int .i64 30]) = true := fV_one
  have hk1 : okAgg 25 (.agg #[.int .u8 3, .int .u8 15, .int .u8 20, .int .u8 28, .int .u8 4, .int .u8 26, .int .u8 127, .int .u8 21, .int .u8 23, .int .u8 18, .int .u8 22, .int .u8 17, .int .u8 19, .int .u8 2, .int .u8 6, .int .u8 25, .int .u8 24, .int .u8 1, .int .u8 5, .int .u8 9, .int .u8 16, .int .u8 8, .int .u8 14, .int .u8 29, .int .u8 11]) = true := kV_one
  go_enter Tryd.func16, Tryd.ntmps16
  go_upto_region 1 with fail
  generalize hW : w.alloc (.cells (cs zT).toArray 25) = W
  obtain ⟨h1, h2, h3⟩ := one_new _ _ _ _ hW
  clear hW
  have HT := keepd h1
  have HB := keepd h2
  have HB0 := keepd (Nat.le_refl w.heap.size)
  clear h1 h2 h3
  obtain ⟨b0, hb0⟩ : ∃ b, w.heap.size = b := ⟨_, rfl⟩
  rw [hb0] at HT ⊢
  have HB0 : Hid (w.heap.size ≤ b0) := by show _ ≤ _; omega
  clear hb0
  go_upto_region 2 with fail
  generalize hW : W.alloc (.cells #[.int .i64 3, .int .i64 4, .int .i64 5, .int .i64 7, .int .i64 8, .int .i64 9, .int .i64 10, .int .i64 11, .int .i64 12, .int .i64 13, .int .i64 14, .int .i64 15, .int .i64 16, .int .i64 19, .int .i64 20, .int .i64 21, .int .i64 22, .int .i64 23, .int .i64 24, .int .i64 25, .int .i64 26, .int .i64 27, .int .i64 28, .int .i64 29, .int .i64 30] 48) = W1
  obtain ⟨h1, h2, h3⟩ := one_new W 48 fV W1 hW
  have HF := keepd h1
  have HT1 := keepd (SR.call HT.out h2 (SR.lt HT.out))
  have HB1 := keepd (bCall HB.out h2)
  clear hW h1 h2 h3 HT HB
  obtain ⟨b1, hb1⟩ : ∃ b, W.heap.size = b := ⟨_, rfl⟩
  rw [hb1] at HF ⊢
  clear hb1
  go_upto_region 3 with fail
  generalize hW : W1.alloc (.cells #[.int .u8 3, .int .u8 15, .int .u8 20, .int .u8 28, .int .u8 4, .int .u8 26, .int .u8 127, .int .u8 21, .int .u8 23, .int .u8 18, .int .u8 22, .int .u8 17, .int .u8 19, .int .u8 2, .int .u8 6, .int .u8 25, .int .u8 24, .int .u8 1, .int .u8 5, .int .u8 9, .int .u8 16, .int .u8 8, .int .u8 14, .int .u8 29, .int .u8 11] 49) = W2
  obtain ⟨h1, h2, h3⟩ := one_new W1 49 kV W2 hW
  have HK := keepd h1
  have HF2 := keepd (SR.call HF.out h2 (SR.lt HF.out))
  have HT2 := keepd (SR.call HT1.out h2 (SR.lt HT1.out))
  have HB2 := keepd (bCall HB1.out h2)
  clear hW h1 h2 h3 HT1 HB1 HF
  obtain ⟨b2, hb2⟩ : ∃ b, W1.heap.size = b := ⟨_, rfl⟩
  rw [hb2] at HK ⊢
  clear hb2 hf1 hk1
  go_upto_region 4 with fail
  generalize hW : W2.alloc (.cells (cs zT).toArray 25) = W3
  obtain ⟨h1, h2, h3⟩ := one_new W2 25 (cs zT) W3 hW
  have HS := keepd h1
  have HK3 := keepd (SR.call HK.out h2 (SR.lt HK.out))
  have HF3 := keepd (SR.call HF2.out h2 (SR.lt HF2.out))
  have HT3 := keepd (SR.call HT2.out h2 (SR.lt HT2.out))
  have HB3 := keepd (bCall HB2.out h2)
  have HBs : Hid (w.heap.size ≤ W2.heap.size) := HB2.out.size
  have HK1 : Hid (b0 ≠ W2.heap.size) := Nat.ne_of_lt (SR.lt HT2.out)
  have HK2 : Hid (b1 ≠ W2.heap.size) := Nat.ne_of_lt (SR.lt HF2.out)
  have HK2' : Hid (b2 ≠ W2.heap.size) := Nat.ne_of_lt (SR.lt HK.out)
  clear hW h1 h2 h3 HT2 HB2 HF2 HK
  obtain ⟨b3, hb3⟩ : ∃ b, W2.heap.size = b := ⟨_, rfl⟩
  rw [hb3] at HS HBs HK1 HK2 HK2' ⊢
  clear hb3
  go_wp2_with fail
  go_loopw [4] (fun vi wr => ∃ i : Nat, i ≤ 25 ∧ vi = .int .i64 i ∧ Hid (TB wr b0 zT) ∧ Hid (SR 48 wr b1 fV) ∧ Hid (SR 49 wr b2 kV) ∧ Hid (TB wr b3 (partS i)) ∧ Hid (Below w.heap.size w wr)) (fun vi _ => 25 - (intOf vi).toNat)
  case atStart => exact ⟨0, by omega, rfl, HT3, HF3, HK3, HS, HB3⟩
  case round =>
    clear HT3 HF3 HK3 HS HB3
    obtain ⟨i, hi, rfl, HT, HF, HK, HS, HB⟩ := hrel
    by_cases hlt : i < 25
    · have hf := (SR.cell HF.out i).trans (fV_at ⟨i, hlt⟩)
      have hk := (SR.cell HK.out i).trans (kV_at ⟨i, hlt⟩)
      have hn := fR_ok ⟨i, hlt⟩
      have hZ : tset (partS i) (fR.getD i 0).toNat ⟨2, kR.getD i 0⟩ = partS (i + 1) := rfl
      simp only [] at hf hk hn
      generalize kR.getD i 0 = q at *
      generalize fR.getD i 0 = z at *
      obtain ⟨n, rfl⟩ : ∃ n : Nat, z = n := ⟨z.toNat, by omega⟩
      rw [Int.toNat_natCast] at hZ
      have HC := keepd (cell_any (partS i) n q (by omega) _ hZ)
      clear hZ hn
      obtain ⟨Z, hZe⟩ : ∃ Z, partS (i + 1) = Z := ⟨_, rfl⟩
      rw [hZe] at HC
      have HZe := keepd hZe
      clear hZe
      generalize partS i = Y at *
      have i0 : (0 : Int) ≤ (i : Int) := by omega
      have i1 : (i : Int) < 25 := by omega
      obtain ⟨r1, k1⟩ := TB.facts HS.out
      go_upto_region 7 with fail
      refine wp_region_held_drew (S := fun V => V.cell? ⟨b1, i, none⟩ = some (.int .i64 (n : Int)) ∧ V.cell? ⟨b2, i, none⟩ = some (.int .u8 q)) (by kernel_rfl) ⟨hf, hk⟩ (fun hHeld => ?_)
      refine wpAnyH_take (i := 1) (oi := { dst := some 13, op := Op.move (Operand.tmp 4), type := 3, pos := "ref.go:56", after := #[], guard := none }) (v := .int .i64 (i : Int)) rfl (by kernel_rfl) (by kernel_rfl) (by kernel_rfl) (fun _ _ _ h => h) (Or.inl ⟨by rfl, fun W hW => ?_⟩) hHeld ?_
      · obtain ⟨q1, q2⟩ := hW
        go_simp
      simp only [Act.put, List.setIfInBounds_toArray, List.set_cons_zero, List.set_cons_succ]
      refine wpAnyH_take (i := 2) (oi := { dst := some 14, op := Op.indexAddr 48 (Operand.tmp 1) (Operand.tmp 13), type := 0, pos := "ref.go:56", after := #[{ on := 1, ground := Ground.data }], guard := none }) (v := .pointer (some ⟨b1, i, none⟩)) rfl (by kernel_rfl) (by kernel_rfl) (by kernel_rfl) (fun _ _ _ h => h) (Or.inl ⟨by rfl, fun W hW => ?_⟩) hHeld ?_
      · obtain ⟨q1, q2⟩ := hW
        go_simp
      simp only [Act.put, List.setIfInBounds_toArray, List.set_cons_zero, List.set_cons_succ]
      refine wpAnyH_take (i := 3) (oi := { dst := some 15, op := Op.load 3 (Operand.tmp 14), type := 3, pos := "ref.go:56", after := #[{ on := 2, ground := Ground.data }], guard := none }) (v := .int .i64 (n : Int)) rfl (by kernel_rfl) (by kernel_rfl) (by kernel_rfl) (fun _ _ _ h => h) (Or.inl ⟨by rfl, fun W hW => ?_⟩) hHeld ?_
      · obtain ⟨q1, q2⟩ := hW
        go_simp
      simp only [Act.put, List.setIfInBounds_toArray, List.set_cons_zero, List.set_cons_succ]
      refine wpAnyH_take (i := 4) (oi := { dst := some 16, op := Op.move (Operand.tmp 4), type := 3, pos := "ref.go:56", after := #[], guard := none }) (v := .int .i64 (i : Int)) rfl (by kernel_rfl) (by kernel_rfl) (by kernel_rfl) (fun _ _ _ h => h) (Or.inl ⟨by rfl, fun W hW => ?_⟩) hHeld ?_
      · obtain ⟨q1, q2⟩ := hW
        go_simp
      simp only [Act.put, List.setIfInBounds_toArray, List.set_cons_zero, List.set_cons_succ]
      refine wpAnyH_take (i := 5) (oi := { dst := some 17, op := Op.indexAddr 49 (Operand.tmp 2) (Operand.tmp 16), type := 0, pos := "ref.go:56", after := #[{ on := 4, ground := Ground.data }], guard := none }) (v := .pointer (some ⟨b2, i, none⟩)) rfl (by kernel_rfl) (by kernel_rfl) (by kernel_rfl) (fun _ _ _ h => h) (Or.inl ⟨by rfl, fun W hW => ?_⟩) hHeld ?_
      · obtain ⟨q1, q2⟩ := hW
        go_simp
      simp only [Act.put, List.setIfInBounds_toArray, List.set_cons_zero, List.set_cons_succ]
      refine wpAnyH_take (i := 6) (oi := { dst := some 18, op := Op.load 5 (Operand.tmp 17), type := 5, pos := "ref.go:56", after := #[{ on := 5, ground := Ground.data }], guard := none }) (v := .int .u8 q) rfl (by kernel_rfl) (by kernel_rfl) (by kernel_rfl) (fun _ _ _ h => h) (Or.inl ⟨by rfl, fun W hW => ?_⟩) hHeld ?_
      · obtain ⟨q1, q2⟩ := hW
        go_simp
      simp only [Act.put, List.setIfInBounds_toArray, List.set_cons_zero, List.set_cons_succ]
      have r1' : rowOf wr.drew b3 = (cs Y).toArray := r1
      have k1' : isRow wr.drew 25 b3 62 = true := k1
      clear r1 k1
      refine wpAnyH_ready (rs := [0]) (by kernel_rfl) (by simp) ?_
      refine AllReadyH.cons (o := { dst := some 12, op := Op.load 25 (Operand.tmp 3), type := 25, pos := "ref.go:56", after := #[], guard := none }) rfl (fun K hK => ?_) AllReadyH.nil
      go_simp
      refine hK.out _ _ ⟨hf, hk⟩ (fun hHeld2 => ?_)
      clear hK K hHeld
      have hHeld := hHeld2
      clear hHeld2
      try simp only [Act.put, List.setIfInBounds_toArray, List.set_cons_zero, List.set_cons_succ]
      refine wpAnyH_ready (rs := [7]) (by kernel_rfl) (by simp) ?_
      refine AllReadyH.cons (o := { dst := some 19, op := Op.call { callee := Callee.value (Operand.func 21), args := #[Operand.tmp 12, Operand.tmp 15, Operand.tmp 18], argTypes := #[25, 3, 5] }, type := 25, pos := "ref.go:56", after := #[{ on := 0, ground := Ground.data }, { on := 3, ground := Ground.data }, { on := 6, ground := Ground.data }], guard := none }) rfl (fun K hK => ?_) AllReadyH.nil
      go_simp
      with_reducible refine (HC.out _).mono ?_
      rintro e w7 ⟨rfl, hb7⟩
      have hb8 : Below wr.heap.size wr w7 := noDrew hb7
      have HT2 := keepd (SR.rowFar (SR.call HT.out hb8 (SR.lt HT.out)) HK1.out (cs Z).toArray)
      have HF2 := keepd (SR.rowFar (SR.call HF.out hb8 (SR.lt HF.out)) HK2.out (cs Z).toArray)
      have HK3 := keepd (SR.rowFar (SR.call HK.out hb8 (SR.lt HK.out)) HK2'.out (cs Z).toArray)
      have h7 := SR.call HS.out hb8 (SR.lt HS.out)
      have HS2 := keepd (SR.row h7 (cs Z))
      have HB2 := keepd (bRow (b := b3) (bCall HB.out hb8) HBs.out (cs Z).toArray)
      have hf7 := (hb8.cell (p := ⟨b1, i, none⟩) (SR.lt HF.out)).trans hf
      have hk7 := (hb8.cell (p := ⟨b2, i, none⟩) (SR.lt HK.out)).trans hk
      obtain ⟨r2, k2⟩ := TB.facts h7
      clear r1' k1' h7
      go_wp2_with fail
      refine hK.out _ _ ⟨hf7, hk7⟩ (fun hHeld2 => ?_)
      clear hK K hHeld
      have hHeld := hHeld2
      clear hHeld2
      try simp only [Act.put, List.setIfInBounds_toArray, List.set_cons_zero, List.set_cons_succ]
      refine wpAnyH_ready (rs := [8]) (by kernel_rfl) (by simp) ?_
      refine AllReadyH.cons (o := { dst := none, op := Op.store 25 (Operand.tmp 3) (Operand.tmp 19), type := 0, pos := "ref.go:56", after := #[{ on := 7, ground := Ground.data }, { on := 7, ground := Ground.chain }, { on := 0, ground := Ground.phase }, { on := 1, ground := Ground.phase }, { on := 2, ground := Ground.phase }, { on := 3, ground := Ground.phase }, { on := 4, ground := Ground.phase }, { on := 5, ground := Ground.phase }, { on := 6, ground := Ground.phase }, { on := 7, ground := Ground.phase }], guard := none }) rfl (fun K hK => ?_) AllReadyH.nil
      go_simp
      refine hK.out _ _ ⟨by rw [SR.cell HF2.out, ← SR.cell HF.out]; exact hf, by rw [SR.cell HK3.out, ← SR.cell HK.out]; exact hk⟩ (fun hHeld2 => ?_)
      clear hK K hHeld
      have hHeld := hHeld2
      clear hHeld2
      try simp only [Act.put, List.setIfInBounds_toArray, List.set_cons_zero, List.set_cons_succ]
      refine wpAnyH_done (by kernel_rfl) ?_ _
      clear HT HF HK HS HB HC hf hk hf7 hk7 r2 k2 hb7 hb8 hHeld
      go_wp2_with fail
      go_roundw
      case rel => exact ⟨i + 1, by omega, by go_num, HT2, HF2, HK3, by rw [HZe.out]; exact HS2, HB2⟩
      case measure => simp [intOf]; omega
    · obtain rfl : i = 25 := by omega
      have HS2 : Hid (SR 25 wr b3 (cs stdT)) := by
        have := HS.out
        rw [TB, partS_all] at this
        exact this
      obtain ⟨r1, k1⟩ := TB.facts HS2.out
      obtain ⟨r2, k2⟩ := TB.facts HT.out
      clear HS
      go_wp2_with fail
      exact bodyPost_ret (v := tv stdT) (results_cell_row Tryd.results16 _ _ b0 25 _ (0, 0) _ rfl (SR.row HT.out (cs stdT)) Tryd.underlying25 rfl (by rw [info25]; simp [cs_len])) rfl ⟨rfl, bRow HB.out HB0.out _⟩

end Go.Proofs.YtmjhagmniipcaaaDoor
