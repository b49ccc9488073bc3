/-
  Prefs in memory: whole ones out of their blocks and into them, by law; a part of them. No conditions beyond those each theorem states.
-/
import Derived.Test.YtjchkpnfdamgnaaT1
namespace Go.Proofs.Ytjchkpnfdamgnaa
open Go.RowKit

theorem info25 : (Try.prog.info? 25).map (·.size) = some 62 := by kernel_rfl

theorem ex_ld25 (ρ : Operand → Value) (dst : Option Tmp) (x : Operand) (ty : TypeId) (pos : String) (af : Array Edge) (gd : Option (Nat × Bool)) (W : World) (h : okPtr W 25 62 (ρ x) = true) :
    Sem.run Try.prog (execOp ρ ⟨dst, .load 25 x, ty, pos, af, gd⟩) W = .ok (.value (.agg (rowOf W (ptrB (ρ x))))) W := by
  obtain ⟨h1, h2⟩ := okPtr_eq h
  obtain ⟨h3, h4⟩ := isRow_sr h2
  unfold execOp
  simp only []
  rw [h1]
  simp only [Instr.loadAt, Instr.sureAddr, Sem.run_bind, Sem.run_pure, Result.andThen_ok, ptrB_at]
  rw [run_loadVar_row W _ 25 25 _ (0, 0) _ h3 Try.underlying25 rfl (by rw [info25, h4])]
  rfl
theorem ex_st25 (ρ : Operand → Value) (dst : Option Tmp) (x y : Operand) (ty : TypeId) (pos : String) (af : Array Edge) (gd : Option (Nat × Bool)) (W : World) (h : okPtr W 25 62 (ρ x) = true) (hy : okAgg 62 (ρ y) = true) :
    Sem.run Try.prog (execOp ρ ⟨dst, .store 25 x y, ty, pos, af, gd⟩) W = .ok .skip (W.setRow (ptrB (ρ x)) (aggC (ρ y))) := by
  obtain ⟨h1, h2⟩ := okPtr_eq h
  obtain ⟨h3, h4⟩ := isRow_sr h2
  obtain ⟨k1, k2, k3⟩ := okAgg_eq hy
  unfold execOp
  simp only []
  rw [h1, k1]
  simp only [Instr.storeAt, Instr.sureAddr, Sem.run_bind, Sem.run_pure, Result.andThen_ok, ptrB_at, aggC_at]
  rw [run_storeVar_row W _ 25 25 _ _ h3 (by rw [info25, k2]) (by rw [h4, k2]) k3]
  rfl

theorem zero25 : (Try.prog.info? 25).map (fun i => i.zero) = some (some (.agg (cs zT).toArray)) := by kernel_rfl
/-- A new table. -/
theorem ex_al25 (ρ : Operand → Value) (dst : Option Tmp) (ty : TypeId) (pos : String) (af : Array Edge) (gd : Option (Nat × Bool)) (W : World) :
    Sem.run Try.prog (execOp ρ ⟨dst, .alloc 25, ty, pos, af, gd⟩) W = .ok (.value (.pointer (some ⟨W.heap.size, 0, none⟩))) (W.alloc (.cells (cs zT).toArray 25)) := by
  have h := zero25
  cases hq : Try.prog.info? 25 with
  | none => rw [hq] at h; cases h
  | some i =>
    rw [hq] at h
    simp only [Option.map_some, Option.some.injEq] at h
    unfold execOp
    simp [Instr.alloc, zeroValue, typeInfo, hq, h, newVar, newRow, Value.cells, go_sem]
/-- No table at all. -/
theorem ex_bu25 (ρ : Operand → Value) (dst : Option Tmp) (ty : TypeId) (pos : String) (af : Array Edge) (gd : Option (Nat × Bool)) (W : World) :
    Sem.run Try.prog (execOp ρ ⟨dst, .build 25 #[], ty, pos, af, gd⟩) W = .ok (.value (tv zT)) W := by
  have h := zero25
  cases hq : Try.prog.info? 25 with
  | none => rw [hq] at h; cases h
  | some i =>
    rw [hq] at h
    simp only [Option.map_some, Option.some.injEq] at h
    unfold execOp
    simp [zeroValue, typeInfo, hq, h, go_sem]

theorem ex_ix25 (ρ : Operand → Value) (dst : Option Tmp) (x i : Operand) (ty : TypeId) (pos : String) (af : Array Edge) (gd : Option (Nat × Bool)) (W : World) (h : okIdx (ρ x) (ρ i) = true) :
    Sem.run Try.prog (execOp ρ ⟨dst, .index 25 x i, ty, pos, af, gd⟩) W = .ok (.value (idx31 (ρ x) (ρ i))) W := by
  unfold execOp
  simp only []
  generalize ρ x = v at *
  generalize ρ i = u at *
  unfold okIdx at h
  split at h
  · rename_i cs n
    simp only [decide_eq_true_eq] at h
    obtain ⟨h1, h2, h3⟩ := h
    have hs : ∀ W : World, (sizeOf 23).run Try.prog W = .ok 2 W := fun W => by kernel_rfl
    have ha : ∀ W : World, (isAgg 23).run Try.prog W = .ok true W := fun W => by kernel_rfl
    simp [Instr.index, asIntOf, run_underlying Try.underlying25, h2, h3, part, hs, ha, idx31]
  · cases h

/-- Block b is the prefs X. -/
abbrev PB (W : World) (b : Nat) (X : Tb) : Prop := SR 25 W b (cs X)
theorem PB.facts {W : World} {b : Nat} {X : Tb} (h : PB W b X) : rowOf W b = (cs X).toArray ∧ isRow W 25 b 62 = true := SR.facts h 62 (cs_len X)
theorem PB.at {W : World} {b : Nat} {X : Tb} (h : PB W b X) (i : Nat) (hi : i < 31) : W.cell? ⟨b, i * 2, none⟩ = some (.int .i64 (X i).lv) ∧ W.cell? ⟨b, i * 2 + 1, none⟩ = some (.int .u8 (X i).v) :=
  ⟨(SR.cell h _).trans (cs_at0 X i hi), (SR.cell h _).trans (cs_at1 X i hi)⟩

end Go.Proofs.Ytjchkpnfdamgnaa
