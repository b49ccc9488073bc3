/-
  Two ends in memory: all options of both in one block, by law; the rows that are under way; their changes.
-/
import Derived.Test.YtlgcfpdmklieiaaDoorM5
import Derived.Deep.MidRow
namespace Go.Proofs.YtlgcfpdmklieiaaDoor
open Go.RowKit

theorem info56 : (Tryd.prog.info? 56).map (·.size) = some 32 := by kernel_rfl

/-- Sixteen cells of a row; sixteen others in their place. -/
def get16 (r : Array Value) (o : Nat) : Array Value := ((r.toList.drop o).take 16).toArray
def put16 (r : Array Value) (o : Nat) (c : Array Value) : Array Value := (r.toList.take o ++ c.toList ++ r.toList.drop (o + 16)).toArray
theorem get16_0 (A B : O) : get16 (A.cs ++ B.cs).toArray 0 = A.cs.toArray := rfl
theorem get16_1 (A B : O) : get16 (A.cs ++ B.cs).toArray 16 = B.cs.toArray := rfl
theorem put16_0 (A B X : O) : put16 (A.cs ++ B.cs).toArray 0 X.cs.toArray = (X.cs ++ B.cs).toArray := rfl
theorem put16_1 (A B X : O) : put16 (A.cs ++ B.cs).toArray 16 X.cs.toArray = (A.cs ++ X.cs).toArray := rfl

/-- A pointer to one of the two. -/
def ptrO : Value → Nat
  | .pointer (some ⟨_, o, none⟩) => o
  | _ => 0
def ptrC : Value → Nat
  | .pointer (some ⟨b, _, none⟩) => b
  | _ => 0
def okPtr2 (W : World) : Value → Bool
  | .pointer (some ⟨b, o, none⟩) => isRow W 56 b 32 && decide (o = 0 ∨ o = 16)
  | _ => false
theorem ptrO_at (b o : Nat) : ptrO (.pointer (some ⟨b, o, none⟩)) = o := rfl
theorem ptrC_at (b o : Nat) : ptrC (.pointer (some ⟨b, o, none⟩)) = b := rfl
theorem okPtr2_0 (W : World) (b : Nat) : okPtr2 W (.pointer (some ⟨b, 0, none⟩)) = isRow W 56 b 32 := by simp [okPtr2]
theorem okPtr2_1 (W : World) (b : Nat) : okPtr2 W (.pointer (some ⟨b, 16, none⟩)) = isRow W 56 b 32 := by simp [okPtr2]
theorem okPtr2_eq {W : World} {v : Value} (h : okPtr2 W v = true) : v = .pointer (some ⟨ptrC v, ptrO v, none⟩) ∧ isRow W 56 (ptrC v) 32 = true ∧ (ptrO v = 0 ∨ ptrO v = 16) := by
  unfold okPtr2 at h
  split at h
  · simp only [Bool.and_eq_true, decide_eq_true_eq] at h
    exact ⟨rfl, h.1, h.2⟩
  · cases h

theorem ex_ld25b (ρ : Operand → Value) (dst : Option Tmp) (x : Operand) (ty : TypeId) (pos : String) (af : Array Edge) (gd : Option (Nat × Bool)) (W : World) (h : okPtr2 W (ρ x) = true) :
    Sem.run Tryd.prog (execOp ρ ⟨dst, .load 25 x, ty, pos, af, gd⟩) W = .ok (.value (.agg (get16 (rowOf W (ptrC (ρ x))) (ptrO (ρ x))))) W := by
  obtain ⟨h1, h2, h3⟩ := okPtr2_eq h
  obtain ⟨h4, h5⟩ := isRow_sr h2
  unfold execOp
  simp only []
  rw [h1]
  simp only [Instr.loadAt, Instr.sureAddr, Sem.run_bind, Sem.run_pure, Result.andThen_ok, ptrC_at, ptrO_at]
  generalize ptrC (ρ x) = b at *
  generalize ptrO (ρ x) = o at *
  have hr : W.rangeAt b o (((rowOf W b).toList.drop o).take 16) := by
    intro j v hv
    rw [cell_of_row W b (o + j) _ 56 (0, 0) h4]
    have hj : j < 16 := by
      have := (List.getElem?_eq_some_iff.1 hv).1
      simp at this
      omega
    rw [List.getElem?_take, if_pos hj, List.getElem?_drop, Array.getElem?_toList] at hv
    exact hv
  rw [run_loadVar_mid W b o 25 _ _ hr Tryd.underlying25 rfl (by rw [info25]; simp; rcases h3 with rfl | rfl <;> omega)]
  rfl

theorem ex_st25b (ρ : Operand → Value) (dst : Option Tmp) (x y : Operand) (ty : TypeId) (pos : String) (af : Array Edge) (gd : Option (Nat × Bool)) (W : World) (h : okPtr2 W (ρ x) = true) (hy : okAgg 16 (ρ y) = true) :
    Sem.run Tryd.prog (execOp ρ ⟨dst, .store 25 x y, ty, pos, af, gd⟩) W = .ok .skip (W.setRow (ptrC (ρ x)) (put16 (rowOf W (ptrC (ρ x))) (ptrO (ρ x)) (aggC (ρ y)))) := by
  obtain ⟨h1, h2, h3⟩ := okPtr2_eq h
  obtain ⟨h4, h5⟩ := isRow_sr h2
  obtain ⟨k1, k2, k3⟩ := okAgg_eq hy
  unfold execOp
  simp only []
  rw [h1, k1]
  simp only [Instr.storeAt, Instr.sureAddr, Sem.run_bind, Sem.run_pure, Result.andThen_ok, ptrC_at, ptrO_at, aggC_at]
  generalize ptrC (ρ x) = b at *
  generalize ptrO (ρ x) = o at *
  generalize aggC (ρ y) = cs at *
  have hst := run_storeCells_at Tryd.prog b o 56 cs.toList 0 (rowOf W b) W h4 (by simp [k2, h5]; rcases h3 with rfl | rfl <;> omega) (fun v hv => (Array.all_eq_true_iff_forall_mem.1 k3) v (by simpa using hv))
  simp only [Nat.add_zero, Array.length_toList, k2] at hst
  cases hq : Tryd.prog.info? 25 with
  | none => have := info25; rw [hq] at this; cases this
  | some i =>
    have hs : i.size = 16 := by have := info25; rw [hq] at this; simpa using this
    simp [storeVar, sizeOf, typeInfo, hq, Value.cells, hs, k2, hst, put16]

end Go.Proofs.YtlgcfpdmklieiaaDoor
