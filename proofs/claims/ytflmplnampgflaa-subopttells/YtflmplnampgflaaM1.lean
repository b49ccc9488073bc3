/-
  Masks and rows of bools in memory: whole ones out of their blocks and into them, by law; two masks compared. No conditions beyond those each theorem states.
-/
import Derived.Test.YtflmplnampgflaaMP
import Derived.ChangeKeysEq
import Derived.Handy
import Derived.Deep.WholeRow
namespace Go.Proofs.Ytflmplnampgflaa
open Go.RowKit

/-- A block's cells; whether it is a row of n cells of type t, none of them frozen. -/
def rowOf (W : World) (b : Nat) : Array Value := match W.heap[b]? with
  | some (.cells cs _ _) => cs
  | _ => #[]
def isRow (W : World) (t b n : Nat) : Bool := match W.heap[b]? with
  | some (.cells cs t' fr) => decide (t' = t ∧ fr = (0, 0) ∧ cs.size = n)
  | _ => false

theorem isRow_sr {W : World} {t b n : Nat} (h : isRow W t b n = true) : W.heap[b]? = some (.cells (rowOf W b) t (0, 0)) ∧ (rowOf W b).size = n := by
  unfold isRow at h
  unfold rowOf
  split at h
  · rename_i cs t' fr e
    simp only [decide_eq_true_eq] at h
    obtain ⟨rfl, rfl, h3⟩ := h
    rw [e]
    exact ⟨rfl, h3⟩
  · cases h

/-- A row's cells, in two facts. -/
theorem SR.facts {t : TypeId} {W : World} {b : Nat} {cs : List Value} (h : SR t W b cs) (n : Nat) (hn : cs.length = n) : rowOf W b = cs.toArray ∧ isRow W t b n = true := by
  unfold SR at h
  simp [rowOf, isRow, h, hn]

/-- A pointer's block; whether it points to a row. -/
def ptrB : Value → Nat
  | .pointer (some ⟨b, 0, none⟩) => b
  | _ => 0
def okPtr (W : World) (t n : Nat) : Value → Bool
  | .pointer (some ⟨b, 0, none⟩) => isRow W t b n
  | _ => false
theorem ptrB_at (b : Nat) : ptrB (.pointer (some ⟨b, 0, none⟩)) = b := rfl
theorem okPtr_at (W : World) (t n b : Nat) : okPtr W t n (.pointer (some ⟨b, 0, none⟩)) = isRow W t b n := rfl
theorem okPtr_eq {W : World} {t n : Nat} {v : Value} (h : okPtr W t n v = true) : v = .pointer (some ⟨ptrB v, 0, none⟩) ∧ isRow W t (ptrB v) n = true := by
  unfold okPtr at h
  split at h
  · exact ⟨rfl, h⟩
  · cases h

/-- A struct's cells; whether they are n plain ones. -/
def aggC : Value → Array Value
  | .agg cs => cs
  | _ => #[]
def okAgg (n : Nat) : Value → Bool
  | .agg cs => decide (cs.size = n) && cs.all (·.oneCell')
  | _ => false
theorem aggC_at (cs : Array Value) : aggC (.agg cs) = cs := rfl
theorem okAgg_eq {n : Nat} {v : Value} (h : okAgg n v = true) : v = .agg (aggC v) ∧ (aggC v).size = n ∧ (aggC v).all (·.oneCell') = true := by
  unfold okAgg at h
  split at h
  · simp only [Bool.and_eq_true, decide_eq_true_eq] at h
    exact ⟨rfl, h.1, h.2⟩
  · cases h

theorem agg32 (X : Mk) : okAgg 32 (mv X) = true := by
  have h : ∀ v ∈ ms X, v.oneCell' = true := bv_one X.l
  simp [okAgg, ms_len]
  exact h
theorem rb_one (f : Nat → Bool) : ∀ v ∈ rb f, v.oneCell' = true := by
  intro v hv
  unfold rb at hv
  obtain ⟨i, _, rfl⟩ := List.mem_map.1 hv
  rfl
theorem agg256 (f : Nat → Bool) : okAgg 256 (rv f) = true := by
  have h := rb_one f
  simp [okAgg, rb_len]
  exact h

theorem info23 : (Try.prog.info? 23).map (·.size) = some 32 := by kernel_rfl
theorem ex_ld23 (ρ : Operand → Value) (dst : Option Tmp) (x : Operand) (ty : TypeId) (pos : String) (af : Array Edge) (gd : Option (Nat × Bool)) (W : World) (h : okPtr W 23 32 (ρ x) = true) :
    Sem.run Try.prog (execOp ρ ⟨dst, .load 23 x, ty, pos, af, gd⟩) W = .ok (.value (.agg (rowOf W (ptrB (ρ x))))) W := by
  obtain ⟨h1, h2⟩ := okPtr_eq h
  obtain ⟨h3, h4⟩ := isRow_sr h2
  unfold execOp
  simp only []
  rw [h1]
  simp only [Instr.loadAt, Instr.sureAddr, Sem.run_bind, Sem.run_pure, Result.andThen_ok, ptrB_at]
  rw [run_loadVar_row W _ 23 23 _ (0, 0) _ h3 Try.underlying23 rfl (by rw [info23, h4])]
  rfl
theorem ex_st23 (ρ : Operand → Value) (dst : Option Tmp) (x y : Operand) (ty : TypeId) (pos : String) (af : Array Edge) (gd : Option (Nat × Bool)) (W : World) (h : okPtr W 23 32 (ρ x) = true) (hy : okAgg 32 (ρ y) = true) :
    Sem.run Try.prog (execOp ρ ⟨dst, .store 23 x y, ty, pos, af, gd⟩) W = .ok .skip (W.setRow (ptrB (ρ x)) (aggC (ρ y))) := by
  obtain ⟨h1, h2⟩ := okPtr_eq h
  obtain ⟨h3, h4⟩ := isRow_sr h2
  obtain ⟨k1, k2, k3⟩ := okAgg_eq hy
  unfold execOp
  simp only []
  rw [h1, k1]
  simp only [Instr.storeAt, Instr.sureAddr, Sem.run_bind, Sem.run_pure, Result.andThen_ok, ptrB_at, aggC_at]
  rw [run_storeVar_row W _ 23 23 _ _ h3 (by rw [info23, k2]) (by rw [h4, k2]) k3]
  rfl

theorem zero23 : (Try.prog.info? 23).map (fun i => i.zero) = some (some (.agg (ms zM).toArray)) := by kernel_rfl
theorem ex_al23 (ρ : Operand → Value) (dst : Option Tmp) (ty : TypeId) (pos : String) (af : Array Edge) (gd : Option (Nat × Bool)) (W : World) :
    Sem.run Try.prog (execOp ρ ⟨dst, .alloc 23, ty, pos, af, gd⟩) W = .ok (.value (.pointer (some ⟨W.heap.size, 0, none⟩))) (W.alloc (.cells (ms zM).toArray 23)) := by
  have h := zero23
  cases hq : Try.prog.info? 23 with
  | none => rw [hq] at h; cases h
  | some i =>
    rw [hq] at h
    simp only [Option.map_some, Option.some.injEq] at h
    unfold execOp
    simp [Instr.alloc, zeroValue, typeInfo, hq, h, newVar, newRow, Value.cells, go_sem]
theorem ex_bu23 (ρ : Operand → Value) (dst : Option Tmp) (ty : TypeId) (pos : String) (af : Array Edge) (gd : Option (Nat × Bool)) (W : World) :
    Sem.run Try.prog (execOp ρ ⟨dst, .build 23 #[], ty, pos, af, gd⟩) W = .ok (.value (.agg (ms zM).toArray)) W := by
  have h := zero23
  cases hq : Try.prog.info? 23 with
  | none => rw [hq] at h; cases h
  | some i =>
    rw [hq] at h
    simp only [Option.map_some, Option.some.injEq] at h
    unfold execOp
    simp [zeroValue, typeInfo, hq, h, go_sem]

/-- Two values compared. -/
noncomputable def eqV (u v : Value) : Bool := @decide (u = v) (Classical.propDecidable _)
theorem eqV_iff {u v : Value} : eqV u v = true ↔ u = v := by simp [eqV]
noncomputable def isM (v : Value) : Bool := @decide (∃ X, v = mv X) (Classical.propDecidable _)
theorem isM_at (X : Mk) : isM (mv X) = true := by simp only [isM, decide_eq_true_eq]; exact ⟨X, rfl⟩
theorem isM_eq {v : Value} (h : isM v = true) : ∃ X, v = mv X := by simpa [isM] using h
theorem eqV_m (X Y : Mk) : eqV (mv X) (mv Y) = decide (X = Y) := by
  rw [Bool.eq_iff_iff, eqV_iff, decide_eq_true_eq, ← ms_inj]
  simp

theorem grd23 : Try.prog.eqGuardType Try.prog.depth 23 = false := by kernel_rfl
theorem cellsOf5 : Try.prog.cellsOf 5 = 1 := by kernel_rfl
theorem isInfo5 : (Try.prog.info? 5).isSome = true := by kernel_rfl

theorem items23 (X Y : Mk) (W : World) : ∀ l : List Nat, (∀ i ∈ l, i < 32) → Sem.run Try.prog (Op.eqItems 9999 5 1 (ms X).toArray (ms Y).toArray l) W = .ok (l.all fun i => decide (X.at i = Y.at i)) W := by
  intro l
  induction l with
  | nil => intro _; simp [Op.eqItems]
  | cons i l ih =>
    intro h
    have hi := h i (List.mem_cons_self ..)
    have ha : ∀ W : World, (isAgg 5).run Try.prog W = .ok false W := fun W => by kernel_rfl
    have p : ∀ X : Mk, (part 5 (ms X).toArray (i * 1)).run Try.prog W = .ok (bv (X.at i)) W := fun X => by
      simp only [part, Sem.run_bind, ha, Result.andThen_ok, Nat.mul_one, List.getElem?_toArray, ms_at X hi]
      rfl
    have ih' := ih fun j hj => h j (List.mem_cons_of_mem _ hj)
    have e : decide (X.at i = Y.at i) = (((X.at i).toNat : Int) == ((Y.at i).toNat : Int)) := by
      rw [Bool.eq_iff_iff]
      simp only [decide_eq_true_eq, beq_iff_eq]
      exact ⟨fun h => by rw [h], fun h => UInt8.toNat_inj.1 (by omega)⟩
    simp only [Op.eqItems, Sem.run_bind, p, Result.andThen_ok]
    simp only [bv, run_equalIn_int _ _ _ _ _ _ _ Try.underlying5, Result.andThen_ok]
    rw [List.all_cons, e]
    cases hd : ((X.at i).toNat : Int) == ((Y.at i).toNat : Int)
    · simp
    · simp [ih']

theorem same_iff (X Y : Mk) : ((List.range 32).all fun i => decide (X.at i = Y.at i)) = decide (X = Y) := by
  rw [Bool.eq_iff_iff, decide_eq_true_eq]
  simp only [List.all_eq_true, List.mem_range, decide_eq_true_eq]
  exact ⟨fun h => Mk.ext_at h, fun h => by subst h; intro _ _; rfl⟩

theorem eq23 (X Y : Mk) (W : World) : Sem.run Try.prog (Op.equalIn 10000 23 (mv X) (mv Y)) W = .ok (decide (X = Y)) W := by
  obtain ⟨i, hi⟩ := Option.isSome_iff_exists.1 isInfo5
  rw [run_equalIn_array W 9999 _ _ Try.underlying23 hi, cellsOf5, ← same_iff]
  exact items23 X Y W (List.range 32) fun i hi => List.mem_range.1 hi

theorem ex_eq23 (ρ : Operand → Value) (dst : Option Tmp) (x y : Operand) (t' ty : TypeId) (pos : String) (af : Array Edge) (gd : Option (Nat × Bool)) (W : World) (h : isM (ρ x) = true) (hy : isM (ρ y) = true) :
    Sem.run Try.prog (execOp ρ ⟨dst, .binOp .eql 23 x y t', ty, pos, af, gd⟩) W = .ok (.value (.bool (eqV (ρ x) (ρ y)))) W := by
  obtain ⟨X, hX⟩ := isM_eq h
  obtain ⟨Y, hY⟩ := isM_eq hy
  unfold execOp
  simp only []
  rw [hX, hY, eqV_m]
  simp only [Sem.run_bind, run_eqGuard_agg W _ _ _ _ _ _ grd23, Result.andThen_ok, run_eql_struct, eq23, Sem.run_pure]
theorem ex_ne23 (ρ : Operand → Value) (dst : Option Tmp) (x y : Operand) (t' ty : TypeId) (pos : String) (af : Array Edge) (gd : Option (Nat × Bool)) (W : World) (h : isM (ρ x) = true) (hy : isM (ρ y) = true) :
    Sem.run Try.prog (execOp ρ ⟨dst, .binOp .neq 23 x y t', ty, pos, af, gd⟩) W = .ok (.value (.bool (!eqV (ρ x) (ρ y)))) W := by
  obtain ⟨X, hX⟩ := isM_eq h
  obtain ⟨Y, hY⟩ := isM_eq hy
  unfold execOp
  simp only []
  rw [hX, hY, eqV_m]
  simp only [Sem.run_bind, run_eqGuard_agg W _ _ _ _ _ _ grd23, Result.andThen_ok, run_neq_struct, eq23, Sem.run_pure]

/-- Block b is the mask X; the row f. -/
abbrev MB (W : World) (b : Nat) (X : Mk) : Prop := SR 23 W b (ms X)
theorem MB.facts {W : World} {b : Nat} {X : Mk} (h : MB W b X) : rowOf W b = (ms X).toArray ∧ isRow W 23 b 32 = true := SR.facts h 32 (ms_len X)
theorem MB.at {W : World} {b : Nat} {X : Mk} (h : MB W b X) {i : Nat} (hi : i < 32) : W.cell? ⟨b, i, none⟩ = some (.int .u8 ((X.at i).toNat : Int)) := (SR.cell h _).trans (ms_at X hi)
theorem MB.put {W : World} {b : Nat} {X : Mk} (h : MB W b X) (i : Nat) (u : UInt8) : MB (W.setCell ⟨b, i, none⟩ (.int .u8 (u.toNat : Int))) b (X.set i u) := by
  have := SR.set h i (bv u)
  rw [ms_set] at this
  exact this
theorem MB.rd {W : World} {b B : Nat} {X : Mk} (h : MB W b X) (hB : b < B) {n : Nat} (hn : n ≤ 32) : Rd W B (some ⟨b, 0, none⟩) (X.l.take n) 32 := by
  refine ⟨by rw [List.length_take, X.h]; omega, by unfold maxLen; omega, fun _ => ⟨_, rfl, hB⟩, fun ad had j u hu => ?_⟩
  injection had with had
  subst had
  rw [add_lit0]
  rw [List.getElem?_take] at hu
  split at hu
  · rw [SR.cell h j]
    unfold ms
    rw [List.getElem?_map, hu]
    rfl
  · cases hu
theorem isRow_new (W : World) (X : Mk) : isRow (W.alloc (.cells (ms X).toArray 23)) 23 W.heap.size 32 = true := (MB.facts (SR.new 23 W (ms X))).2
theorem SR.row {t : TypeId} {W : World} {b : Nat} {cs : List Value} (h : SR t W b cs) (cs' : List Value) : SR t (W.setRow b cs'.toArray) b cs' := setRow_heap W b _ _ t _ h
theorem bRow {a w : World} {b : Nat} (h : Below a.heap.size a w) (hb : a.heap.size ≤ b) (cs : Array Value) : Below a.heap.size a (w.setRow b cs) :=
  ⟨h.os, h.tape, h.output, by simpa [World.setRow] using h.size, fun k hk => (setRow_other w b k cs (by omega)).trans (h.block k hk)⟩
theorem SR.rowFar {t : TypeId} {W : World} {b b' : Nat} {cs : List Value} (h : SR t W b cs) (hb : b ≠ b') (cs' : Array Value) : SR t (W.setRow b' cs') b cs := (setRow_other W b' b cs' hb).trans h


theorem one_new (w : World) (t : TypeId) (a : List Value) (W : World) (h : w.alloc (.cells a.toArray t) = W) : SR t W w.heap.size a ∧ Below w.heap.size w W ∧ W.heap.size = w.heap.size + 1 := by
  subst h
  exact ⟨SR.new t w a, bAlloc (Below.refl _ _) _, by simp⟩
theorem two_new (w : World) (t t' : TypeId) (a b : List Value) (W : World) (h : (w.alloc (.cells a.toArray t)).alloc (.cells b.toArray t') = W) :
    SR t W w.heap.size a ∧ SR t' W (w.heap.size + 1) b ∧ Below w.heap.size w W ∧ W.heap.size = w.heap.size + 2 := by
  subst h
  exact ⟨heap_alloc2_old w _ _, heap_alloc2_new w _ _, bAlloc (bAlloc (Below.refl _ _) _) _, by simp⟩
theorem results_m {fn : Func} {p : Tmp} (h : fn.results = #[.cell p 23]) (tmps : Array Value) (w : World) (g : Nat) (X : Mk) (hp : tmps.getD p undef = .pointer (some ⟨g, 0, none⟩)) (hg : MB w g X) :
    (results fn tmps).run Try.prog w = .ok (mv X) w := by
  have hp' : tmps[p]?.getD undef = .pointer (some ⟨g, 0, none⟩) := by simpa using hp
  simp [results, h, hp', asAddr, run_loadVar_row w g 23 23 _ (0, 0) _ hg Try.underlying23 rfl (by rw [info23]; simp [ms_len])]
theorem results_m2 {fn : Func} {p t : Tmp} (h : fn.results = #[.cell p 23, .tmp t]) (tmps : Array Value) (w : World) (g : Nat) (X : Mk) (hp : tmps.getD p undef = .pointer (some ⟨g, 0, none⟩)) (hg : MB w g X) :
    (results fn tmps).run Try.prog w = .ok (.tuple #[mv X, tmps.getD t undef]) w := by
  have hp' : tmps[p]?.getD undef = .pointer (some ⟨g, 0, none⟩) := by simpa using hp
  simp [results, h, hp', asAddr, run_loadVar_row w g 23 23 _ (0, 0) _ hg Try.underlying23 rfl (by rw [info23]; simp [ms_len])]

end Go.Proofs.Ytflmplnampgflaa
