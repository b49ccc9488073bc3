/-
  Tables in memory: whole ones out of their blocks and into them, by law; a part of one; two of them, and two cells, compared. No conditions beyond those each theorem states.
-/
import Derived.Test.YtjchkpnfdamgnaaP1
import Derived.ChangeKeysEq
import Derived.Handy
namespace Go.Proofs.Ytjchkpnfdamgnaa
open Go.RowKit

/-- A block's cells; whether it is a row of n cells of type t, none of them frozen. -/
def rowOf (W : World) (b : Nat) : Array Value := match W.heap[b]? with
  | some (.cells cs _ _) => cs
  | _ => #[]
def isRow (W : World) (t b n : Nat) : Bool := match W.heap[b]? with
  | some (.cells cs t' fr) => decide (t' = t ∧ fr = (0, 0) ∧ cs.size = n)
  | _ => false

theorem isRow_sr {W : World} {t b n : Nat} (h : isRow W t b n = true) : W.heap[b]? = some (.cells (rowOf W b) t (0, 0)) ∧ (rowOf W b).size = n := by
  unfold isRow at h
  unfold rowOf
  split at h
  · rename_i cs t' fr e
    simp only [decide_eq_true_eq] at h
    obtain ⟨rfl, rfl, h3⟩ := h
    rw [e]
    exact ⟨rfl, h3⟩
  · cases h

/-- A row's cells, in two facts. -/
theorem SR.facts {t : TypeId} {W : World} {b : Nat} {cs : List Value} (h : SR t W b cs) (n : Nat) (hn : cs.length = n) : rowOf W b = cs.toArray ∧ isRow W t b n = true := by
  unfold SR at h
  simp [rowOf, isRow, h, hn]

/-- A pointer's block; whether it points to a row. -/
def ptrB : Value → Nat
  | .pointer (some ⟨b, 0, none⟩) => b
  | _ => 0
def okPtr (W : World) (t n : Nat) : Value → Bool
  | .pointer (some ⟨b, 0, none⟩) => isRow W t b n
  | _ => false
theorem ptrB_at (b : Nat) : ptrB (.pointer (some ⟨b, 0, none⟩)) = b := rfl
theorem okPtr_at (W : World) (t n b : Nat) : okPtr W t n (.pointer (some ⟨b, 0, none⟩)) = isRow W t b n := rfl
theorem okPtr_eq {W : World} {t n : Nat} {v : Value} (h : okPtr W t n v = true) : v = .pointer (some ⟨ptrB v, 0, none⟩) ∧ isRow W t (ptrB v) n = true := by
  unfold okPtr at h
  split at h
  · exact ⟨rfl, h⟩
  · cases h

/-- A struct's cells; whether they are n plain ones. -/
def aggC : Value → Array Value
  | .agg cs => cs
  | _ => #[]
def okAgg (n : Nat) : Value → Bool
  | .agg cs => decide (cs.size = n) && cs.all (·.oneCell')
  | _ => false
theorem aggC_at (cs : Array Value) : aggC (.agg cs) = cs := rfl
theorem okAgg_eq {n : Nat} {v : Value} (h : okAgg n v = true) : v = .agg (aggC v) ∧ (aggC v).size = n ∧ (aggC v).all (·.oneCell') = true := by
  unfold okAgg at h
  split at h
  · simp only [Bool.and_eq_true, decide_eq_true_eq] at h
    exact ⟨rfl, h.1, h.2⟩
  · cases h
theorem cs_one (X : Tb) : ∀ v ∈ cs X, v.oneCell' = true := by
  intro v hv
  unfold cs at hv
  simp only [List.mem_flatMap, List.mem_cons, List.not_mem_nil, or_false] at hv
  obtain ⟨i, _, rfl | rfl⟩ := hv <;> rfl
theorem agg62 (X : Tb) : okAgg 62 (tv X) = true := by
  have h := cs_one X
  simp [okAgg, cs_len]
  exact h

theorem info31 : (Try.prog.info? 31).map (·.size) = some 62 := by kernel_rfl

theorem ex_ld31 (ρ : Operand → Value) (dst : Option Tmp) (x : Operand) (ty : TypeId) (pos : String) (af : Array Edge) (gd : Option (Nat × Bool)) (W : World) (h : okPtr W 31 62 (ρ x) = true) :
    Sem.run Try.prog (execOp ρ ⟨dst, .load 31 x, ty, pos, af, gd⟩) W = .ok (.value (.agg (rowOf W (ptrB (ρ x))))) W := by
  obtain ⟨h1, h2⟩ := okPtr_eq h
  obtain ⟨h3, h4⟩ := isRow_sr h2
  unfold execOp
  simp only []
  rw [h1]
  simp only [Instr.loadAt, Instr.sureAddr, Sem.run_bind, Sem.run_pure, Result.andThen_ok, ptrB_at]
  rw [run_loadVar_row W _ 31 31 _ (0, 0) _ h3 Try.underlying31 rfl (by rw [info31, h4])]
  rfl
theorem ex_st31 (ρ : Operand → Value) (dst : Option Tmp) (x y : Operand) (ty : TypeId) (pos : String) (af : Array Edge) (gd : Option (Nat × Bool)) (W : World) (h : okPtr W 31 62 (ρ x) = true) (hy : okAgg 62 (ρ y) = true) :
    Sem.run Try.prog (execOp ρ ⟨dst, .store 31 x y, ty, pos, af, gd⟩) W = .ok .skip (W.setRow (ptrB (ρ x)) (aggC (ρ y))) := by
  obtain ⟨h1, h2⟩ := okPtr_eq h
  obtain ⟨h3, h4⟩ := isRow_sr h2
  obtain ⟨k1, k2, k3⟩ := okAgg_eq hy
  unfold execOp
  simp only []
  rw [h1, k1]
  simp only [Instr.storeAt, Instr.sureAddr, Sem.run_bind, Sem.run_pure, Result.andThen_ok, ptrB_at, aggC_at]
  rw [run_storeVar_row W _ 31 31 _ _ h3 (by rw [info31, k2]) (by rw [h4, k2]) k3]
  rfl

theorem zero31 : (Try.prog.info? 31).map (fun i => i.zero) = some (some (.agg (cs zT).toArray)) := by kernel_rfl
/-- A new table. -/
theorem ex_al31 (ρ : Operand → Value) (dst : Option Tmp) (ty : TypeId) (pos : String) (af : Array Edge) (gd : Option (Nat × Bool)) (W : World) :
    Sem.run Try.prog (execOp ρ ⟨dst, .alloc 31, ty, pos, af, gd⟩) W = .ok (.value (.pointer (some ⟨W.heap.size, 0, none⟩))) (W.alloc (.cells (cs zT).toArray 31)) := by
  have h := zero31
  cases hq : Try.prog.info? 31 with
  | none => rw [hq] at h; cases h
  | some i =>
    rw [hq] at h
    simp only [Option.map_some, Option.some.injEq] at h
    unfold execOp
    simp [Instr.alloc, zeroValue, typeInfo, hq, h, newVar, newRow, Value.cells, go_sem]
/-- No table at all. -/
theorem ex_bu31 (ρ : Operand → Value) (dst : Option Tmp) (ty : TypeId) (pos : String) (af : Array Edge) (gd : Option (Nat × Bool)) (W : World) :
    Sem.run Try.prog (execOp ρ ⟨dst, .build 31 #[], ty, pos, af, gd⟩) W = .ok (.value (tv zT)) W := by
  have h := zero31
  cases hq : Try.prog.info? 31 with
  | none => rw [hq] at h; cases h
  | some i =>
    rw [hq] at h
    simp only [Option.map_some, Option.some.injEq] at h
    unfold execOp
    simp [zeroValue, typeInfo, hq, h, go_sem]

/-- A part of a table, by its place. -/
def idx31 : Value → Value → Value
  | .agg cs, .int _ n => .agg (cs.extract (n.toNat * 2) (n.toNat * 2 + 2))
  | _, _ => undef
def okIdx : Value → Value → Bool
  | .agg cs, .int .i64 n => decide (cs.size = 62 ∧ 0 ≤ n ∧ n < 31)
  | _, _ => false
theorem idx_facts (X : Tb) (n : Nat) (h : n < 31) : okIdx (tv X) (.int .i64 (n : Int)) = true ∧ idx31 (tv X) (.int .i64 (n : Int)) = cv (X n) := by
  refine ⟨by simp [okIdx, cs_len]; omega, ?_⟩
  have e : (cs X).toArray.extract ((n : Int).toNat * 2) ((n : Int).toNat * 2 + 2) = #[.int .i64 (X n).lv, .int .u8 (X n).v] := by
    rw [Int.toNat_natCast]
    apply Array.ext'
    simp only [List.extract_toArray, List.extract_eq_take_drop, Nat.add_sub_cancel_left]
    have a0 := cs_at0 X n h
    have a1 := cs_at1 X n h
    obtain ⟨l0, e0⟩ := List.getElem?_eq_some_iff.1 a0
    obtain ⟨l1, e1⟩ := List.getElem?_eq_some_iff.1 a1
    rw [List.drop_eq_getElem_cons l0, List.drop_eq_getElem_cons l1, e0, e1]
    rfl
  show Value.agg _ = _
  rw [e]
theorem ex_ix31 (ρ : Operand → Value) (dst : Option Tmp) (x i : Operand) (ty : TypeId) (pos : String) (af : Array Edge) (gd : Option (Nat × Bool)) (W : World) (h : okIdx (ρ x) (ρ i) = true) :
    Sem.run Try.prog (execOp ρ ⟨dst, .index 31 x i, ty, pos, af, gd⟩) W = .ok (.value (idx31 (ρ x) (ρ i))) W := by
  unfold execOp
  simp only []
  generalize ρ x = v at *
  generalize ρ i = u at *
  unfold okIdx at h
  split at h
  · rename_i cs n
    simp only [decide_eq_true_eq] at h
    obtain ⟨h1, h2, h3⟩ := h
    have hs : ∀ W : World, (sizeOf 29).run Try.prog W = .ok 2 W := fun W => by kernel_rfl
    have ha : ∀ W : World, (isAgg 29).run Try.prog W = .ok true W := fun W => by kernel_rfl
    simp [Instr.index, asIntOf, run_underlying Try.underlying31, h2, h3, part, hs, ha, idx31]
  · cases h

/-- Two values compared. -/
noncomputable def eqV (u v : Value) : Bool := @decide (u = v) (Classical.propDecidable _)
theorem eqV_iff {u v : Value} : eqV u v = true ↔ u = v := by simp [eqV]
def isC : Value → Bool
  | .agg cs => match cs.toList with
    | [.int .i64 _, .int .u8 _] => true
    | _ => false
  | _ => false
theorem isC_at (a b : Int) : isC (.agg #[.int .i64 a, .int .u8 b]) = true := rfl
theorem isC_eq {v : Value} (h : isC v = true) : ∃ c : Cl, v = cv c := by
  unfold isC at h
  split at h
  · rename_i cs
    split at h
    · rename_i a b e
      refine ⟨⟨a, b⟩, ?_⟩
      have : cs = cs.toList.toArray := by simp
      rw [this, e]
    · cases h
  · cases h
theorem eqV_c (a b c d : Int) : eqV (.agg #[.int .i64 a, .int .u8 b]) (.agg #[.int .i64 c, .int .u8 d]) = (a == c && b == d) := by
  rw [Bool.eq_iff_iff, eqV_iff]
  simp
noncomputable def isT (v : Value) : Bool := @decide (∃ X, v = tv X) (Classical.propDecidable _)
theorem isT_at (X : Tb) : isT (tv X) = true := by simp only [isT, decide_eq_true_eq]; exact ⟨X, rfl⟩
theorem isT_eq {v : Value} (h : isT v = true) : ∃ X, v = tv X := by simpa [isT] using h
theorem eqV_t (X Y : Tb) : eqV (tv X) (tv Y) = sameT X Y := by
  rw [Bool.eq_iff_iff, eqV_iff, sameT_cs]
  simp

theorem grd29 : Try.prog.eqGuardType Try.prog.depth 29 = false := by kernel_rfl
theorem grd31 : Try.prog.eqGuardType Try.prog.depth 31 = false := by kernel_rfl

theorem eq29 (d : Nat) (c e : Cl) (W : World) : Sem.run Try.prog (Op.equalIn (d + 2) 29 (cv c) (cv e)) W = .ok (decide (c = e)) W := by
  rw [run_equalIn_agg W (d + 1) 29 _ _ (by kernel_rfl) (by kernel_rfl)]
  have hf : (Try.prog.fieldsOf 29).toList = [{ name := "Level", type := 3, offset := 0, embedded := false, tag := "", pkgPath := "", byteOffset := 0 }, { name := "V", type := 5, offset := 1, embedded := false, tag := "", pkgPath := "", byteOffset := 8 }] := by kernel_rfl
  rw [hf]
  obtain ⟨a, b⟩ := c
  obtain ⟨a', b'⟩ := e
  have : decide ((⟨a, b⟩ : Cl) = ⟨a', b'⟩) = (a == a' && b == b') := by rw [Bool.eq_iff_iff]; simp
  rw [this]
  cases h1 : a == a'
  · simp [Op.eqFields, part, go_sem, h1]
  cases h2 : b == b'
  · simp [Op.eqFields, part, go_sem, h1, h2]
  simp [Op.eqFields, part, go_sem, h1, h2]

theorem cells29 : Try.prog.cellsOf 29 = 2 := by kernel_rfl
theorem info29 : (Try.prog.info? 29).isSome = true := by kernel_rfl

theorem items31 (X Y : Tb) (W : World) : ∀ l : List Nat, (∀ i ∈ l, i < 31) → Sem.run Try.prog (Op.eqItems 9999 29 2 (cs X).toArray (cs Y).toArray l) W = .ok (l.all fun i => decide (X i = Y i)) W := by
  intro l
  induction l with
  | nil => intro _; simp [Op.eqItems]
  | cons i l ih =>
    intro h
    have hi := h i (List.mem_cons_self ..)
    have hs : ∀ W : World, (sizeOf 29).run Try.prog W = .ok 2 W := fun W => by kernel_rfl
    have ha : ∀ W : World, (isAgg 29).run Try.prog W = .ok true W := fun W => by kernel_rfl
    have p : ∀ X : Tb, (part 29 (cs X).toArray (i * 2)).run Try.prog W = .ok (cv (X i)) W := fun X => by
      have := (idx_facts X i hi).2
      simp only [idx31] at this
      simp only [Int.toNat_natCast] at this
      simp only [part, Sem.run_bind, ha, Result.andThen_ok, hs, Sem.run_pure, if_true]
      rw [← this]
    have ih' := ih fun j hj => h j (List.mem_cons_of_mem _ hj)
    simp only [Op.eqItems, Sem.run_bind, p, Result.andThen_ok, eq29 9997]
    cases hd : decide (X i = Y i)
    · simp [hd]
    · simp [hd, ih']

theorem eq31 (X Y : Tb) (W : World) : Sem.run Try.prog (Op.equalIn 10000 31 (tv X) (tv Y)) W = .ok (sameT X Y) W := by
  obtain ⟨i, hi⟩ := Option.isSome_iff_exists.1 info29
  rw [run_equalIn_array W 9999 _ _ Try.underlying31 hi, cells29]
  exact items31 X Y W (List.range 31) fun i hi => List.mem_range.1 hi

theorem ex_eq31 (ρ : Operand → Value) (dst : Option Tmp) (x y : Operand) (t' ty : TypeId) (pos : String) (af : Array Edge) (gd : Option (Nat × Bool)) (W : World) (h : isT (ρ x) = true) (hy : isT (ρ y) = true) :
    Sem.run Try.prog (execOp ρ ⟨dst, .binOp .eql 31 x y t', ty, pos, af, gd⟩) W = .ok (.value (.bool (eqV (ρ x) (ρ y)))) W := by
  obtain ⟨X, hX⟩ := isT_eq h
  obtain ⟨Y, hY⟩ := isT_eq hy
  unfold execOp
  simp only []
  rw [hX, hY, eqV_t]
  simp only [Sem.run_bind, run_eqGuard_agg W _ _ _ _ _ _ grd31, Result.andThen_ok, run_eql_struct, eq31, Sem.run_pure]
theorem ex_ne31 (ρ : Operand → Value) (dst : Option Tmp) (x y : Operand) (t' ty : TypeId) (pos : String) (af : Array Edge) (gd : Option (Nat × Bool)) (W : World) (h : isT (ρ x) = true) (hy : isT (ρ y) = true) :
    Sem.run Try.prog (execOp ρ ⟨dst, .binOp .neq 31 x y t', ty, pos, af, gd⟩) W = .ok (.value (.bool (!eqV (ρ x) (ρ y)))) W := by
  obtain ⟨X, hX⟩ := isT_eq h
  obtain ⟨Y, hY⟩ := isT_eq hy
  unfold execOp
  simp only []
  rw [hX, hY, eqV_t]
  simp only [Sem.run_bind, run_eqGuard_agg W _ _ _ _ _ _ grd31, Result.andThen_ok, run_neq_struct, eq31, Sem.run_pure]
theorem eqV_cv (c e : Cl) : eqV (cv c) (cv e) = decide (c = e) := by
  rw [eqV_c, Bool.eq_iff_iff]
  obtain ⟨a, b⟩ := c
  obtain ⟨a', b'⟩ := e
  simp
theorem ex_eq29 (ρ : Operand → Value) (dst : Option Tmp) (x y : Operand) (t' ty : TypeId) (pos : String) (af : Array Edge) (gd : Option (Nat × Bool)) (W : World) (h : isC (ρ x) = true) (hy : isC (ρ y) = true) :
    Sem.run Try.prog (execOp ρ ⟨dst, .binOp .eql 29 x y t', ty, pos, af, gd⟩) W = .ok (.value (.bool (eqV (ρ x) (ρ y)))) W := by
  obtain ⟨X, hX⟩ := isC_eq h
  obtain ⟨Y, hY⟩ := isC_eq hy
  unfold execOp
  simp only []
  rw [hX, hY, eqV_cv]
  simp only [Sem.run_bind, run_eqGuard_agg W _ _ _ _ _ _ grd29, Result.andThen_ok, run_eql_struct, eq29 9998, Sem.run_pure]
theorem ex_ne29 (ρ : Operand → Value) (dst : Option Tmp) (x y : Operand) (t' ty : TypeId) (pos : String) (af : Array Edge) (gd : Option (Nat × Bool)) (W : World) (h : isC (ρ x) = true) (hy : isC (ρ y) = true) :
    Sem.run Try.prog (execOp ρ ⟨dst, .binOp .neq 29 x y t', ty, pos, af, gd⟩) W = .ok (.value (.bool (!eqV (ρ x) (ρ y)))) W := by
  obtain ⟨X, hX⟩ := isC_eq h
  obtain ⟨Y, hY⟩ := isC_eq hy
  unfold execOp
  simp only []
  rw [hX, hY, eqV_cv]
  simp only [Sem.run_bind, run_eqGuard_agg W _ _ _ _ _ _ grd29, Result.andThen_ok, run_neq_struct, eq29 9998, Sem.run_pure]

/-- Block b is the table X. -/
abbrev TB (W : World) (b : Nat) (X : Tb) : Prop := SR 31 W b (cs X)
theorem TB.facts {W : World} {b : Nat} {X : Tb} (h : TB W b X) : rowOf W b = (cs X).toArray ∧ isRow W 31 b 62 = true := SR.facts h 62 (cs_len X)
theorem TB.at {W : World} {b : Nat} {X : Tb} (h : TB W b X) (i : Nat) (hi : i < 31) : W.cell? ⟨b, i * 2, none⟩ = some (.int .i64 (X i).lv) ∧ W.cell? ⟨b, i * 2 + 1, none⟩ = some (.int .u8 (X i).v) :=
  ⟨(SR.cell h _).trans (cs_at0 X i hi), (SR.cell h _).trans (cs_at1 X i hi)⟩
theorem TB.put {W : World} {b : Nat} {X : Tb} (h : TB W b X) (i : Nat) (hi : i < 31) (c : Cl) : TB ((W.setCell ⟨b, i * 2, none⟩ (.int .i64 c.lv)).setCell ⟨b, i * 2 + 1, none⟩ (.int .u8 c.v)) b (tset X i c) := by
  have := SR.set (SR.set h (i * 2) (.int .i64 c.lv)) (i * 2 + 1) (.int .u8 c.v)
  rw [cs_tset X i hi c] at this
  exact this
theorem SR.row {t : TypeId} {W : World} {b : Nat} {cs : List Value} (h : SR t W b cs) (cs' : List Value) : SR t (W.setRow b cs'.toArray) b cs' := setRow_heap W b _ _ t _ h
theorem bRow {a w : World} {b : Nat} (h : Below a.heap.size a w) (hb : a.heap.size ≤ b) (cs : Array Value) : Below a.heap.size a (w.setRow b cs) :=
  ⟨h.os, h.tape, h.output, by simpa [World.setRow] using h.size, fun k hk => (setRow_other w b k cs (by omega)).trans (h.block k hk)⟩
theorem SR.rowFar {t : TypeId} {W : World} {b b' : Nat} {cs : List Value} (h : SR t W b cs) (hb : b ≠ b') (cs' : Array Value) : SR t (W.setRow b' cs') b cs := (setRow_other W b' b cs' hb).trans h

end Go.Proofs.Ytjchkpnfdamgnaa
