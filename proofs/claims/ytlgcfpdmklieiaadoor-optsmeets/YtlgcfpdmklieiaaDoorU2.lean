/-
  Whole structs out of their blocks and into them, by law; two of them compared.
-/
import Derived.Test.YtlgcfpdmklieiaaDoorU1
import Derived.ChangeKeysEq
import Derived.Handy
namespace Go.Proofs.YtlgcfpdmklieiaaDoor
open Go.RowKit

/-- A block's cells; whether it is a row of n cells of type t, none of them frozen. -/
def rowOf (W : World) (b : Nat) : Array Value := match W.heap[b]? with
  | some (.cells cs _ _) => cs
  | _ => #[]
def isRow (W : World) (t b n : Nat) : Bool := match W.heap[b]? with
  | some (.cells cs t' fr) => decide (t' = t ∧ fr = (0, 0) ∧ cs.size = n)
  | _ => false

theorem isRow_sr {W : World} {t b n : Nat} (h : isRow W t b n = true) : W.heap[b]? = some (.cells (rowOf W b) t (0, 0)) ∧ (rowOf W b).size = n := by
  unfold isRow at h
  unfold rowOf
  split at h
  · rename_i cs t' fr e
    simp only [decide_eq_true_eq] at h
    obtain ⟨rfl, rfl, h3⟩ := h
    rw [e]
    exact ⟨rfl, h3⟩
  · cases h

/-- A row's cells, in two facts. -/
theorem SR.facts {t : TypeId} {W : World} {b : Nat} {cs : List Value} (h : SR t W b cs) (n : Nat) (hn : cs.length = n) : rowOf W b = cs.toArray ∧ isRow W t b n = true := by
  unfold SR at h
  simp [rowOf, isRow, h, hn]

/-- A pointer's block; whether it points to a row. -/
def ptrB : Value → Nat
  | .pointer (some ⟨b, 0, none⟩) => b
  | _ => 0
def okPtr (W : World) (t n : Nat) : Value → Bool
  | .pointer (some ⟨b, 0, none⟩) => isRow W t b n
  | _ => false
theorem ptrB_at (b : Nat) : ptrB (.pointer (some ⟨b, 0, none⟩)) = b := rfl
theorem okPtr_at (W : World) (t n b : Nat) : okPtr W t n (.pointer (some ⟨b, 0, none⟩)) = isRow W t b n := rfl
theorem okPtr_eq {W : World} {t n : Nat} {v : Value} (h : okPtr W t n v = true) : v = .pointer (some ⟨ptrB v, 0, none⟩) ∧ isRow W t (ptrB v) n = true := by
  unfold okPtr at h
  split at h
  · exact ⟨rfl, h⟩
  · cases h

/-- A struct's cells; whether they are n plain ones. -/
def aggC : Value → Array Value
  | .agg cs => cs
  | _ => #[]
def okAgg (n : Nat) : Value → Bool
  | .agg cs => decide (cs.size = n) && cs.all (·.oneCell')
  | _ => false
theorem aggC_at (cs : Array Value) : aggC (.agg cs) = cs := rfl
theorem okAgg_eq {n : Nat} {v : Value} (h : okAgg n v = true) : v = .agg (aggC v) ∧ (aggC v).size = n ∧ (aggC v).all (·.oneCell') = true := by
  unfold okAgg at h
  split at h
  · simp only [Bool.and_eq_true, decide_eq_true_eq] at h
    exact ⟨rfl, h.1, h.2⟩
  · cases h

theorem ex_load {t n : Nat} (hl : ∀ (W : World) (b : Nat) (cs : Array Value), W.heap[b]? = some (.cells cs t (0, 0)) → cs.size = n → Sem.run Tryd.prog (loadVar t ⟨b, 0, none⟩) W = .ok (.agg cs) W)
    (ρ : Operand → Value) (dst : Option Tmp) (x : Operand) (ty : TypeId) (pos : String) (af : Array Edge) (gd : Option (Nat × Bool)) (W : World) (h : okPtr W t n (ρ x) = true) :
    Sem.run Tryd.prog (execOp ρ ⟨dst, .load t x, ty, pos, af, gd⟩) W = .ok (.value (.agg (rowOf W (ptrB (ρ x))))) W := by
  obtain ⟨h1, h2⟩ := okPtr_eq h
  obtain ⟨h3, h4⟩ := isRow_sr h2
  unfold execOp
  simp only []
  rw [h1]
  simp only [Instr.loadAt, Instr.sureAddr, Sem.run_bind, Sem.run_pure, Result.andThen_ok, ptrB_at]
  rw [hl W _ _ h3 h4]
  rfl

theorem ex_store {t n : Nat} (hi : (Tryd.prog.info? t).map (·.size) = some n)
    (ρ : Operand → Value) (dst : Option Tmp) (x y : Operand) (ty : TypeId) (pos : String) (af : Array Edge) (gd : Option (Nat × Bool)) (W : World) (h : okPtr W t n (ρ x) = true) (hy : okAgg n (ρ y) = true) :
    Sem.run Tryd.prog (execOp ρ ⟨dst, .store t x y, ty, pos, af, gd⟩) W = .ok .skip (W.setRow (ptrB (ρ x)) (aggC (ρ y))) := by
  obtain ⟨h1, h2⟩ := okPtr_eq h
  obtain ⟨h3, h4⟩ := isRow_sr h2
  obtain ⟨k1, k2, k3⟩ := okAgg_eq hy
  unfold execOp
  simp only []
  rw [h1, k1]
  simp only [Instr.storeAt, Instr.sureAddr, Sem.run_bind, Sem.run_pure, Result.andThen_ok, ptrB_at, aggC_at]
  rw [run_storeVar_row W _ t t _ _ h3 (by rw [hi, k2]) (by rw [h4, k2]) k3]
  rfl

theorem ex_ld25 (ρ : Operand → Value) (dst : Option Tmp) (x : Operand) (ty : TypeId) (pos : String) (af : Array Edge) (gd : Option (Nat × Bool)) (W : World) (h : okPtr W 25 16 (ρ x) = true) :
    Sem.run Tryd.prog (execOp ρ ⟨dst, .load 25 x, ty, pos, af, gd⟩) W = .ok (.value (.agg (rowOf W (ptrB (ρ x))))) W :=
  ex_load (fun W b cs h1 h2 => run_loadVar_row W b 25 25 cs (0, 0) _ h1 Tryd.underlying25 rfl (by rw [info25, h2])) ρ dst x ty pos af gd W h
theorem ex_st25 (ρ : Operand → Value) (dst : Option Tmp) (x y : Operand) (ty : TypeId) (pos : String) (af : Array Edge) (gd : Option (Nat × Bool)) (W : World) (h : okPtr W 25 16 (ρ x) = true) (hy : okAgg 16 (ρ y) = true) :
    Sem.run Tryd.prog (execOp ρ ⟨dst, .store 25 x y, ty, pos, af, gd⟩) W = .ok .skip (W.setRow (ptrB (ρ x)) (aggC (ρ y))) :=
  ex_store info25 ρ dst x y ty pos af gd W h hy
theorem ex_ld67 (ρ : Operand → Value) (dst : Option Tmp) (x : Operand) (ty : TypeId) (pos : String) (af : Array Edge) (gd : Option (Nat × Bool)) (W : World) (h : okPtr W 67 11 (ρ x) = true) :
    Sem.run Tryd.prog (execOp ρ ⟨dst, .load 67 x, ty, pos, af, gd⟩) W = .ok (.value (.agg (rowOf W (ptrB (ρ x))))) W :=
  ex_load (fun W b cs h1 h2 => run_loadVar_row W b 67 67 cs (0, 0) _ h1 Tryd.underlying67 rfl (by rw [info67, h2])) ρ dst x ty pos af gd W h
theorem ex_st67 (ρ : Operand → Value) (dst : Option Tmp) (x y : Operand) (ty : TypeId) (pos : String) (af : Array Edge) (gd : Option (Nat × Bool)) (W : World) (h : okPtr W 67 11 (ρ x) = true) (hy : okAgg 11 (ρ y) = true) :
    Sem.run Tryd.prog (execOp ρ ⟨dst, .store 67 x y, ty, pos, af, gd⟩) W = .ok .skip (W.setRow (ptrB (ρ x)) (aggC (ρ y))) :=
  ex_store info67 ρ dst x y ty pos af gd W h hy
theorem ex_ld73 (ρ : Operand → Value) (dst : Option Tmp) (x : Operand) (ty : TypeId) (pos : String) (af : Array Edge) (gd : Option (Nat × Bool)) (W : World) (h : okPtr W 73 12 (ρ x) = true) :
    Sem.run Tryd.prog (execOp ρ ⟨dst, .load 73 x, ty, pos, af, gd⟩) W = .ok (.value (.agg (rowOf W (ptrB (ρ x))))) W :=
  ex_load (fun W b cs h1 h2 => run_loadVar_row W b 73 73 cs (0, 0) _ h1 Tryd.underlying73 rfl (by rw [info73, h2])) ρ dst x ty pos af gd W h
theorem ex_st73 (ρ : Operand → Value) (dst : Option Tmp) (x y : Operand) (ty : TypeId) (pos : String) (af : Array Edge) (gd : Option (Nat × Bool)) (W : World) (h : okPtr W 73 12 (ρ x) = true) (hy : okAgg 12 (ρ y) = true) :
    Sem.run Tryd.prog (execOp ρ ⟨dst, .store 73 x y, ty, pos, af, gd⟩) W = .ok .skip (W.setRow (ptrB (ρ x)) (aggC (ρ y))) :=
  ex_store info73 ρ dst x y ty pos af gd W h hy
theorem agg16 (a b c d e f g h : Int) (i j k l m n o p : Bool) : okAgg 16 (.agg #[.int .i64 a, .int .i64 b, .int .i64 c, .int .i64 d, .int .i64 e, .int .i64 f, .int .i64 g, .int .i64 h, .bool i, .bool j, .bool k, .bool l, .bool m, .bool n, .bool o, .bool p]) = true := by simp [okAgg, Value.oneCell']
theorem agg11 (a b c d e f : Int) (h i j k l : Bool) : okAgg 11 (.agg #[.bool h, .int .i64 a, .int .i64 b, .int .i64 c, .int .i64 d, .bool i, .bool j, .bool k, .bool l, .int .i64 e, .int .i64 f]) = true := by simp [okAgg, Value.oneCell']
theorem agg12 (a b c d e f g : Int) (h i j k l : Bool) : okAgg 12 (.agg #[.bool h, .int .i64 a, .int .i64 b, .int .i64 c, .int .i64 d, .bool i, .bool j, .bool k, .bool l, .int .i64 e, .int .i64 f, .int .i64 g]) = true := by simp [okAgg, Value.oneCell']

/-- A side's zero value, cell by cell. -/
abbrev Z67 : List Value := [.bool false, .int .i64 0, .int .i64 0, .int .i64 0, .int .i64 0, .bool false, .bool false, .bool false, .bool false, .int .i64 0, .int .i64 0]
abbrev Z25 : List Value := [.int .i64 0, .int .i64 0, .int .i64 0, .int .i64 0, .int .i64 0, .int .i64 0, .int .i64 0, .int .i64 0, .bool false, .bool false, .bool false, .bool false, .bool false, .bool false, .bool false, .bool false]

/-- Two new blocks: what there is of them, and of the memory below them. -/
theorem two_new (w : World) (t t' : TypeId) (a b : List Value) (W : World) (h : (w.alloc (.cells a.toArray t)).alloc (.cells b.toArray t') = W) :
    SR t W w.heap.size a ∧ SR t' W (w.heap.size + 1) b ∧ Below w.heap.size w W ∧ W.heap.size = w.heap.size + 2 := by
  subst h
  exact ⟨heap_alloc2_old w _ _, heap_alloc2_new w _ _, bAlloc (bAlloc (Below.refl _ _) _) _, by simp⟩


def same4 {α : Type} [BEq α] (x y : Four α) : Bool := x.a == y.a && (x.b == y.b && (x.c == y.c && x.d == y.d))
/-- Are all parts the same? -/
def sameO (X Y : O) : Bool := same4 X.us Y.us && (same4 X.him Y.him && (same4 X.mu Y.mu && same4 X.mh Y.mh))

theorem same4_iff {α : Type} [BEq α] [LawfulBEq α] (x y : Four α) : same4 x y = true ↔ x = y := by
  obtain ⟨a, b, c, d⟩ := x
  obtain ⟨e, f, g, h⟩ := y
  simp [same4]
theorem sameO_iff (X Y : O) : sameO X Y = true ↔ X = Y := by
  obtain ⟨a, b, c, d⟩ := X
  obtain ⟨e, f, g, h⟩ := Y
  simp [sameO, same4_iff]
theorem sameO_self (X : O) : sameO X X = true := (sameO_iff X X).2 rfl

theorem info3 : (Tryd.prog.info? 3).isSome = true := by kernel_rfl
theorem info4 : (Tryd.prog.info? 4).isSome = true := by kernel_rfl
theorem cells3 : Tryd.prog.cellsOf 3 = 1 := by kernel_rfl
theorem cells4 : Tryd.prog.cellsOf 4 = 1 := by kernel_rfl

theorem eq22 (d : Nat) (x y : Four Int) (W : World) : Sem.run Tryd.prog (Op.equalIn (d + 2) 22 (.agg #[.int .i64 x.a, .int .i64 x.b, .int .i64 x.c, .int .i64 x.d]) (.agg #[.int .i64 y.a, .int .i64 y.b, .int .i64 y.c, .int .i64 y.d])) W = .ok (same4 x y) W := by
  obtain ⟨i, hi⟩ := Option.isSome_iff_exists.1 info3
  rw [run_equalIn_array W (d + 1) _ _ Tryd.underlying22 hi, cells3]
  have r4 : List.range 4 = [0, 1, 2, 3] := rfl
  rw [r4]
  cases h1 : x.a == y.a <;> cases h2 : x.b == y.b <;> cases h3 : x.c == y.c <;> cases h4 : x.d == y.d <;> simp [Op.eqItems, go_sem, same4, h1, h2, h3, h4]

theorem eq23 (d : Nat) (x y : Four Bool) (W : World) : Sem.run Tryd.prog (Op.equalIn (d + 2) 23 (.agg #[.bool x.a, .bool x.b, .bool x.c, .bool x.d]) (.agg #[.bool y.a, .bool y.b, .bool y.c, .bool y.d])) W = .ok (same4 x y) W := by
  obtain ⟨i, hi⟩ := Option.isSome_iff_exists.1 info4
  rw [run_equalIn_array W (d + 1) _ _ Tryd.underlying23 hi, cells4]
  have r4 : List.range 4 = [0, 1, 2, 3] := rfl
  rw [r4]
  cases h1 : x.a == y.a <;> cases h2 : x.b == y.b <;> cases h3 : x.c == y.c <;> cases h4 : x.d == y.d <;> simp [Op.eqItems, go_sem, same4, h1, h2, h3, h4]

theorem eq25 (X Y : O) (W : World) : Sem.run Tryd.prog (Op.equalIn 10000 25 X.v Y.v) W = .ok (sameO X Y) W := by
  rw [run_equalIn_agg W 9999 25 _ _ (by kernel_rfl) (by kernel_rfl)]
  have e1 := eq22 9997 X.us Y.us W
  have e2 := eq22 9997 X.him Y.him W
  have e3 := eq23 9997 X.mu Y.mu W
  have e4 := eq23 9997 X.mh Y.mh W
  have hf : (Tryd.prog.fieldsOf 25).toList = [{ name := "Us", type := 22, offset := 0, embedded := false, tag := "", pkgPath := "", byteOffset := 0 }, { name := "Him", type := 22, offset := 4, embedded := false, tag := "", pkgPath := "", byteOffset := 32 },
    { name := "MayUs", type := 23, offset := 8, embedded := false, tag := "", pkgPath := "", byteOffset := 64 }, { name := "MayHim", type := 23, offset := 12, embedded := false, tag := "", pkgPath := "", byteOffset := 68 }] := by kernel_rfl
  rw [hf]
  simp only [Nat.reduceAdd] at e1 e2 e3 e4
  cases h1 : same4 X.us Y.us <;> cases h2 : same4 X.him Y.him <;> cases h3 : same4 X.mu Y.mu <;> cases h4 : same4 X.mh Y.mh <;> simp [Op.eqFields, part, go_sem, sameO, e1, e2, e3, e4, h1, h2, h3, h4]

end Go.Proofs.YtlgcfpdmklieiaaDoor
