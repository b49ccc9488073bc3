/-
  Several texts in one: BP B1 B2 B3 B4 B5 B6 B7 BL1 BL2 BR1 BR2. No conditions beyond those each theorem states.
-/
import Derived.Test.YtlfmbfecajhffaaDoorWords
import Derived.ChangeKeysEq
import Derived.Handy
import Derived.Deep.WholeRow
/-
  Tables as functions: what a key means, which tables may be, a cell changed, the standard one. No walks here.
-/
namespace Go.Proofs.YtlfmbfecajhffaaDoor
open Go.RowKit

/-- A cell: its level, its key. -/
structure Cl where
  lv : Int
  v : Int
deriving DecidableEq

/-- A table: each function's cell, by its number. -/
abbrev Tb := Nat → Cl

/-- Its cells, one behind the other. -/
def cs (X : Tb) : List Value := (List.range 31).flatMap fun i => [.int .i64 (X i).lv, .int .u8 (X i).v]
abbrev tv (X : Tb) : Value := .agg (cs X).toArray
abbrev cv (c : Cl) : Value := .agg #[.int .i64 c.lv, .int .u8 c.v]

theorem pair_at0 {α β : Type} (f g : α → β) : ∀ (l : List α) (i : Nat), (l.flatMap fun a => [f a, g a])[i * 2]? = l[i]?.map f := by
  intro l
  induction l with
  | nil => intro i; simp
  | cons a l ih =>
    intro i
    cases i with
    | zero => simp
    | succ i =>
      have := ih i
      rw [List.flatMap_cons, show (i + 1) * 2 = i * 2 + 1 + 1 by omega]
      simpa using this
theorem pair_at1 {α β : Type} (f g : α → β) : ∀ (l : List α) (i : Nat), (l.flatMap fun a => [f a, g a])[i * 2 + 1]? = l[i]?.map g := by
  intro l
  induction l with
  | nil => intro i; simp
  | cons a l ih =>
    intro i
    cases i with
    | zero => simp
    | succ i =>
      have := ih i
      rw [List.flatMap_cons, show (i + 1) * 2 + 1 = i * 2 + 1 + 1 + 1 by omega]
      simpa using this

theorem cs_len (X : Tb) : (cs X).length = 62 := by simp [cs]; rfl
theorem cs_at0 (X : Tb) (i : Nat) (h : i < 31) : (cs X)[i * 2]? = some (.int .i64 (X i).lv) := by
  unfold cs
  rw [pair_at0 (fun i => Value.int .i64 (X i).lv) (fun i => Value.int .u8 (X i).v), List.getElem?_range h]
  rfl
theorem cs_at1 (X : Tb) (i : Nat) (h : i < 31) : (cs X)[i * 2 + 1]? = some (.int .u8 (X i).v) := by
  unfold cs
  rw [pair_at1 (fun i => Value.int .i64 (X i).lv) (fun i => Value.int .u8 (X i).v), List.getElem?_range h]
  rfl

theorem list_ext62 {l : List Value} {X : Tb} (hl : l.length = 62) (h0 : ∀ i, i < 31 → l[i * 2]? = some (.int .i64 (X i).lv)) (h1 : ∀ i, i < 31 → l[i * 2 + 1]? = some (.int .u8 (X i).v)) : l = cs X := by
  apply List.ext_getElem?
  intro j
  by_cases hj : j < 62
  · have hq : j = j / 2 * 2 ∨ j = j / 2 * 2 + 1 := by omega
    generalize j / 2 = q at hq
    rcases hq with rfl | rfl
    · rw [h0 q (by omega), cs_at0 X q (by omega)]
    · rw [h1 q (by omega), cs_at1 X q (by omega)]
  · rw [List.getElem?_eq_none (by omega), List.getElem?_eq_none (by rw [cs_len]; omega)]

theorem cs_congr {X Y : Tb} (h : ∀ i, i < 31 → X i = Y i) : cs X = cs Y :=
  list_ext62 (cs_len X) (fun i hi => by rw [cs_at0 X i hi, h i hi]) (fun i hi => by rw [cs_at1 X i hi, h i hi])
theorem cs_inj {X Y : Tb} (h : cs X = cs Y) : ∀ i, i < 31 → X i = Y i := fun i hi => by
  have a0 := cs_at0 X i hi
  have a1 := cs_at1 X i hi
  rw [h, cs_at0 Y i hi] at a0
  rw [h, cs_at1 Y i hi] at a1
  injection a0 with a0
  injection a1 with a1
  injection a0 with _ a0
  injection a1 with _ a1
  generalize X i = c at *
  generalize Y i = d at *
  cases c; cases d; simp_all

/-- A cell changed. -/
def tset (X : Tb) (f : Nat) (c : Cl) : Tb := fun j => if j = f then c else X j
theorem tset_at (X : Tb) (f : Nat) (c : Cl) : tset X f c f = c := by simp [tset]
theorem tset_ne (X : Tb) {f j : Nat} (c : Cl) (h : j ≠ f) : tset X f c j = X j := by simp [tset, h]

theorem cs_tset (X : Tb) (f : Nat) (hf : f < 31) (c : Cl) : ((cs X).set (f * 2) (.int .i64 c.lv)).set (f * 2 + 1) (.int .u8 c.v) = cs (tset X f c) := by
  refine list_ext62 (by simp [cs_len]) (fun i hi => ?_) (fun i hi => ?_)
  · rw [List.getElem?_set_ne (by omega)]
    by_cases h : i = f
    · subst h
      rw [List.getElem?_set_self (by rw [cs_len]; omega), tset_at]
    · rw [List.getElem?_set_ne (by omega), cs_at0 X i hi, tset_ne X c h]
  · by_cases h : i = f
    · subst h
      rw [List.getElem?_set_self (by rw [List.length_set, cs_len]; omega), tset_at]
    · rw [List.getElem?_set_ne (by omega), List.getElem?_set_ne (by omega), cs_at1 X i hi, tset_ne X c h]

/-- Are two tables the same? -/
def sameT (X Y : Tb) : Bool := (List.range 31).all fun i => decide (X i = Y i)
theorem sameT_iff {X Y : Tb} : sameT X Y = true ↔ ∀ i, i < 31 → X i = Y i := by simp [sameT]
theorem sameT_cs {X Y : Tb} : sameT X Y = true ↔ cs X = cs Y := ⟨fun h => cs_congr (sameT_iff.1 h), fun h => sameT_iff.2 (cs_inj h)⟩
theorem sameT_self (X : Tb) : sameT X X = true := sameT_iff.2 fun _ _ => rfl

/-- May a cell be? May a table? -/
def mayC (c : Cl) : Bool := decide (c = ⟨0, 0⟩) || (c.lv == 1 || c.lv == 2)
def mayT (X : Tb) : Bool := decide (X 0 = ⟨0, 0⟩) && (List.range 31).all fun i => mayC (X i)
theorem mayT_iff {X : Tb} : mayT X = true ↔ X 0 = ⟨0, 0⟩ ∧ ∀ i, i < 31 → mayC (X i) = true := by simp [mayT]

/-- Does a function have the key? -/
def has (X : Tb) (k : Int) (i : Nat) : Bool := (i != 0) && ((X i).lv != 0 && (X i).v == k)
/-- What a key means. -/
def firstF (X : Tb) (k : Int) : Nat := ((List.range 31).find? (has X k)).getD 0
def meanF (X : Tb) (k : Int) : Nat := if k = 13 then 31 else firstF X k

theorem first_none {X : Tb} {k : Int} (h : ∀ i, i < 31 → has X k i = false) : firstF X k = 0 := by
  unfold firstF
  rw [List.find?_eq_none.2 (fun i hi => by rw [h i (List.mem_range.1 hi)]; simp)]
  rfl
theorem first_some {X : Tb} {k : Int} {m : Nat} (hm : m < 31) (h : has X k m = true) (hl : ∀ i, i < m → has X k i = false) : firstF X k = m := by
  unfold firstF
  have : (List.range 31).find? (has X k) = some m := by
    rw [List.find?_eq_some_iff_append]
    refine ⟨h, List.range m, (List.range (30 - m)).map (m + 1 + ·), ?_, fun a ha => by simp [hl a (List.mem_range.1 ha)]⟩
    have e : 31 = (m + 1) + (30 - m) := by omega
    rw [e, List.range_add, List.range_succ]
    simp
  rw [this]
  rfl

/-- A key's meaning, told apart. -/
theorem mean_cases (X : Tb) (k : Int) : (k = 13 ∧ meanF X k = 31) ∨ (k ≠ 13 ∧ meanF X k = 0 ∧ ∀ i, i < 31 → has X k i = false) ∨
    (k ≠ 13 ∧ 1 ≤ meanF X k ∧ meanF X k < 31 ∧ has X k (meanF X k) = true ∧ ∀ i, i < meanF X k → has X k i = false) := by
  unfold meanF
  by_cases h : k = 13
  · simp [h]
  · rw [if_neg h]
    cases hf : (List.range 31).find? (has X k) with
    | none =>
      rw [List.find?_eq_none] at hf
      have h0 : ∀ i, i < 31 → has X k i = false := fun i hi => by simpa using hf i (List.mem_range.2 hi)
      exact .inr (.inl ⟨h, first_none h0, h0⟩)
    | some m =>
      have h1 := List.find?_some hf
      have h2 := List.mem_range.1 (List.mem_of_find?_eq_some hf)
      have e : firstF X k = m := by unfold firstF; rw [hf]; rfl
      refine .inr (.inr ⟨h, ?_, ?_, ?_, ?_⟩)
      · rw [e]
        rcases Nat.eq_zero_or_pos m with h0 | h0
        · subst h0; simp [has] at h1
        · exact h0
      · rw [e]; exact h2
      · rw [e]; exact h1
      · rw [e]
        intro i hi
        rw [List.find?_eq_some_iff_append] at hf
        obtain ⟨_, la, lb, hab, hn⟩ := hf
        have hlen : la.length = m := by
          have h5 : (List.range 31)[la.length]? = some m := by rw [hab]; simp
          obtain ⟨h6, h7⟩ := List.getElem?_eq_some_iff.1 h5
          simpa using h7
        have hi2 : la[i]? = some i := by
          have := congrArg (·[i]?) hab
          rw [List.getElem?_append_left (by omega), List.getElem?_range (by omega)] at this
          exact this.symm
        simpa using hn i (List.mem_of_getElem? hi2)

theorem mean_le (X : Tb) (k : Int) : meanF X k ≤ 31 := by rcases mean_cases X k with ⟨_, h⟩ | ⟨_, h, _⟩ | ⟨_, _, h, _⟩ <;> omega
theorem has_iff {X : Tb} {k : Int} {i : Nat} : has X k i = true ↔ i ≠ 0 ∧ (X i).lv ≠ 0 ∧ (X i).v = k := by simp [has]
theorem has_no {X : Tb} {k : Int} {i : Nat} : has X k i = false ↔ ¬ (i ≠ 0 ∧ (X i).lv ≠ 0 ∧ (X i).v = k) := by rw [← has_iff]; simp

/-- A function's key that means it. -/
def keyF (X : Tb) (f : Int) : Int × Bool := if f = 31 then (13, true) else if 0 < f ∧ f < 31 ∧ meanF X (X f.toNat).v = f.toNat then ((X f.toNat).v, true) else (0, false)

/-- The standard table's keys, by their functions. -/
def stdR : List Int := [0, 0, 0, 3, 15, 20, 0, 28, 4, 26, 127, 21, 23, 18, 22, 17, 19, 0, 0, 2, 6, 25, 24, 1, 5, 9, 16, 8, 14, 29, 11]
def stdC (i : Nat) : Cl := if stdR.getD i 0 = 0 then ⟨0, 0⟩ else ⟨2, stdR.getD i 0⟩
def stdT : Tb := stdC
def zT : Tb := fun _ => ⟨0, 0⟩

end Go.Proofs.YtlfmbfecajhffaaDoor
/-
  Tables in memory: whole ones out of their blocks and into them, by law; a part of one; two of them, and two cells, compared. No conditions beyond those each theorem states.
-/
namespace Go.Proofs.YtlfmbfecajhffaaDoor
open Go.RowKit

/-- A block's cells; whether it is a row of n cells of type t, none of them frozen. -/
def rowOf (W : World) (b : Nat) : Array Value := match W.heap[b]? with
  | some (.cells cs _ _) => cs
  | _ => #[]
def isRow (W : World) (t b n : Nat) : Bool := match W.heap[b]? with
  | some (.cells cs t' fr) => decide (t' = t ∧ fr = (0, 0) ∧ cs.size = n)
  | _ => false

theorem isRow_sr {W : World} {t b n : Nat} (h : isRow W t b n = true) : W.heap[b]? = some (.cells (rowOf W b) t (0, 0)) ∧ (rowOf W b).size = n := by
  unfold isRow at h
  unfold rowOf
  split at h
  · rename_i cs t' fr e
    simp only [decide_eq_true_eq] at h
    obtain ⟨rfl, rfl, h3⟩ := h
    rw [e]
    exact ⟨rfl, h3⟩
  · cases h

/-- A row's cells, in two facts. -/
theorem SR.facts {t : TypeId} {W : World} {b : Nat} {cs : List Value} (h : SR t W b cs) (n : Nat) (hn : cs.length = n) : rowOf W b = cs.toArray ∧ isRow W t b n = true := by
  unfold SR at h
  simp [rowOf, isRow, h, hn]

/-- A pointer's block; whether it points to a row. -/
def ptrB : Value → Nat
  | .pointer (some ⟨b, 0, none⟩) => b
  | _ => 0
def okPtr (W : World) (t n : Nat) : Value → Bool
  | .pointer (some ⟨b, 0, none⟩) => isRow W t b n
  | _ => false
theorem ptrB_at (b : Nat) : ptrB (.pointer (some ⟨b, 0, none⟩)) = b := rfl
theorem okPtr_at (W : World) (t n b : Nat) : okPtr W t n (.pointer (some ⟨b, 0, none⟩)) = isRow W t b n := rfl
theorem okPtr_eq {W : World} {t n : Nat} {v : Value} (h : okPtr W t n v = true) : v = .pointer (some ⟨ptrB v, 0, none⟩) ∧ isRow W t (ptrB v) n = true := by
  unfold okPtr at h
  split at h
  · exact ⟨rfl, h⟩
  · cases h

/-- A struct's cells; whether they are n plain ones. -/
def aggC : Value → Array Value
  | .agg cs => cs
  | _ => #[]
def okAgg (n : Nat) : Value → Bool
  | .agg cs => decide (cs.size = n) && cs.all (·.oneCell')
  | _ => false
theorem aggC_at (cs : Array Value) : aggC (.agg cs) = cs := rfl
theorem okAgg_eq {n : Nat} {v : Value} (h : okAgg n v = true) : v = .agg (aggC v) ∧ (aggC v).size = n ∧ (aggC v).all (·.oneCell') = true := by
  unfold okAgg at h
  split at h
  · simp only [Bool.and_eq_true, decide_eq_true_eq] at h
    exact ⟨rfl, h.1, h.2⟩
  · cases h
theorem cs_one (X : Tb) : ∀ v ∈ cs X, v.oneCell' = true := by
  intro v hv
  unfold cs at hv
  simp only [List.mem_flatMap, List.mem_cons, List.not_mem_nil, or_false] at hv
  obtain ⟨i, _, rfl | rfl⟩ := hv <;> rfl
theorem agg62 (X : Tb) : okAgg 62 (tv X) = true := by
  have h := cs_one X
  simp [okAgg, cs_len]
  exact h

theorem info25 : (Tryd.prog.info? 25).map (·.size) = some 62 := by kernel_rfl

theorem ex_ld25 (ρ : Operand → Value) (dst : Option Tmp) (x : Operand) (ty : TypeId) (pos : String) (af : Array Edge) (gd : Option (Nat × Bool)) (W : World) (h : okPtr W 25 62 (ρ x) = true) :
    Sem.run Tryd.prog (execOp ρ ⟨dst, .load 25 x, ty, pos, af, gd⟩) W = .ok (.value (.agg (rowOf W (ptrB (ρ x))))) W := by
  obtain ⟨h1, h2⟩ := okPtr_eq h
  obtain ⟨h3, h4⟩ := isRow_sr h2
  unfold execOp
  simp only []
  rw [h1]
  simp only [Instr.loadAt, Instr.sureAddr, Sem.run_bind, Sem.run_pure, Result.andThen_ok, ptrB_at]
  rw [run_loadVar_row W _ 25 25 _ (0, 0) _ h3 Tryd.underlying25 rfl (by rw [info25, h4])]
  rfl
theorem ex_st25 (ρ : Operand → Value) (dst : Option Tmp) (x y : Operand) (ty : TypeId) (pos : String) (af : Array Edge) (gd : Option (Nat × Bool)) (W : World) (h : okPtr W 25 62 (ρ x) = true) (hy : okAgg 62 (ρ y) = true) :
    Sem.run Tryd.prog (execOp ρ ⟨dst, .store 25 x y, ty, pos, af, gd⟩) W = .ok .skip (W.setRow (ptrB (ρ x)) (aggC (ρ y))) := by
  obtain ⟨h1, h2⟩ := okPtr_eq h
  obtain ⟨h3, h4⟩ := isRow_sr h2
  obtain ⟨k1, k2, k3⟩ := okAgg_eq hy
  unfold execOp
  simp only []
  rw [h1, k1]
  simp only [Instr.storeAt, Instr.sureAddr, Sem.run_bind, Sem.run_pure, Result.andThen_ok, ptrB_at, aggC_at]
  rw [run_storeVar_row W _ 25 25 _ _ h3 (by rw [info25, k2]) (by rw [h4, k2]) k3]
  rfl

theorem zero25 : (Tryd.prog.info? 25).map (fun i => i.zero) = some (some (.agg (cs zT).toArray)) := by kernel_rfl
/-- A new table. -/
theorem ex_al25 (ρ : Operand → Value) (dst : Option Tmp) (ty : TypeId) (pos : String) (af : Array Edge) (gd : Option (Nat × Bool)) (W : World) :
    Sem.run Tryd.prog (execOp ρ ⟨dst, .alloc 25, ty, pos, af, gd⟩) W = .ok (.value (.pointer (some ⟨W.heap.size, 0, none⟩))) (W.alloc (.cells (cs zT).toArray 25)) := by
  have h := zero25
  cases hq : Tryd.prog.info? 25 with
  | none => rw [hq] at h; cases h
  | some i =>
    rw [hq] at h
    simp only [Option.map_some, Option.some.injEq] at h
    unfold execOp
    simp [Instr.alloc, zeroValue, typeInfo, hq, h, newVar, newRow, Value.cells, go_sem]
/-- No table at all. -/
theorem ex_bu25 (ρ : Operand → Value) (dst : Option Tmp) (ty : TypeId) (pos : String) (af : Array Edge) (gd : Option (Nat × Bool)) (W : World) :
    Sem.run Tryd.prog (execOp ρ ⟨dst, .build 25 #[], ty, pos, af, gd⟩) W = .ok (.value (tv zT)) W := by
  have h := zero25
  cases hq : Tryd.prog.info? 25 with
  | none => rw [hq] at h; cases h
  | some i =>
    rw [hq] at h
    simp only [Option.map_some, Option.some.injEq] at h
    unfold execOp
    simp [zeroValue, typeInfo, hq, h, go_sem]

/-- A part of a table, by its place. -/
def idx31 : Value → Value → Value
  | .agg cs, .int _ n => .agg (cs.extract (n.toNat * 2) (n.toNat * 2 + 2))
  | _, _ => undef
def okIdx : Value → Value → Bool
  | .agg cs, .int .i64 n => decide (cs.size = 62 ∧ 0 ≤ n ∧ n < 31)
  | _, _ => false
theorem idx_facts (X : Tb) (n : Nat) (h : n < 31) : okIdx (tv X) (.int .i64 (n : Int)) = true ∧ idx31 (tv X) (.int .i64 (n : Int)) = cv (X n) := by
  refine ⟨by simp [okIdx, cs_len]; omega, ?_⟩
  have e : (cs X).toArray.extract ((n : Int).toNat * 2) ((n : Int).toNat * 2 + 2) = #[.int .i64 (X n).lv, .int .u8 (X n).v] := by
    rw [Int.toNat_natCast]
    apply Array.ext'
    simp only [List.extract_toArray, List.extract_eq_take_drop, Nat.add_sub_cancel_left]
    have a0 := cs_at0 X n h
    have a1 := cs_at1 X n h
    obtain ⟨l0, e0⟩ := List.getElem?_eq_some_iff.1 a0
    obtain ⟨l1, e1⟩ := List.getElem?_eq_some_iff.1 a1
    rw [List.drop_eq_getElem_cons l0, List.drop_eq_getElem_cons l1, e0, e1]
    rfl
  show Value.agg _ = _
  rw [e]
theorem ex_ix25 (ρ : Operand → Value) (dst : Option Tmp) (x i : Operand) (ty : TypeId) (pos : String) (af : Array Edge) (gd : Option (Nat × Bool)) (W : World) (h : okIdx (ρ x) (ρ i) = true) :
    Sem.run Tryd.prog (execOp ρ ⟨dst, .index 25 x i, ty, pos, af, gd⟩) W = .ok (.value (idx31 (ρ x) (ρ i))) W := by
  unfold execOp
  simp only []
  generalize ρ x = v at *
  generalize ρ i = u at *
  unfold okIdx at h
  split at h
  · rename_i cs n
    simp only [decide_eq_true_eq] at h
    obtain ⟨h1, h2, h3⟩ := h
    have hs : ∀ W : World, (sizeOf 23).run Tryd.prog W = .ok 2 W := fun W => by kernel_rfl
    have ha : ∀ W : World, (isAgg 23).run Tryd.prog W = .ok true W := fun W => by kernel_rfl
    simp [Instr.index, asIntOf, run_underlying Tryd.underlying25, h2, h3, part, hs, ha, idx31]
  · cases h

/-- Two values compared. -/
noncomputable def eqV (u v : Value) : Bool := @decide (u = v) (Classical.propDecidable _)
theorem eqV_iff {u v : Value} : eqV u v = true ↔ u = v := by simp [eqV]
def isC : Value → Bool
  | .agg cs => match cs.toList with
    | [.int .i64 _, .int .u8 _] => true
    | _ => false
  | _ => false
theorem isC_at (a b : Int) : isC (.agg #[.int .i64 a, .int .u8 b]) = true := rfl
theorem isC_eq {v : Value} (h : isC v = true) : ∃ c : Cl, v = cv c := by
  unfold isC at h
  split at h
  · rename_i cs
    split at h
    · rename_i a b e
      refine ⟨⟨a, b⟩, ?_⟩
      have : cs = cs.toList.toArray := by simp
      rw [this, e]
    · cases h
  · cases h
theorem eqV_c (a b c d : Int) : eqV (.agg #[.int .i64 a, .int .u8 b]) (.agg #[.int .i64 c, .int .u8 d]) = (a == c && b == d) := by
  rw [Bool.eq_iff_iff, eqV_iff]
  simp
noncomputable def isT (v : Value) : Bool := @decide (∃ X, v = tv X) (Classical.propDecidable _)
theorem isT_at (X : Tb) : isT (tv X) = true := by simp only [isT, decide_eq_true_eq]; exact ⟨X, rfl⟩
theorem isT_eq {v : Value} (h : isT v = true) : ∃ X, v = tv X := by simpa [isT] using h
theorem eqV_t (X Y : Tb) : eqV (tv X) (tv Y) = sameT X Y := by
  rw [Bool.eq_iff_iff, eqV_iff, sameT_cs]
  simp

theorem grd23 : Tryd.prog.eqGuardType Tryd.prog.depth 23 = false := by kernel_rfl
theorem grd25 : Tryd.prog.eqGuardType Tryd.prog.depth 25 = false := by kernel_rfl

theorem eq23 (d : Nat) (c e : Cl) (W : World) : Sem.run Tryd.prog (Op.equalIn (d + 2) 23 (cv c) (cv e)) W = .ok (decide (c = e)) W := by
  rw [run_equalIn_agg W (d + 1) 23 _ _ (by kernel_rfl) (by kernel_rfl)]
  have hf : (Tryd.prog.fieldsOf 23).toList = [{ name := "Level", type := 3, offset := 0, embedded := false, tag := "", pkgPath := "", byteOffset := 0 }, { name := "V", type := 5, offset := 1, embedded := false, tag := "", pkgPath := "", byteOffset := 8 }] := by kernel_rfl
  rw [hf]
  obtain ⟨a, b⟩ := c
  obtain ⟨a', b'⟩ := e
  have : decide ((⟨a, b⟩ : Cl) = ⟨a', b'⟩) = (a == a' && b == b') := by rw [Bool.eq_iff_iff]; simp
  rw [this]
  cases h1 : a == a'
  · simp [Op.eqFields, part, go_sem, h1]
  cases h2 : b == b'
  · simp [Op.eqFields, part, go_sem, h1, h2]
  simp [Op.eqFields, part, go_sem, h1, h2]

theorem cells23 : Tryd.prog.cellsOf 23 = 2 := by kernel_rfl
theorem info23 : (Tryd.prog.info? 23).isSome = true := by kernel_rfl

theorem items25 (X Y : Tb) (W : World) : ∀ l : List Nat, (∀ i ∈ l, i < 31) → Sem.run Tryd.prog (Op.eqItems 9999 23 2 (cs X).toArray (cs Y).toArray l) W = .ok (l.all fun i => decide (X i = Y i)) W := by
  intro l
  induction l with
  | nil => intro _; simp [Op.eqItems]
  | cons i l ih =>
    intro h
    have hi := h i (List.mem_cons_self ..)
    have hs : ∀ W : World, (sizeOf 23).run Tryd.prog W = .ok 2 W := fun W => by kernel_rfl
    have ha : ∀ W : World, (isAgg 23).run Tryd.prog W = .ok true W := fun W => by kernel_rfl
    have p : ∀ X : Tb, (part 23 (cs X).toArray (i * 2)).run Tryd.prog W = .ok (cv (X i)) W := fun X => by
      have := (idx_facts X i hi).2
      simp only [idx31] at this
      simp only [Int.toNat_natCast] at this
      simp only [part, Sem.run_bind, ha, Result.andThen_ok, hs, Sem.run_pure, if_true]
      rw [← this]
    have ih' := ih fun j hj => h j (List.mem_cons_of_mem _ hj)
    simp only [Op.eqItems, Sem.run_bind, p, Result.andThen_ok, eq23 9997]
    cases hd : decide (X i = Y i)
    · simp [hd]
    · simp [hd, ih']

theorem eq25 (X Y : Tb) (W : World) : Sem.run Tryd.prog (Op.equalIn 10000 25 (tv X) (tv Y)) W = .ok (sameT X Y) W := by
  obtain ⟨i, hi⟩ := Option.isSome_iff_exists.1 info23
  rw [run_equalIn_array W 9999 _ _ Tryd.underlying25 hi, cells23]
  exact items25 X Y W (List.range 31) fun i hi => List.mem_range.1 hi

theorem ex_eq25 (ρ : Operand → Value) (dst : Option Tmp) (x y : Operand) (t' ty : TypeId) (pos : String) (af : Array Edge) (gd : Option (Nat × Bool)) (W : World) (h : isT (ρ x) = true) (hy : isT (ρ y) = true) :
    Sem.run Tryd.prog (execOp ρ ⟨dst, .binOp .eql 25 x y t', ty, pos, af, gd⟩) W = .ok (.value (.bool (eqV (ρ x) (ρ y)))) W := by
  obtain ⟨X, hX⟩ := isT_eq h
  obtain ⟨Y, hY⟩ := isT_eq hy
  unfold execOp
  simp only []
  rw [hX, hY, eqV_t]
  simp only [Sem.run_bind, run_eqGuard_agg W _ _ _ _ _ _ grd25, Result.andThen_ok, run_eql_struct, eq25, Sem.run_pure]
theorem ex_ne25 (ρ : Operand → Value) (dst : Option Tmp) (x y : Operand) (t' ty : TypeId) (pos : String) (af : Array Edge) (gd : Option (Nat × Bool)) (W : World) (h : isT (ρ x) = true) (hy : isT (ρ y) = true) :
    Sem.run Tryd.prog (execOp ρ ⟨dst, .binOp .neq 25 x y t', ty, pos, af, gd⟩) W = .ok (.value (.bool (!eqV (ρ x) (ρ y)))) W := by
  obtain ⟨X, hX⟩ := isT_eq h
  obtain ⟨Y, hY⟩ := isT_eq hy
  unfold execOp
  simp only []
  rw [hX, hY, eqV_t]
  simp only [Sem.run_bind, run_eqGuard_agg W _ _ _ _ _ _ grd25, Result.andThen_ok, run_neq_struct, eq25, Sem.run_pure]
theorem eqV_cv (c e : Cl) : eqV (cv c) (cv e) = decide (c = e) := by
  rw [eqV_c, Bool.eq_iff_iff]
  obtain ⟨a, b⟩ := c
  obtain ⟨a', b'⟩ := e
  simp
theorem ex_eq23 (ρ : Operand → Value) (dst : Option Tmp) (x y : Operand) (t' ty : TypeId) (pos : String) (af : Array Edge) (gd : Option (Nat × Bool)) (W : World) (h : isC (ρ x) = true) (hy : isC (ρ y) = true) :
    Sem.run Tryd.prog (execOp ρ ⟨dst, .binOp .eql 23 x y t', ty, pos, af, gd⟩) W = .ok (.value (.bool (eqV (ρ x) (ρ y)))) W := by
  obtain ⟨X, hX⟩ := isC_eq h
  obtain ⟨Y, hY⟩ := isC_eq hy
  unfold execOp
  simp only []
  rw [hX, hY, eqV_cv]
  simp only [Sem.run_bind, run_eqGuard_agg W _ _ _ _ _ _ grd23, Result.andThen_ok, run_eql_struct, eq23 9998, Sem.run_pure]
theorem ex_ne23 (ρ : Operand → Value) (dst : Option Tmp) (x y : Operand) (t' ty : TypeId) (pos : String) (af : Array Edge) (gd : Option (Nat × Bool)) (W : World) (h : isC (ρ x) = true) (hy : isC (ρ y) = true) :
    Sem.run Tryd.prog (execOp ρ ⟨dst, .binOp .neq 23 x y t', ty, pos, af, gd⟩) W = .ok (.value (.bool (!eqV (ρ x) (ρ y)))) W := by
  obtain ⟨X, hX⟩ := isC_eq h
  obtain ⟨Y, hY⟩ := isC_eq hy
  unfold execOp
  simp only []
  rw [hX, hY, eqV_cv]
  simp only [Sem.run_bind, run_eqGuard_agg W _ _ _ _ _ _ grd23, Result.andThen_ok, run_neq_struct, eq23 9998, Sem.run_pure]

/-- Block b is the table X. -/
abbrev TB (W : World) (b : Nat) (X : Tb) : Prop := SR 25 W b (cs X)
theorem TB.facts {W : World} {b : Nat} {X : Tb} (h : TB W b X) : rowOf W b = (cs X).toArray ∧ isRow W 25 b 62 = true := SR.facts h 62 (cs_len X)
theorem TB.at {W : World} {b : Nat} {X : Tb} (h : TB W b X) (i : Nat) (hi : i < 31) : W.cell? ⟨b, i * 2, none⟩ = some (.int .i64 (X i).lv) ∧ W.cell? ⟨b, i * 2 + 1, none⟩ = some (.int .u8 (X i).v) :=
  ⟨(SR.cell h _).trans (cs_at0 X i hi), (SR.cell h _).trans (cs_at1 X i hi)⟩
theorem TB.put {W : World} {b : Nat} {X : Tb} (h : TB W b X) (i : Nat) (hi : i < 31) (c : Cl) : TB ((W.setCell ⟨b, i * 2, none⟩ (.int .i64 c.lv)).setCell ⟨b, i * 2 + 1, none⟩ (.int .u8 c.v)) b (tset X i c) := by
  have := SR.set (SR.set h (i * 2) (.int .i64 c.lv)) (i * 2 + 1) (.int .u8 c.v)
  rw [cs_tset X i hi c] at this
  exact this
theorem SR.row {t : TypeId} {W : World} {b : Nat} {cs : List Value} (h : SR t W b cs) (cs' : List Value) : SR t (W.setRow b cs'.toArray) b cs' := setRow_heap W b _ _ t _ h
theorem bRow {a w : World} {b : Nat} (h : Below a.heap.size a w) (hb : a.heap.size ≤ b) (cs : Array Value) : Below a.heap.size a (w.setRow b cs) :=
  ⟨h.os, h.tape, h.output, by simpa [World.setRow] using h.size, fun k hk => (setRow_other w b k cs (by omega)).trans (h.block k hk)⟩
theorem SR.rowFar {t : TypeId} {W : World} {b b' : Nat} {cs : List Value} (h : SR t W b cs) (hb : b ≠ b') (cs' : Array Value) : SR t (W.setRow b' cs') b cs := (setRow_other W b' b cs' hb).trans h

end Go.Proofs.YtlfmbfecajhffaaDoor
/-
  The contracts of isFunction, mayBe, Check, Meaning. No conditions beyond those each theorem states.
-/
namespace Go.Proofs.YtlfmbfecajhffaaDoor
open Go.RowKit
set_option maxRecDepth 100000

attribute [local go_sem ↓] ex_ld25 ex_st25 ex_al25 ex_bu25 ex_ix25 ex_eq25 ex_ne25 ex_eq23 ex_ne23
attribute [local go_sem] ptrB_at okPtr_at aggC_at agg62 isC_at isT_at eqV_t eqV_c

theorem isFunction_any (f : Int) (w : World) : Calls Tryd.prog 103 #[.int .i64 f] w fun e w' => e = .returned (.bool (decide (0 < f ∧ f < 31))) ∧ w' = w := by
  by_cases h : 0 < f
  · have g1 : decide (0 < f) = true := decide_eq_true h
    go_enter Tryd.func103, Tryd.ntmps103
    go_wp2
    go_ret
    simp [h]
  · have g1 : decide (0 < f) = false := decide_eq_false h
    go_enter Tryd.func103, Tryd.ntmps103
    go_wp2
    go_ret
    simp

theorem one_new (w : World) (t : TypeId) (a : List Value) (W : World) (h : w.alloc (.cells a.toArray t) = W) : SR t W w.heap.size a ∧ Below w.heap.size w W ∧ W.heap.size = w.heap.size + 1 := by
  subst h
  exact ⟨SR.new t w a, bAlloc (Below.refl _ _) _, by simp⟩

theorem mayT_no {X : Tb} {k : Nat} (hk : k < 31) (h : mayC (X k) = false) : mayT X = false := by
  cases hm : mayT X
  · rfl
  · rw [(mayT_iff.1 hm).2 k hk] at h
    cases h

end Go.Proofs.YtlfmbfecajhffaaDoor
/-
  The contract of Meaning. No conditions beyond those each theorem states.
-/
namespace Go.Proofs.YtlfmbfecajhffaaDoor
open Go.RowKit
set_option maxRecDepth 100000

attribute [local go_sem ↓] ex_ld25 ex_st25 ex_al25 ex_bu25 ex_ix25 ex_eq25 ex_ne25 ex_eq23 ex_ne23
attribute [local go_sem] ptrB_at okPtr_at aggC_at agg62 isC_at isT_at eqV_t eqV_c

theorem has_bool (X : Tb) (q : Int) (k : Nat) : has X q k = (!((k : Int) == 0) && (!((X k).lv == 0) && ((X k).v == q))) := by
  unfold has
  cases k <;> rfl

theorem meaning_any (X : Tb) (q : Int) (m : Nat) (hm : meanF X q = m) (w : World) : Calls Tryd.prog 51 #[tv X, .int .u8 q] w fun e w' => e = .returned (.int .i64 (m : Int)) ∧ Below w.heap.size w w' := by
  have HM := keepd hm
  clear hm
  go_enter Tryd.func51, Tryd.ntmps51
  go_upto_region 1 with fail
  generalize hW : w.alloc (.cells (cs X).toArray 25) = W
  obtain ⟨h1, h2, h3⟩ := one_new _ _ _ _ hW
  clear hW
  obtain ⟨r1, k1⟩ := TB.facts h1
  have HB := keepd h2
  clear h1 h2
  by_cases h13 : q = 13
  · subst h13
    have hm : m = 31 := HM.out.symm.trans (by simp [meanF])
    subst hm
    go_wp2
    go_returns
    exact ⟨rfl, HB.out⟩
  · have g13 : (q == 13) = false := by simpa using h13
    have HF : Hid (firstF X q = m) := by
      have := HM.out
      unfold meanF at this
      rw [if_neg h13] at this
      exact this
    clear HM h13
    go_wp2_with fail
    go_loopw [10] (fun vi wr => ∃ k : Nat, k ≤ 31 ∧ vi = .int .i64 k ∧ Hid (∀ i, i < k → has X q i = false) ∧ Hid (Below w.heap.size w wr)) (fun vi _ => 31 - (intOf vi).toNat)
    case atStart => exact ⟨0, by omega, rfl, fun i hi => by omega, HB⟩
    case round =>
      obtain ⟨k, hk, rfl, HT, HB⟩ := hrel
      clear r1 k1 h3 g13
      by_cases hlt : k < 31
      · obtain ⟨i1, i2⟩ := idx_facts X k hlt
        have hh := has_bool X q k
        have HX : Hid (has X q k = false → Hid (∀ i, i < k + 1 → has X q i = false)) := fun e i hi => by
          by_cases hik : i = k
          · subst hik; exact e
          · exact HT.out i (by omega)
        have HY : Hid (has X q k = true → k = m) := fun e => (first_some hlt e HT.out).symm.trans HF.out
        generalize has X q k = b at *
        generalize X k = c at *
        cases g1 : ((k : Int) == 0)
        · have p1 : ¬ k = 0 := by intro e; subst e; simp at g1
          have n1 : ((k : Int) != 0) = true := by rw [bne, g1]; rfl
          cases g2 : (c.lv == 0)
          · have p2 : ¬ c.lv = 0 := by simpa using g2
            have n2 : (c.lv != 0) = true := by rw [bne, g2]; rfl
            cases g3 : (c.v == q)
            · have p3 : ¬ c.v = q := by simpa using g3
              have HH : b = false := by rw [hh, g1, g2, g3]; rfl
              clear hh
              go_wp2_with fail
              have HB2 := keepd (fun o => bAlloc HB.out o)
              go_roundw
              case rel => exact ⟨k + 1, by omega, by go_num, HX.out HH, HB2.out _⟩
              case measure => simp [intOf]; omega
            · have p3 : c.v = q := by simpa using g3
              have HH : b = true := by rw [hh, g1, g2, g3]; rfl
              clear hh
              have hkm := HY.out HH
              subst hkm
              go_wp2_with fail
              have HB2 := keepd (fun o => bAlloc HB.out o)
              go_returns
              exact ⟨rfl, HB2.out _⟩
          · have p2 : c.lv = 0 := by simpa using g2
            have HH : b = false := by rw [hh, g1, g2]; rfl
            clear hh
            go_wp2_with fail
            have HB2 := keepd (fun o => bAlloc HB.out o)
            go_roundw
            case rel => exact ⟨k + 1, by omega, by go_num, HX.out HH, HB2.out _⟩
            case measure => simp [intOf]; omega
        · have p1 : (k : Int) = 0 := by simpa using g1
          rw [p1] at i1 i2
          have HH : b = false := by rw [hh, g1]; rfl
          obtain rfl : k = 0 := by omega
          clear hh
          go_wp2_with fail
          have HB2 := keepd (fun o => bAlloc HB.out o)
          go_roundw
          case rel => exact ⟨1, by omega, by go_num, HX.out HH, HB2.out _⟩
          case measure => simp [intOf]
      · obtain rfl : k = 31 := by omega
        have hm : m = 0 := HF.out.symm.trans (first_none HT.out)
        subst hm
        go_wp2
        go_returns
        exact ⟨rfl, HB.out⟩

end Go.Proofs.YtlfmbfecajhffaaDoor
/-
  The contract of Key. No conditions beyond those each theorem states.
-/
namespace Go.Proofs.YtlfmbfecajhffaaDoor
open Go.RowKit
set_option maxRecDepth 100000

attribute [local go_sem ↓] ex_ld25 ex_st25 ex_al25 ex_bu25 ex_ix25 ex_eq25 ex_ne25 ex_eq23 ex_ne23
attribute [local go_sem] ptrB_at okPtr_at aggC_at agg62 isC_at isT_at eqV_t eqV_c

theorem SR.drew {t : TypeId} {W : World} {b : Nat} {cs : List Value} (h : SR t W b cs) : SR t W.drew b cs := h
theorem TB.range {V : World} {b : Nat} {X : Tb} (h : TB V b X) : V.rangeAt b 0 (cs X) := fun j v hv => by
  rw [Nat.zero_add, SR.cell h]
  exact hv
theorem tS {V : World} {b : Nat} {X : Tb} (h : TB V b X) {n : Nat} {c : Cl} (hn : n < 31) (hc : Hid (X n = c)) : V.rangeAt b 0 (cs X) ∧ V.cell? ⟨b, n * 2, none⟩ = some (.int .i64 c.lv) ∧ V.cell? ⟨b, n * 2 + 1, none⟩ = some (.int .u8 c.v) := by
  have h2 := TB.at h n hn
  rw [hc.out] at h2
  exact ⟨TB.range h, h2.1, h2.2⟩
theorem infoCs (X : Tb) : (Tryd.prog.info? 25).map (·.size) = some (cs X).length := by rw [info25, cs_len]

theorem key_any (X : Tb) (f : Int) (k : Int) (b : Bool) (hk : keyF X f = (k, b)) (w : World) : Calls Tryd.prog 82 #[tv X, .int .i64 f] w fun e w' => e = .returned (.tuple #[.int .u8 k, .bool b]) ∧ Below w.heap.size w w' := by
  have HK := keepd hk
  clear hk
  go_enter Tryd.func82, Tryd.ntmps82
  go_upto_region 1 with fail
  generalize hW : w.alloc (.cells (cs X).toArray 25) = W
  obtain ⟨h1, h2, h3⟩ := one_new _ _ _ _ hW
  clear hW
  obtain ⟨r1, k1⟩ := TB.facts h1
  have HT := keepd h1
  have HB := keepd h2
  clear h1 h2
  by_cases h31 : f = 31
  · subst h31
    have e := HK.out
    simp only [keyF, if_true, Prod.mk.injEq] at e
    obtain ⟨rfl, rfl⟩ := e
    go_wp2
    go_returns
    exact ⟨rfl, HB.out⟩
  have g31 : (f == 31) = false := by simpa using h31
  have HI := keepd (isFunction_any f)
  by_cases hf : 0 < f ∧ f < 31
  · obtain ⟨n, rfl⟩ : ∃ n : Nat, f = n := ⟨f.toNat, by omega⟩
    have hn : n < 31 := by omega
    obtain ⟨c0, c1⟩ := TB.at HT.out n hn
    have hd : decide (0 < (n : Int) ∧ (n : Int) < 31) = true := decide_eq_true hf
    rw [hd] at HI
    have e := HK.out
    unfold keyF at e
    rw [if_neg h31, Int.toNat_natCast] at e
    have HE := keepd e
    clear hd e HK h31
    obtain ⟨c, hc⟩ : ∃ c, X n = c := ⟨_, rfl⟩
    rw [hc] at c0 c1 HE
    have HC := keepd hc
    clear hc
    obtain ⟨m, hm⟩ : ∃ m, meanF X c.v = m := ⟨_, rfl⟩
    have HM := keepd (meaning_any X c.v m hm)
    rw [hm] at HE
    clear hm
    by_cases hmn : m = n
    · have e := HE.out
      rw [if_pos ⟨hf.1, hf.2, hmn⟩, Prod.mk.injEq] at e
      obtain ⟨rfl, rfl⟩ := e
      subst hmn
      clear HE hf
      go_wp2_with fail
      have hu := Tryd.underlying25
      have hi := infoCs X
      have i0 : (0 : Int) ≤ (m : Int) := by omega
      have i1 : (m : Int) < 31 := by omega
      go_region_held3 (fun V => V.rangeAt w.heap.size 0 (cs X) ∧ V.cell? ⟨w.heap.size, m * 2, none⟩ = some (.int .i64 c.lv) ∧ V.cell? ⟨w.heap.size, m * 2 + 1, none⟩ = some (.int .u8 c.v))
        ((refine tS ?_ hn HC; repeat (first | assumption | exact HT.out | with_reducible refine SR.drew ?_)))
        (first | (go_at_call 103; (with_reducible refine (HI.out _).mono ?_); rintro e w4 ⟨rfl, rfl⟩)
               | (go_at_call 51; (with_reducible refine (HM.out _).mono ?_); rintro e w5 ⟨rfl, hb5⟩; have hbb : Below W.heap.size W w5 := noDrew hb5; have hq := HT.out.call hbb HT.out.lt))
      have HB5 := keepd (bCall HB.out hbb)
      obtain ⟨d0, d1⟩ := TB.at hq m hn
      rw [HC.out] at d0 d1
      clear hbb hb5 c0 c1 r1 k1
      go_wp2
      go_returns
      exact ⟨rfl, HB5.out⟩
    · have e := HE.out
      rw [if_neg (fun h => hmn h.2.2), Prod.mk.injEq] at e
      obtain ⟨rfl, rfl⟩ := e
      have gmn : ((m : Int) == (n : Int)) = false := by simp; omega
      clear HE hf
      go_wp2_with fail
      have hu := Tryd.underlying25
      have hi := infoCs X
      have i0 : (0 : Int) ≤ (n : Int) := by omega
      have i1 : (n : Int) < 31 := by omega
      go_region_held3 (fun V => V.rangeAt w.heap.size 0 (cs X) ∧ V.cell? ⟨w.heap.size, n * 2, none⟩ = some (.int .i64 c.lv) ∧ V.cell? ⟨w.heap.size, n * 2 + 1, none⟩ = some (.int .u8 c.v))
        ((refine tS ?_ hn HC; repeat (first | assumption | exact HT.out | with_reducible refine SR.drew ?_)))
        (first | (go_at_call 103; (with_reducible refine (HI.out _).mono ?_); rintro e w4 ⟨rfl, rfl⟩)
               | (go_at_call 51; (with_reducible refine (HM.out _).mono ?_); rintro e w5 ⟨rfl, hb5⟩; have hbb : Below W.heap.size W w5 := noDrew hb5; have hq := HT.out.call hbb HT.out.lt))
      have HB5 := keepd (bCall HB.out hbb)
      clear hbb hb5 c0 c1 r1 k1
      go_wp2
      go_returns
      exact ⟨rfl, HB5.out⟩
  · have hd : decide (0 < f ∧ f < 31) = false := decide_eq_false hf
    rw [hd] at HI
    have e := HK.out
    unfold keyF at e
    rw [if_neg h31, if_neg (fun h => hf ⟨h.1, h.2.1⟩), Prod.mk.injEq] at e
    obtain ⟨rfl, rfl⟩ := e
    clear hd HK hf
    go_wp2_with fail
    go_quiet ((go_at_call 103; exact Calls.quiet_of_same (HI.out _)))
    go_wp2
    go_returns
    exact ⟨rfl, bDrewN HB.out _⟩

end Go.Proofs.YtlfmbfecajhffaaDoor
/-
  The contract of With. No conditions beyond those each theorem states.
-/
namespace Go.Proofs.YtlfmbfecajhffaaDoor
open Go.RowKit
theorem isRow_new (W : World) (X : Tb) : isRow (W.alloc (.cells (cs X).toArray 25)) 25 W.heap.size 62 = true := (TB.facts (SR.new 25 W (cs X))).2
end Go.Proofs.YtlfmbfecajhffaaDoor
namespace Go.Proofs.YtlfmbfecajhffaaDoor
open Go.RowKit
set_option maxRecDepth 100000

attribute [local go_sem ↓] ex_ld25 ex_st25 ex_al25 ex_bu25 ex_ix25 ex_eq25 ex_ne25 ex_eq23 ex_ne23
attribute [local go_sem] ptrB_at okPtr_at aggC_at agg62 isC_at isT_at eqV_t eqV_c isRow_new World.setRow_alloc_new

theorem results_c2 {fn : Func} {p t : Tmp} (h : fn.results = #[.cell p 25, .tmp t]) (tmps : Array Value) (w : World) (g : Nat) (X : Tb) (hp : tmps.getD p undef = .pointer (some ⟨g, 0, none⟩)) (hg : TB w g X) :
    (results fn tmps).run Tryd.prog w = .ok (.tuple #[tv X, tmps.getD t undef]) w := by
  have hp' : tmps[p]?.getD undef = .pointer (some ⟨g, 0, none⟩) := by simpa using hp
  simp [results, h, hp', asAddr, run_loadVar_row w g 25 25 _ (0, 0) _ hg Tryd.underlying25 rfl (by rw [info25]; simp [cs_len])]

/-- A table with another cell, and the error. -/
def withF (X : Tb) (f : Int) (c : Cl) : Tb × Int := if 0 < f ∧ f < 31 ∧ mayT (tset X f.toNat c) = true then (tset X f.toNat c, 0) else (X, 1)

theorem three_new (w : World) (X : Tb) (c : Cl) (W : World) (h : ((w.alloc (.cells (cs X).toArray 25)).alloc (.cells #[.int .i64 c.lv, .int .u8 c.v] 23)).alloc (.cells (cs zT).toArray 25) = W) :
    TB W w.heap.size X ∧ SR 23 W (w.heap.size + 1) [.int .i64 c.lv, .int .u8 c.v] ∧ TB W (w.heap.size + 1 + 1) zT ∧ Below w.heap.size w W ∧ W.heap.size = w.heap.size + 3 := by
  subst h
  exact ⟨((SR.new 25 w (cs X)).alloc _).alloc _, SR.alloc (t := 23) (cs := [.int .i64 c.lv, .int .u8 c.v]) (heap_alloc2_new w _ _) _, n4 w _ _ _, bAlloc (bAlloc (bAlloc (Below.refl _ _) _) _) _, by simp⟩

end Go.Proofs.YtlfmbfecajhffaaDoor
/-
  The standard table's keys in memory; the contract of Standard. No conditions beyond those each theorem states.
-/
namespace Go.Proofs.YtlfmbfecajhffaaDoor
open Go.RowKit
set_option maxRecDepth 100000

attribute [local go_sem ↓] ex_ld25 ex_st25 ex_al25 ex_bu25 ex_ix25 ex_eq25 ex_ne25 ex_eq23 ex_ne23
attribute [local go_sem] ptrB_at okPtr_at aggC_at agg62 isC_at isT_at eqV_t eqV_c isRow_new World.setRow_alloc_new

/-- Block 0 holds the standard table's keys. -/
def Laid (w : World) : Prop := (∀ i x, stdR[i]? = some x → w.cell? ⟨0, i, none⟩ = some (.int .u8 x)) ∧ 1 ≤ w.heap.size
theorem Laid.below {w w' : World} (h : Laid w) (hb : Below w.heap.size w w') : Laid w' :=
  ⟨fun i x hx => (hb.cell (p := ⟨0, i, none⟩) (Nat.lt_of_lt_of_le Nat.zero_lt_one h.2)).trans (h.1 i x hx), Nat.le_trans h.2 hb.size⟩
theorem Laid.alloc {w : World} (h : Laid w) (o : Obj) : Laid (w.alloc o) := h.below (bAlloc (Below.refl _ _) o)
theorem Laid.at {w : World} (h : Laid w) (k : Nat) (hk : k < 31) : w.cell? ⟨0, k, none⟩ = some (.int .u8 (stdR.getD k 0)) := by
  refine h.1 k _ ?_
  have hl : k < stdR.length := hk
  rw [List.getD_eq_getElem?_getD, List.getElem?_eq_getElem hl]
  rfl

/-- The standard table up to a function. -/
def uptoS (k : Nat) : Tb := fun j => if j < k then stdC j else ⟨0, 0⟩
theorem uptoS_zero : uptoS 0 = zT := by funext j; simp [uptoS, zT]
theorem uptoS_set (k : Nat) (h : stdR.getD k 0 ≠ 0) : tset (uptoS k) k ⟨2, stdR.getD k 0⟩ = uptoS (k + 1) := by
  funext j
  unfold tset uptoS
  by_cases hj : j = k
  · subst hj
    rw [if_pos rfl, if_pos (by omega)]
    unfold stdC
    rw [if_neg h]
  · rw [if_neg hj]
    by_cases h2 : j < k
    · rw [if_pos h2, if_pos (by omega)]
    · rw [if_neg h2, if_neg (by omega)]
theorem uptoS_not (k : Nat) (h : stdR.getD k 0 = 0) : uptoS k = uptoS (k + 1) := by
  funext j
  unfold uptoS
  by_cases hj : j = k
  · subst hj
    rw [if_neg (by omega), if_pos (by omega)]
    unfold stdC
    rw [if_pos h]
  · by_cases h2 : j < k
    · rw [if_pos h2, if_pos (by omega)]
    · rw [if_neg h2, if_neg (by omega)]
theorem uptoS_all : cs (uptoS 31) = cs stdT := cs_congr fun i hi => by simp [uptoS, stdT, hi]

theorem two_new (w : World) (X Y : Tb) (W : World) (h : (w.alloc (.cells (cs X).toArray 25)).alloc (.cells (cs Y).toArray 25) = W) :
    TB W w.heap.size X ∧ TB W (w.heap.size + 1) Y ∧ Below w.heap.size w W ∧ W.heap.size = w.heap.size + 2 := by
  subst h
  exact ⟨heap_alloc2_old w _ _, heap_alloc2_new w _ _, bAlloc (bAlloc (Below.refl _ _) _) _, by simp⟩

set_option maxHeartbeats 1000000 in
theorem standard_any (w : World) (hL : Laid w) : Calls Tryd.prog 40 #[] w fun e w' => e = .returned (tv stdT) ∧ Below w.heap.size w w' := by
  have HL := keepd hL
  have hL1 := hL.2
  clear hL
  go_enter Tryd.func40, Tryd.ntmps40
  go_upto_region 2 with fail
  generalize hW : (w.alloc (.cells (cs zT).toArray 25)).alloc (.cells (cs zT).toArray 25) = W
  obtain ⟨h1, h2, h3, h4⟩ := two_new _ _ _ _ hW
  clear hW
  rw [← uptoS_zero] at h2
  have H1 := keepd h1
  have H2 := keepd h2
  have HB := keepd h3
  clear h1 h2 h3 h4
  go_wp2_with fail
  go_loopw [4] (fun vi wr => ∃ k : Nat, k ≤ 31 ∧ vi = .int .i64 k ∧ Hid (TB wr w.heap.size zT) ∧ Hid (TB wr (w.heap.size + 1) (uptoS k)) ∧ Hid (Below w.heap.size w wr)) (fun vi _ => 31 - (intOf vi).toNat)
  case atStart => exact ⟨0, by omega, rfl, H1, H2, HB⟩
  case round =>
    obtain ⟨k, hk, rfl, H1, H2, HB⟩ := hrel
    by_cases hlt : k < 31
    · have hc := (HL.out.below HB.out).at k hlt
      obtain ⟨a0, a1⟩ := TB.at H2.out k hlt
      have f0 := SR.frozen H2.out (k * 2)
      have f1 := SR.frozen H2.out (k * 2 + 1)
      have HS := keepd (uptoS_set k)
      have HN := keepd (uptoS_not k)
      have i0 : (0 : Int) ≤ (k : Int) := by omega
      have i1 : (k : Int) < 31 := by omega
      generalize stdR.getD k 0 = q at *
      by_cases hq : q = 0
      · subst hq
        have H3 := H2
        rw [HN.out rfl] at H3
        go_wp2
        go_roundw
        case rel => exact ⟨k + 1, by omega, by go_num, H1, H3, HB⟩
        case measure => simp [intOf]; omega
      · have gq : (q == 0) = false := by simpa using hq
        have H3 := keepd (TB.put H2.out k hlt ⟨2, q⟩)
        rw [HS.out hq] at H3
        have q1 : w.heap.size ≠ w.heap.size + 1 := by omega
        have H4 := keepd (SR.far (p := ⟨w.heap.size + 1, k * 2 + 1, none⟩) (SR.far (p := ⟨w.heap.size + 1, k * 2, none⟩) H1.out q1 (.int .i64 2)) q1 (.int .u8 q))
        have HB2 := keepd (bSet (i := k * 2 + 1) (bSet (i := k * 2) HB.out (b := w.heap.size + 1) (by omega) (.int .i64 2)) (b := w.heap.size + 1) (by omega) (.int .u8 q))
        clear q1
        go_wp2
        go_roundw
        case rel => exact ⟨k + 1, by omega, by go_num, H4, H3, HB2⟩
        case measure => simp [intOf]; omega
    · obtain rfl : k = 31 := by omega
      obtain ⟨r1, k1⟩ := TB.facts H1.out
      obtain ⟨r2, k2⟩ := TB.facts H2.out
      rw [uptoS_all] at r2
      go_wp2_with fail
      exact bodyPost_ret (v := tv stdT) (results_cell_row Tryd.results40 _ _ w.heap.size 25 _ (0, 0) _ rfl (SR.row H1.out (cs stdT)) Tryd.underlying25 rfl (by rw [info25]; simp [cs_len])) rfl ⟨rfl, bRow HB.out (by omega) _⟩

end Go.Proofs.YtlfmbfecajhffaaDoor
/-
  The contract of awake. No conditions beyond those each theorem states.
-/
namespace Go.Proofs.YtlfmbfecajhffaaDoor
open Go.RowKit
set_option maxRecDepth 100000

attribute [local go_sem ↓] ex_ld25 ex_st25 ex_al25 ex_bu25 ex_ix25 ex_eq25 ex_ne25 ex_eq23 ex_ne23
attribute [local go_sem] ptrB_at okPtr_at aggC_at agg62 isC_at isT_at eqV_t eqV_c isRow_new World.setRow_alloc_new

def uT : Tb := tset stdT 11 ⟨2, 127⟩
def vT : Tb := tset uT 10 ⟨0, 0⟩
theorem w1_eq : withF stdT 11 ⟨2, 127⟩ = (uT, 0) := by
  unfold withF
  rw [if_pos ⟨by omega, by omega, by decide +kernel⟩]
  rfl
theorem w2_eq : withF uT 10 ⟨0, 0⟩ = (vT, 0) := by
  unfold withF
  rw [if_pos ⟨by omega, by omega, by decide +kernel⟩]
  rfl
theorem k1_eq : keyF stdT 10 = (127, true) := by decide +kernel
theorem m1_eq : meanF stdT 3 = 3 := by decide +kernel
theorem m2_eq : meanF stdT 127 = 10 := by decide +kernel
theorem m3_eq : meanF stdT 13 = 31 := by decide +kernel
theorem m4_eq : meanF stdT 97 = 0 := by decide +kernel
theorem m5_eq : meanF uT 127 = 10 := by decide +kernel
theorem m6_eq : meanF vT 127 = 11 := by decide +kernel

end Go.Proofs.YtlfmbfecajhffaaDoor
/-
  The law TableMeans. No conditions beyond those each theorem states.
-/
namespace Go.Proofs.YtlfmbfecajhffaaDoor
open Go.RowKit
set_option maxRecDepth 100000

attribute [local go_sem ↓] ex_ld25 ex_st25 ex_al25 ex_bu25 ex_ix25 ex_eq25 ex_ne25 ex_eq23 ex_ne23
attribute [local go_sem] ptrB_at okPtr_at aggC_at agg62 isC_at isT_at eqV_t eqV_c isRow_new World.setRow_alloc_new

theorem key_mean {X : Tb} {a : Int} {m : Nat} (hm : meanF X a = m) (h : m ≠ 0) : keyF X (m : Int) = (a, true) := by
  subst hm
  rcases mean_cases X a with ⟨h1, h2⟩ | ⟨_, h2, _⟩ | ⟨h1, h2, h3, h4, _⟩
  · rw [h2, h1]
    rfl
  · exact absurd h2 h
  · unfold keyF
    rw [if_neg (by omega), Int.toNat_natCast]
    have := (has_iff.1 h4).2.2
    rw [this, if_pos ⟨by omega, by omega, rfl⟩]

/-- A key's meaning: 0, or Enter, or a function that is kept, and has it. -/
theorem mean_ways {X : Tb} {a : Int} {m : Nat} (hm : meanF X a = m) : (m = 0 ∧ ¬ a = 13) ∨ (m = 31 ∧ a = 13) ∨ (0 < m ∧ m < 31 ∧ ¬ a = 13 ∧ ¬ (X m).lv = 0 ∧ (X m).v = a) := by
  subst hm
  rcases mean_cases X a with ⟨h1, h2⟩ | ⟨h1, h2, _⟩ | ⟨h1, h2, h3, h4, _⟩
  · exact .inr (.inl ⟨h2, h1⟩)
  · exact .inl ⟨h2, h1⟩
  · have := has_iff.1 h4
    exact .inr (.inr ⟨h2, h3, h1, this.2.1, this.2.2⟩)

theorem tB {V W : World} {b : Nat} {X : Tb} (h : TB W b X) (hb : Below W.heap.size W V) : rowOf V b = (cs X).toArray ∧ isRow V 25 b 62 = true ∧ Below W.heap.size W V := ⟨(TB.facts (SR.call h hb (SR.lt h))).1, (TB.facts (SR.call h hb (SR.lt h))).2, hb⟩

end Go.Proofs.YtlfmbfecajhffaaDoor
/-
  The law TableFirst. No conditions beyond those each theorem states.
-/
namespace Go.Proofs.YtlfmbfecajhffaaDoor
open Go.RowKit
set_option maxRecDepth 100000

attribute [local go_sem ↓] ex_ld25 ex_st25 ex_al25 ex_bu25 ex_ix25 ex_eq25 ex_ne25 ex_eq23 ex_ne23
attribute [local go_sem] ptrB_at okPtr_at aggC_at agg62 isC_at isT_at eqV_t eqV_c isRow_new World.setRow_alloc_new

/-- The lowest function above k that has the key, or 0. -/
def LowI (X : Tb) (q : Int) (k l : Nat) : Prop := (l = 0 ∧ ∀ j, k < j → j < 31 → has X q j = false) ∨ (k < l ∧ l < 31 ∧ has X q l = true ∧ ∀ j, k < j → j < l → has X q j = false)
theorem low_yes {X : Tb} {q : Int} {k : Nat} (hk : k < 31) (k0 : 1 ≤ k) (hh : has X q k = true) : LowI X q (k - 1) k :=
  .inr ⟨by omega, hk, hh, fun j h1 h2 => by omega⟩
theorem low_no {X : Tb} {q : Int} {k l : Nat} (h : LowI X q k l) (k0 : 1 ≤ k) (hh : has X q k = false) : LowI X q (k - 1) l := by
  rcases h with ⟨h1, h2⟩ | ⟨h1, h2, h3, h4⟩
  · refine .inl ⟨h1, fun j hj hj2 => ?_⟩
    by_cases e : j = k
    · subst e; exact hh
    · exact h2 j (by omega) hj2
  · refine .inr ⟨by omega, h2, h3, fun j hj hj2 => ?_⟩
    by_cases e : j = k
    · subst e; exact hh
    · exact h4 j (by omega) hj2
theorem has_zero (X : Tb) (q : Int) : has X q 0 = false := rfl
theorem low_end {X : Tb} {q : Int} {l : Nat} (h : LowI X q 0 l) : firstF X q = l := by
  rcases h with ⟨rfl, h2⟩ | ⟨h1, h2, h3, h4⟩
  · refine first_none fun i hi => ?_
    rcases Nat.eq_zero_or_pos i with e | e
    · subst e; rfl
    · exact h2 i e hi
  · refine first_some h2 h3 fun i hi => ?_
    rcases Nat.eq_zero_or_pos i with e | e
    · subst e; rfl
    · exact h4 i e hi
theorem key_out {X : Tb} {f : Int} (h : f < 1 ∨ 31 < f) : keyF X f = (0, false) := by
  unfold keyF
  rw [if_neg (by omega), if_neg (by omega)]
theorem key_none {X : Tb} {z : Nat} (hz : z < 31) (h : (X z).lv = 0) : keyF X (z : Int) = (0, false) := by
  unfold keyF
  rw [if_neg (by omega), Int.toNat_natCast, if_neg]
  rintro ⟨h1, _, h3⟩
  rcases mean_ways h3 with ⟨e, _⟩ | ⟨e, _⟩ | ⟨_, _, _, e, _⟩
  · omega
  · omega
  · exact e h

end Go.Proofs.YtlfmbfecajhffaaDoor
/-
  The contracts of the document's own May, Meaning. No conditions beyond those each theorem states.
-/
namespace Go.Proofs.YtlfmbfecajhffaaDoor
open Go.RowKit
set_option maxRecDepth 100000

attribute [local go_sem ↓] ex_ld25 ex_st25 ex_al25 ex_bu25 ex_ix25 ex_eq25 ex_ne25 ex_eq23 ex_ne23
attribute [local go_sem] ptrB_at okPtr_at aggC_at agg62 isC_at isT_at eqV_t eqV_c isRow_new World.setRow_alloc_new

/-- May a cell be there, as the document says it? -/
def mayR (i : Nat) (c : Cl) : Bool := !(decide (c.lv < 0) || (decide (2 < c.lv) || ((c.lv == 0 && !(c.v == 0)) || (((i : Int) == 0) && !(c.lv == 0)))))
theorem mayR_c {c : Cl} {i : Nat} (h : i ≠ 0) : mayR i c = mayC c := by
  obtain ⟨a, b⟩ := c
  rw [Bool.eq_iff_iff]
  simp [mayR, mayC]
  omega
theorem mayR_zero {c : Cl} : mayR 0 c = decide (c = ⟨0, 0⟩) := by
  obtain ⟨a, b⟩ := c
  rw [Bool.eq_iff_iff]
  simp [mayR]
  omega
theorem mayR_all (X : Tb) : mayT X = true ↔ ∀ i, i < 31 → mayR i (X i) = true := by
  rw [mayT_iff]
  constructor
  · rintro ⟨h0, h⟩ i hi
    rcases Nat.eq_zero_or_pos i with e | e
    · subst e; rw [mayR_zero]; exact decide_eq_true h0
    · rw [mayR_c (by omega)]; exact h i hi
  · intro h
    have h0 := h 0 (by omega)
    rw [mayR_zero, decide_eq_true_eq] at h0
    refine ⟨h0, fun i hi => ?_⟩
    rcases Nat.eq_zero_or_pos i with e | e
    · subst e; rw [h0]; rfl
    · rw [← mayR_c (i := i) (by omega)]; exact h i hi
theorem mayR_no {X : Tb} {k : Nat} (hk : k < 31) (h : mayR k (X k) = false) : mayT X = false := by
  cases hm : mayT X
  · rfl
  · rw [(mayR_all X).1 hm k hk] at h
    cases h

end Go.Proofs.YtlfmbfecajhffaaDoor
/-
  The contract of the document's own Meaning. No conditions beyond those each theorem states.
-/
namespace Go.Proofs.YtlfmbfecajhffaaDoor
open Go.RowKit
set_option maxRecDepth 100000

attribute [local go_sem ↓] ex_ld25 ex_st25 ex_al25 ex_bu25 ex_ix25 ex_eq25 ex_ne25 ex_eq23 ex_ne23
attribute [local go_sem] ptrB_at okPtr_at aggC_at agg62 isC_at isT_at eqV_t eqV_c isRow_new World.setRow_alloc_new

theorem first_lt (X : Tb) (q : Int) : firstF X q ≤ 30 := by
  unfold firstF
  cases hf : (List.range 31).find? (has X q) with
  | none => simp
  | some m =>
    have := List.mem_range.1 (List.mem_of_find?_eq_some hf)
    simp only [Option.getD_some]
    omega
/-- Does a function below g have the key? -/
def lowB (X : Tb) (q : Int) : Nat → Bool
  | 0 => false
  | g + 1 => lowB X q g || has X q g
theorem lowB_no {X : Tb} {q : Int} : ∀ {k : Nat}, lowB X q k = false → ∀ i, i < k → has X q i = false
  | 0, _, i, hi => by omega
  | k + 1, h, i, hi => by
    simp only [lowB, Bool.or_eq_false_iff] at h
    by_cases e : i = k
    · subst e; exact h.2
    · exact lowB_no h.1 i (by omega)
theorem lowB_yes {X : Tb} {q : Int} : ∀ {k : Nat}, lowB X q k = true → ∃ i, i < k ∧ has X q i = true
  | 0, h => by cases h
  | k + 1, h => by
    simp only [lowB, Bool.or_eq_true] at h
    rcases h with h | h
    · obtain ⟨i, hi, hh⟩ := lowB_yes h
      exact ⟨i, by omega, hh⟩
    · exact ⟨k, by omega, h⟩
theorem first_is {X : Tb} {q : Int} {k : Nat} (hk : k < 31) (h : has X q k = true) (hl : lowB X q k = false) : firstF X q = k := first_some hk h (lowB_no hl)
theorem first_not {X : Tb} {q : Int} {k : Nat} (h1 : 1 ≤ k) (hk : k < 31) (h : (has X q k && !lowB X q k) = false) (hle : firstF X q ≤ k) : firstF X q ≤ k - 1 := by
  by_cases e : firstF X q = k
  · exfalso
    have h2 : has X q k = true ∧ ∀ i, i < k → has X q i = false := by
      by_cases e13 : q = 13
      · subst e13
        unfold firstF at e
        cases hf : (List.range 31).find? (has X 13) with
        | none => rw [hf] at e; simp at e; omega
        | some m =>
          rw [hf] at e
          simp only [Option.getD_some] at e
          subst e
          refine ⟨List.find?_some hf, fun i hi => ?_⟩
          rw [List.find?_eq_some_iff_append] at hf
          obtain ⟨_, la, lb, hab, hn⟩ := hf
          have hlen : la.length = m := by
            have h5 : (List.range 31)[la.length]? = some m := by rw [hab]; simp
            obtain ⟨h6, h7⟩ := List.getElem?_eq_some_iff.1 h5
            simpa using h7
          have hi2 : la[i]? = some i := by
            have := congrArg (·[i]?) hab
            rw [List.getElem?_append_left (by omega), List.getElem?_range (by omega)] at this
            exact this.symm
          simpa using hn i (List.mem_of_getElem? hi2)
      · have hm : meanF X q = k := by unfold meanF; rw [if_neg e13]; exact e
        rcases mean_cases X q with ⟨h3, _⟩ | ⟨_, h3, _⟩ | ⟨_, _, _, h3, h4⟩
        · exact absurd h3 e13
        · omega
        · rw [hm] at h3 h4
          exact ⟨h3, h4⟩
    rw [h2.1, Bool.true_and] at h
    have h3 : lowB X q k = true := by simpa using h
    obtain ⟨i, hi, hh⟩ := lowB_yes h3
    rw [h2.2 i hi] at hh
    cases hh
  · omega

set_option maxHeartbeats 4000000 in
theorem refMeaning_any (X : Tb) (q : Int) (m : Nat) (hm : meanF X q = m) (w : World) : Calls Tryd.prog 37 #[tv X, .int .u8 q] w fun e w' => e = .returned (.int .i64 (m : Int)) ∧ Below w.heap.size w w' := by
  have HM := keepd hm
  clear hm
  go_enter Tryd.func37, Tryd.ntmps37
  go_upto_region 1 with fail
  generalize hW : w.alloc (.cells (cs X).toArray 25) = W
  obtain ⟨h1, h2, h3⟩ := one_new _ _ _ _ hW
  clear hW
  have HT := keepd h1
  have HB := keepd h2
  clear h1 h2 h3
  by_cases h13 : q = 13
  · subst h13
    have hm : m = 31 := HM.out.symm.trans (by simp [meanF])
    subst hm
    go_wp2
    go_returns
    exact ⟨rfl, HB.out⟩
  have g13 : (q == 13) = false := by simpa using h13
  have HF : Hid (firstF X q = m) := by
    have := HM.out
    unfold meanF at this
    rw [if_neg h13] at this
    exact this
  have HF0 := keepd (first_lt X q)
  clear HM h13
  go_wp2_with fail
  go_loopw [5] (fun vi wr => ∃ k : Nat, k < 31 ∧ vi = .int .i64 k ∧ Hid (firstF X q ≤ k) ∧ Hid (TB wr w.heap.size X) ∧ Hid (Below w.heap.size w wr)) (fun vi _ => (intOf vi).toNat)
  case atStart => exact ⟨30, by omega, rfl, HF0, HT, HB⟩
  case round =>
    clear HT HB HF0 g13
    obtain ⟨k, hk, rfl, HI, HT, HB⟩ := hrel
    by_cases k0 : 1 ≤ k
    · go_wp2_with fail
      go_loopw [6, 7] (fun vl vg wi => ∃ (b : Bool) (g : Nat), 1 ≤ g ∧ g ≤ k ∧ vl = .bool b ∧ vg = .int .i64 g ∧ Hid (lowB X q g = b) ∧ Hid (TB wi w.heap.size X) ∧ Hid (Below w.heap.size w wi)) (fun _ vg _ => k - (intOf vg).toNat)
      case atStart => exact ⟨false, 1, by omega, by omega, rfl, rfl, rfl, HT, HB⟩
      case round =>
        clear HT HB
        obtain ⟨b, g, hg1, hgk, rfl, rfl, HLo, HTi, HBi⟩ := hrel
        by_cases hlt : g < k
        · obtain ⟨c0, c1⟩ := TB.at HTi.out g (by omega)
          have i0 : (0 : Int) ≤ (g : Int) := by omega
          have i1 : (g : Int) < 31 := by omega
          have hlo : lowB X q (g + 1) = (lowB X q g || has X q g) := rfl
          have hh := has_bool X q g
          have g1 : ((g : Int) == 0) = false := by simp; omega
          rw [HLo.out, hh, g1] at hlo
          clear g1 hh HLo
          generalize X g = c at *
          cases b
          · cases s2 : (c.lv == 0)
            · have n2 : (c.lv != 0) = true := by rw [bne, s2]; rfl
              have p2 : ¬ c.lv = 0 := by simpa using s2
              cases s3 : (c.v == q)
              · have HS : Hid (lowB X q (g + 1) = false) := by show _ = _; rw [hlo, s2, s3]; rfl
                clear hlo
                go_wp2_with fail
                go_roundw
                case rel => exact ⟨false, g + 1, by omega, by omega, rfl, by go_num, HS, HTi, HBi⟩
                case measure => simp [intOf]; omega
              · have HS : Hid (lowB X q (g + 1) = true) := by show _ = _; rw [hlo, s2, s3]; rfl
                clear hlo
                go_wp2_with fail
                go_roundw
                case rel => exact ⟨true, g + 1, by omega, by omega, rfl, by go_num, HS, HTi, HBi⟩
                case measure => simp [intOf]; omega
            · have n2 : (c.lv != 0) = false := by rw [bne, s2]; rfl
              have HS : Hid (lowB X q (g + 1) = false) := by show _ = _; rw [hlo, s2]; rfl
              clear hlo
              go_wp2_with fail
              go_roundw
              case rel => exact ⟨false, g + 1, by omega, by omega, rfl, by go_num, HS, HTi, HBi⟩
              case measure => simp [intOf]; omega
          · have HS : Hid (lowB X q (g + 1) = true) := by show _ = _; rw [hlo]; rfl
            clear hlo
            go_wp2_with fail
            go_roundw
            case rel => exact ⟨true, g + 1, by omega, by omega, rfl, by go_num, HS, HTi, HBi⟩
            case measure => simp [intOf]; omega
        · obtain rfl : g = k := by omega
          obtain ⟨c0, c1⟩ := TB.at HTi.out g hk
          have i0 : (0 : Int) ≤ (g : Int) := by omega
          have i1 : (g : Int) < 31 := by omega
          have hh := has_bool X q g
          have g1 : ((g : Int) == 0) = false := by simp; omega
          rw [g1] at hh
          have HN : Hid ((has X q g && !b) = false → Hid (firstF X q ≤ g - 1)) := fun e => first_not hg1 hk (by rw [HLo.out]; exact e) HI.out
          have HY : Hid ((has X q g && !b) = true → g = m) := fun e => by
            rw [Bool.and_eq_true] at e
            exact (first_is hk e.1 (by rw [HLo.out]; simpa using e.2)).symm.trans HF.out
          generalize has X q g = hb at *
          generalize X g = c at *
          clear g1 HLo HI
          cases s2 : (c.lv == 0)
          · have n2 : (c.lv != 0) = true := by rw [bne, s2]; rfl
            have p2 : ¬ c.lv = 0 := by simpa using s2
            cases s3 : (c.v == q)
            · have H2 := keepd (HN.out (by rw [hh, s2, s3]; rfl))
              clear hh
              go_wp2_with fail
              go_roundw
              case rel => exact ⟨g - 1, by omega, int_eq (by omega), H2.out, HTi, HBi⟩
              case measure => simp [intOf]; omega
            · cases b
              · have hm := HY.out (by rw [hh, s2, s3]; rfl)
                subst hm
                clear hh
                go_wp2
                go_returns
                exact ⟨rfl, HBi.out⟩
              · have H2 := keepd (HN.out (by rw [Bool.not_true, Bool.and_false]))
                clear hh
                go_wp2_with fail
                go_roundw
                case rel => exact ⟨g - 1, by omega, int_eq (by omega), H2.out, HTi, HBi⟩
                case measure => simp [intOf]; omega
          · have n2 : (c.lv != 0) = false := by rw [bne, s2]; rfl
            have H2 := keepd (HN.out (by rw [hh, s2]; rfl))
            clear hh
            go_wp2_with fail
            go_roundw
            case rel => exact ⟨g - 1, by omega, int_eq (by omega), H2.out, HTi, HBi⟩
            case measure => simp [intOf]; omega
    · obtain rfl : k = 0 := by omega
      have hm : m = 0 := by
        have h1 := HI.out
        have h2 := HF.out
        omega
      subst hm
      go_wp2
      go_returns
      exact ⟨rfl, HB.out⟩

end Go.Proofs.YtlfmbfecajhffaaDoor
