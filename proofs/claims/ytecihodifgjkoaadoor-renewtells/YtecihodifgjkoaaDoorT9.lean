/-
  A map of functions: made, written at new keys, looked up. No conditions beyond those each theorem states.
-/
import Derived.Test.YtecihodifgjkoaaDoorT8
import Derived.MapKept
namespace Go.Proofs.YtecihodifgjkoaaDoor
open Go.RowKit
set_option maxRecDepth 100000

/-- The entries of a map that was written at the keys of l, one behind the other. -/
def entL : Nat → List (Int × Value) → List MapEntry
  | _, [] => []
  | i, p :: r => ⟨.int .i64 p.1, p.2, i⟩ :: entL (i + 1) r
def mapO (l : List (Int × Value)) : Obj := .map (entL 0 l).toArray l.length
def look (l : List (Int × Value)) (k : Int) : Option Value := (l.find? (fun p => p.1 == k)).map (·.2)

theorem entL_snoc (p : Int × Value) : ∀ (l : List (Int × Value)) (i : Nat), entL i (l ++ [p]) = entL i l ++ [⟨.int .i64 p.1, p.2, i + l.length⟩]
  | [], i => rfl
  | q :: r, i => by
    rw [List.cons_append, entL, entL, entL_snoc p r (i + 1), List.cons_append, List.length_cons, Nat.add_assoc, Nat.add_comm 1]

theorem findNow_look (k : Int) : ∀ (l : List (Int × Value)) (i j : Nat), ∃ o, Instr.findNow (.int .i64) (.int .i64 k) (entL i l) j = some o ∧ o.map (·.2) = look l k
  | [], _, _ => ⟨none, rfl, rfl⟩
  | p :: r, i, j => by
    cases hq : (p.1 == k)
    · obtain ⟨o, h1, h2⟩ := findNow_look k r (i + 1) (j + 1)
      have hq2 : (k == p.1) = false := by
        simp only [beq_eq_false_iff_ne, ne_eq] at hq ⊢
        exact fun e => hq e.symm
      refine ⟨o, ?_, ?_⟩
      · simp only [entL, Instr.findNow, Instr.sameNow, if_true, hq2]
        exact h1
      · rw [h2]
        simp [look, hq]
    · have hq2 : (k == p.1) = true := by
        simp only [beq_iff_eq] at hq ⊢
        exact hq.symm
      refine ⟨some (j, p.2), ?_, ?_⟩
      · simp only [entL, Instr.findNow, Instr.sameNow, if_true, hq2]
      · simp [look, hq]

theorem heap_mapO {W : World} {l : List (Int × Value)} : (W.alloc (mapO l)).heap[W.heap.size]? = some (.map (entL 0 l).toArray l.length) := heap_alloc_new W _

theorem und47 : Tryd.prog.underlying 90 = some (.map 3 88) := by kernel_rfl
theorem set_new (W : World) (o o' : Obj) : { (W.alloc o) with heap := (W.alloc o).heap.setIfInBounds W.heap.size o' } = W.alloc o' := by
  have e : (W.heap.push o).setIfInBounds W.heap.size o' = W.heap.push o' := by
    apply Array.ext'
    simp [Array.toList_setIfInBounds]
  unfold World.alloc
  rw [e]

theorem run_new (w : World) : (Instr.makeMap 90 none).run Tryd.prog w = .ok (.map (some w.heap.size)) (w.alloc (mapO [])) := rfl

theorem run_ck (em : Bool) (n : Nat) (k : Int) (w : World) : (Instr.checkKey em (n + 1) 3 (.int .i64 k)).run Tryd.prog w = .ok () w := by
  unfold Instr.checkKey
  simp only [Sem.run_bind, run_underlying Tryd.underlying3, Result.andThen]
  rfl

theorem run_ins (W : World) (l : List (Int × Value)) (k : Int) (v : Value) (h : look l k = none) :
    (Instr.mapUpdate 90 (.map (some W.heap.size)) (.int .i64 k) v).run Tryd.prog (W.alloc (mapO l)) = .ok () (W.alloc (mapO (l ++ [(k, v)]))) := by
  obtain ⟨o, h1, h2⟩ := findNow_look k l 0 0
  rw [h] at h2
  have ho : o = none := by cases o <;> simp_all
  subst ho
  have hs := MapKept.run_setObj_map (P := Tryd.prog) (.map ((entL 0 l).toArray.push ⟨.int .i64 k, v, l.length⟩) (l.length + 1)) (heap_mapO (W := W) (l := l))
  rw [set_new] at hs
  have e : mapO (l ++ [(k, v)]) = .map ((entL 0 l).toArray.push ⟨.int .i64 k, v, l.length⟩) (l.length + 1) := by
    unfold mapO
    rw [entL_snoc]
    simp
  rw [e, ← hs]
  simp [Instr.mapUpdate, run_underlying und47, MapKept.run_getObj_map heap_mapO, run_ck, Instr.findKey, run_underlying Tryd.underlying3, h1, Result.andThen]

theorem info45 : (Tryd.prog.info? 88).map (·.zero) = some (some .nilFunc) := by kernel_rfl
theorem zero45 (w : World) : (zeroValue 88).run Tryd.prog w = .ok .nilFunc w := by
  have h := info45
  cases hq : Tryd.prog.info? 88 with
  | none => rw [hq] at h; cases h
  | some i =>
    rw [hq] at h
    simp only [Option.map_some, Option.some.injEq] at h
    simp [zeroValue, typeInfo, hq, h]

/-- 'f, ok := m[k]'. -/
theorem run_look (W : World) (b : Nat) (l : List (Int × Value)) (k : Int) (hb : W.heap[b]? = some (mapO l)) :
    (Instr.lookup 90 (.map (some b)) (.int .i64 k) true).run Tryd.prog W = .ok (.tuple #[(look l k).getD .nilFunc, .bool (look l k).isSome]) W := by
  obtain ⟨o, h1, h2⟩ := findNow_look k l 0 0
  rw [← h2]
  unfold mapO at hb
  cases o with
  | none => simp [Instr.lookup, run_underlying und47, MapKept.run_getObj_map hb, run_ck, Instr.findKey, run_underlying Tryd.underlying3, h1, Result.andThen]
  | some o => simp [Instr.lookup, run_underlying und47, MapKept.run_getObj_map hb, run_ck, Instr.findKey, run_underlying Tryd.underlying3, h1, Result.andThen]

end Go.Proofs.YtecihodifgjkoaaDoor
