/-
  What an editor that works holds: a state, a table, the room, events and bells, whole ones out of their blocks and into them, by law; the table in its place. No conditions beyond those each theorem states.
-/
import Derived.Test.YtecihodifgjkoaaDoorBM
import Derived.Deep.WholeRow
namespace Go.Proofs.YtecihodifgjkoaaDoor
open Go.RowKit
set_option maxRecDepth 100000

/-- The cells of what works. -/
def wk (A : Option Addr) (n c : Nat) (z : Int) (ov li : Bool) (X : Tb) (room : Int) (iv : Value) (be : Int) : List Value :=
  .slice A n c :: .int .i64 z :: .bool ov :: .bool li :: (cs X ++ [.int .i64 room, iv, .int .i64 be])
theorem wk_len (A : Option Addr) (n c : Nat) (z : Int) (ov li : Bool) (X : Tb) (room : Int) (iv : Value) (be : Int) : (wk A n c z ov li X room iv be).length = 69 := by simp [wk, cs_len]
theorem wk_end (A : Option Addr) (n c : Nat) (z : Int) (ov li : Bool) (X : Tb) (room : Int) (iv : Value) (be : Int) :
    (wk A n c z ov li X room iv be)[66]? = some (.int .i64 room) ∧ (wk A n c z ov li X room iv be)[67]? = some iv ∧ (wk A n c z ov li X room iv be)[68]? = some (.int .i64 be) := by
  refine ⟨?_, ?_, ?_⟩
  · show (cs X ++ [.int .i64 room, iv, .int .i64 be])[62]? = _
    rw [List.getElem?_append_right (by rw [cs_len]; omega), cs_len]
    rfl
  · show (cs X ++ [.int .i64 room, iv, .int .i64 be])[63]? = _
    rw [List.getElem?_append_right (by rw [cs_len]; omega), cs_len]
    rfl
  · show (cs X ++ [.int .i64 room, iv, .int .i64 be])[64]? = _
    rw [List.getElem?_append_right (by rw [cs_len]; omega), cs_len]
    rfl
theorem wk_set67 (A : Option Addr) (n c : Nat) (z : Int) (ov li : Bool) (X : Tb) (room : Int) (iv iv' : Value) (be : Int) : (wk A n c z ov li X room iv be).set 67 iv' = wk A n c z ov li X room iv' be := by
  show _ :: _ :: _ :: _ :: (cs X ++ [.int .i64 room, iv, .int .i64 be]).set 63 iv' = _
  rw [List.set_append_right _ _ (by rw [cs_len]; omega), cs_len]
  rfl
theorem wk_set68 (A : Option Addr) (n c : Nat) (z : Int) (ov li : Bool) (X : Tb) (room : Int) (iv : Value) (be be' : Int) : (wk A n c z ov li X room iv be).set 68 (.int .i64 be') = wk A n c z ov li X room iv be' := by
  show _ :: _ :: _ :: _ :: (cs X ++ [.int .i64 room, iv, .int .i64 be]).set 64 (.int .i64 be') = _
  rw [List.set_append_right _ _ (by rw [cs_len]; omega), cs_len]
  rfl

/-- Block b is one that works. -/
abbrev WB (W : World) (b : Nat) (A : Option Addr) (n c : Nat) (z : Int) (ov li : Bool) (X : Tb) (room : Int) (iv : Value) (be : Int) : Prop := SR 62 W b (wk A n c z ov li X room iv be)
theorem WB.cells {W : World} {b : Nat} {A : Option Addr} {n c : Nat} {z : Int} {ov li : Bool} {X : Tb} {room : Int} {iv : Value} {be : Int} (h : WB W b A n c z ov li X room iv be) :
    W.cell? ⟨b, 0, none⟩ = some (.slice A n c) ∧ W.cell? ⟨b, 1, none⟩ = some (.int .i64 z) ∧ W.cell? ⟨b, 2, none⟩ = some (.bool ov) ∧ W.cell? ⟨b, 3, none⟩ = some (.bool li) ∧
    W.cell? ⟨b, 66, none⟩ = some (.int .i64 room) ∧ W.cell? ⟨b, 67, none⟩ = some iv ∧ W.cell? ⟨b, 68, none⟩ = some (.int .i64 be) :=
  ⟨SR.cell h 0, SR.cell h 1, SR.cell h 2, SR.cell h 3, (SR.cell h 66).trans (wk_end ..).1, (SR.cell h 67).trans (wk_end ..).2.1, (SR.cell h 68).trans (wk_end ..).2.2⟩
theorem WB.froz {W : World} {b : Nat} {A : Option Addr} {n c : Nat} {z : Int} {ov li : Bool} {X : Tb} {room : Int} {iv : Value} {be : Int} (h : WB W b A n c z ov li X room iv be) :
    W.frozen? ⟨b, 0, none⟩ = false ∧ W.frozen? ⟨b, 1, none⟩ = false ∧ W.frozen? ⟨b, 2, none⟩ = false ∧ W.frozen? ⟨b, 3, none⟩ = false ∧ W.frozen? ⟨b, 67, none⟩ = false ∧ W.frozen? ⟨b, 68, none⟩ = false :=
  ⟨SR.frozen h 0, SR.frozen h 1, SR.frozen h 2, SR.frozen h 3, SR.frozen h 67, SR.frozen h 68⟩
theorem WB.facts {W : World} {b : Nat} {A : Option Addr} {n c : Nat} {z : Int} {ov li : Bool} {X : Tb} {room : Int} {iv : Value} {be : Int} (h : WB W b A n c z ov li X room iv be) : rowOf W b = (wk A n c z ov li X room iv be).toArray ∧ isRow W 62 b 69 = true := SR.facts h 69 (wk_len ..)
theorem WB.setL {W : World} {b : Nat} {A A' : Option Addr} {n c n' c' : Nat} {z z' : Int} {ov li : Bool} {X : Tb} {room : Int} {iv : Value} {be : Int} (h : WB W b A n c z ov li X room iv be) :
    WB ((W.setCell ⟨b, 0, none⟩ (.slice A' n' c')).setCell ⟨b, 1, none⟩ (.int .i64 z')) b A' n' c' z' ov li X room iv be := SR.set (SR.set h 0 _) 1 _
theorem WB.setO {W : World} {b : Nat} {A : Option Addr} {n c : Nat} {z : Int} {ov li : Bool} {X : Tb} {room : Int} {iv : Value} {be : Int} (h : WB W b A n c z ov li X room iv be) (o : Bool) :
    WB (W.setCell ⟨b, 2, none⟩ (.bool o)) b A n c z o li X room iv be := SR.set h 2 _
theorem WB.setI {W : World} {b : Nat} {A : Option Addr} {n c : Nat} {z : Int} {ov li : Bool} {X : Tb} {room : Int} {iv : Value} {be : Int} (h : WB W b A n c z ov li X room iv be) (o : Bool) :
    WB (W.setCell ⟨b, 3, none⟩ (.bool o)) b A n c z ov o X room iv be := SR.set h 3 _
theorem WB.setV {W : World} {b : Nat} {A : Option Addr} {n c : Nat} {z : Int} {ov li : Bool} {X : Tb} {room : Int} {iv : Value} {be : Int} (h : WB W b A n c z ov li X room iv be) (v : Value) :
    WB (W.setCell ⟨b, 67, none⟩ v) b A n c z ov li X room v be := by
  have := SR.set h 67 v
  rw [wk_set67] at this
  exact this
theorem WB.setN {W : World} {b : Nat} {A : Option Addr} {n c : Nat} {z : Int} {ov li : Bool} {X : Tb} {room : Int} {iv : Value} {be : Int} (h : WB W b A n c z ov li X room iv be) (k : Int) :
    WB (W.setCell ⟨b, 68, none⟩ (.int .i64 k)) b A n c z ov li X room iv k := by
  have := SR.set h 68 (.int .i64 k)
  rw [wk_set68] at this
  exact this

theorem info65 : (Tryd.prog.info? 62).map (·.size) = some 69 := by kernel_rfl
theorem ex_st65 (ρ : Operand → Value) (dst : Option Tmp) (x y : Operand) (ty : TypeId) (pos : String) (af : Array Edge) (gd : Option (Nat × Bool)) (W : World) (h : okPtr W 62 69 (ρ x) = true) (hy : okAgg 69 (ρ y) = true) :
    Sem.run Tryd.prog (execOp ρ ⟨dst, .store 62 x y, ty, pos, af, gd⟩) W = .ok .skip (W.setRow (ptrB (ρ x)) (aggC (ρ y))) := by
  obtain ⟨h1, h2⟩ := okPtr_eq h
  obtain ⟨h3, h4⟩ := isRow_sr h2
  obtain ⟨k1, k2, k3⟩ := okAgg_eq hy
  unfold execOp
  simp only []
  rw [h1, k1]
  simp only [Instr.storeAt, Instr.sureAddr, Sem.run_bind, Sem.run_pure, Result.andThen_ok, ptrB_at, aggC_at]
  rw [run_storeVar_row W _ 62 62 _ _ h3 (by rw [info65, k2]) (by rw [h4, k2]) k3]
  rfl
theorem agg69 (A : Option Addr) (n c : Nat) (z : Int) (ov li : Bool) (X : Tb) (room : Int) (A' : Option Addr) (n' c' : Nat) (be : Int) : okAgg 69 (.agg (wk A n c z ov li X room (.slice A' n' c') be).toArray) = true := by
  have h : ∀ u ∈ wk A n c z ov li X room (.slice A' n' c') be, u.oneCell' = true := by
    intro u hu
    unfold wk at hu
    simp only [List.mem_cons, List.mem_append, List.not_mem_nil, or_false] at hu
    rcases hu with rfl | rfl | rfl | rfl | hu | rfl | rfl | rfl
    · rfl
    · rfl
    · rfl
    · rfl
    · exact cs_one X u hu
    · rfl
    · rfl
    · rfl
  simp [okAgg, wk_len]
  exact h
theorem zero65 : (Tryd.prog.info? 62).map (fun i => i.zero) = some (some (.agg (wk none 0 0 0 false false zT 0 (.slice none 0 0) 0).toArray)) := by kernel_rfl
theorem ex_al65 (ρ : Operand → Value) (dst : Option Tmp) (ty : TypeId) (pos : String) (af : Array Edge) (gd : Option (Nat × Bool)) (W : World) :
    Sem.run Tryd.prog (execOp ρ ⟨dst, .alloc 62, ty, pos, af, gd⟩) W = .ok (.value (.pointer (some ⟨W.heap.size, 0, none⟩))) (W.alloc (.cells (wk none 0 0 0 false false zT 0 (.slice none 0 0) 0).toArray 62)) := by
  have h := zero65
  cases hq : Tryd.prog.info? 62 with
  | none => rw [hq] at h; cases h
  | some i =>
    rw [hq] at h
    simp only [Option.map_some, Option.some.injEq] at h
    unfold execOp
    simp [Instr.alloc, zeroValue, typeInfo, hq, h, newVar, newRow, Value.cells, go_sem]
theorem bu65 (A : Option Addr) (n c : Nat) (z : Int) (ov li : Bool) (X : Tb) (room : Int) (W : World) : Sem.run Tryd.prog (Instr.build 62 #[(0, .agg #[.slice A n c, .int .i64 z, .bool ov, .bool li]), (1, tv X), (2, .int .i64 room)]) W = .ok (.agg (wk A n c z ov li X room (.slice none 0 0) 0).toArray) W := by kernel_rfl
theorem bu65s (A : Option Addr) (n c : Nat) (z : Int) (ov li : Bool) (W : World) : Sem.run Tryd.prog (Instr.build 62 #[(0, .agg #[.slice A n c, .int .i64 z, .bool ov, .bool li])]) W = .ok (.agg (wk A n c z ov li zT 0 (.slice none 0 0) 0).toArray) W := by kernel_rfl

/-- Is it a number, a state? What is built of them. -/
def isI : Value → Bool
  | .int .i64 _ => true
  | _ => false
theorem isI_at (k : Int) : isI (.int .i64 k) = true := by simp [isI]
theorem isI_eq {v : Value} (h : isI v = true) : ∃ k, v = .int .i64 k := by
  unfold isI at h
  split at h
  · exact ⟨_, rfl⟩
  · cases h
def isS : Value → Bool
  | .agg ⟨[.slice _ _ _, .int .i64 _, .bool _, .bool _]⟩ => true
  | _ => false
theorem isS_at (A : Option Addr) (n c : Nat) (z : Int) (ov li : Bool) : isS (.agg #[.slice A n c, .int .i64 z, .bool ov, .bool li]) = true := by simp [isS]
theorem isS_eq {v : Value} (h : isS v = true) : ∃ A n c z ov li, v = .agg #[.slice A n c, .int .i64 z, .bool ov, .bool li] := by
  unfold isS at h
  split at h
  · exact ⟨_, _, _, _, _, _, rfl⟩
  · cases h
def bW (x y z : Value) : Array Value := ((aggC x).toList ++ ((aggC y).toList ++ [z, .slice none 0 0, .int .i64 0])).toArray
theorem bW_at (A : Option Addr) (n c : Nat) (z : Int) (ov li : Bool) (X : Tb) (room : Int) : bW (.agg #[.slice A n c, .int .i64 z, .bool ov, .bool li]) (tv X) (.int .i64 room) = (wk A n c z ov li X room (.slice none 0 0) 0).toArray := rfl
def bWs (x : Value) : Array Value := ((aggC x).toList ++ (cs zT ++ ([.int .i64 0, .slice none 0 0, .int .i64 0] : List Value))).toArray
theorem bWs_at (A : Option Addr) (n c : Nat) (z : Int) (ov li : Bool) : bWs (.agg #[.slice A n c, .int .i64 z, .bool ov, .bool li]) = (wk A n c z ov li zT 0 (.slice none 0 0) 0).toArray := rfl
theorem ex_bu65 (ρ : Operand → Value) (dst : Option Tmp) (x y z : Operand) (ty : TypeId) (pos : String) (af : Array Edge) (gd : Option (Nat × Bool)) (W : World) (h : isS (ρ x) = true) (hy : isT (ρ y) = true) (hz : isI (ρ z) = true) :
    Sem.run Tryd.prog (execOp ρ ⟨dst, .build 62 #[(0, x), (1, y), (2, z)], ty, pos, af, gd⟩) W = .ok (.value (.agg (bW (ρ x) (ρ y) (ρ z)))) W := by
  obtain ⟨A, n, c, q, ov, li, hk⟩ := isS_eq h
  obtain ⟨X, hX⟩ := isT_eq hy
  obtain ⟨r, hr⟩ := isI_eq hz
  unfold execOp
  simp only [List.map_toArray, List.map_cons, List.map_nil, hk, hX, hr, Sem.run_bind, bu65, Result.andThen_ok]
  rfl
theorem ex_bu65s (ρ : Operand → Value) (dst : Option Tmp) (x : Operand) (ty : TypeId) (pos : String) (af : Array Edge) (gd : Option (Nat × Bool)) (W : World) (h : isS (ρ x) = true) :
    Sem.run Tryd.prog (execOp ρ ⟨dst, .build 62 #[(0, x)], ty, pos, af, gd⟩) W = .ok (.value (.agg (bWs (ρ x)))) W := by
  obtain ⟨A, n, c, q, ov, li, hk⟩ := isS_eq h
  unfold execOp
  simp only [List.map_toArray, List.map_cons, List.map_nil, hk, Sem.run_bind, bu65s, Result.andThen_ok]
  rfl

/-- The table out of its place. -/
def ptr4 : Value → Nat
  | .pointer (some ⟨b, 4, none⟩) => b
  | _ => 0
def okPtr4 (W : World) : Value → Bool
  | .pointer (some ⟨b, 4, none⟩) => isRow W 62 b 69
  | _ => false
theorem ptr4_at (b : Nat) : ptr4 (.pointer (some ⟨b, 4, none⟩)) = b := rfl
theorem okPtr4_at (W : World) (b : Nat) : okPtr4 W (.pointer (some ⟨b, 4, none⟩)) = isRow W 62 b 69 := rfl
theorem okPtr4_eq {W : World} {v : Value} (h : okPtr4 W v = true) : v = .pointer (some ⟨ptr4 v, 4, none⟩) ∧ isRow W 62 (ptr4 v) 69 = true := by
  unfold okPtr4 at h
  split at h
  · exact ⟨rfl, h⟩
  · cases h
def cutT (row : Array Value) : Array Value := ((row.toList.drop 4).take 62).toArray
theorem cutT_at (A : Option Addr) (n c : Nat) (z : Int) (ov li : Bool) (X : Tb) (room : Int) (iv : Value) (be : Int) : cutT (wk A n c z ov li X room iv be).toArray = (cs X).toArray := by
  unfold cutT wk
  simp only [List.drop_succ_cons, List.drop_zero]
  rw [List.take_left' (cs_len X)]
theorem add4 (b j : Nat) : (⟨b, 4, none⟩ : Addr).add j = ⟨b, 4 + j, none⟩ := by unfold Addr.add; split <;> simp_all
theorem ex_ld25o (ρ : Operand → Value) (dst : Option Tmp) (x : Operand) (ty : TypeId) (pos : String) (af : Array Edge) (gd : Option (Nat × Bool)) (W : World) (h : okPtr4 W (ρ x) = true) :
    Sem.run Tryd.prog (execOp ρ ⟨dst, .load 25 x, ty, pos, af, gd⟩) W = .ok (.value (.agg (cutT (rowOf W (ptr4 (ρ x)))))) W := by
  obtain ⟨h1, h2⟩ := okPtr4_eq h
  obtain ⟨h3, h4⟩ := isRow_sr h2
  unfold execOp
  simp only []
  rw [h1]
  simp only [Instr.loadAt, Instr.sureAddr, Sem.run_bind, Sem.run_pure, Result.andThen_ok, ptr4_at]
  generalize rowOf W (ptr4 (ρ x)) = row at h3 h4 ⊢
  generalize ptr4 (ρ x) = b at h3 h4 ⊢
  have hlen : ((row.toList.drop 4).take 62).length = 62 := by simp [h4]
  have hl := run_loadCells_list (P := Tryd.prog) (w := W) ⟨b, 4, none⟩ ((row.toList.drop 4).take 62) (fun j v hv => by
    rw [add4, cell_of_row W b (4 + j) row 62 (0, 0) h3]
    rw [List.getElem?_take] at hv
    split at hv
    · rw [List.getElem?_drop] at hv
      simpa using hv
    · cases hv)
  rw [hlen] at hl
  have hagg : ∀ W, (isAgg 25).run Tryd.prog W = .ok true W := fun W => by kernel_rfl
  have hsz : ∀ W, (sizeOf 25).run Tryd.prog W = .ok 62 W := fun W => by kernel_rfl
  simp [loadVar, Sem.run_bind, hagg, hsz, hl, cutT]
theorem isRow_new65 (W : World) (A : Option Addr) (n c : Nat) (z : Int) (ov li : Bool) (X : Tb) (room : Int) (iv : Value) (be : Int) : isRow (W.alloc (.cells (wk A n c z ov li X room iv be).toArray 62)) 62 W.heap.size 69 = true := (WB.facts (SR.new 62 W _)).2

end Go.Proofs.YtecihodifgjkoaaDoor
