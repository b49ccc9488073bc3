/-
  What is told, in memory: a struct of three numbers, a mask and a row: whole ones out of their blocks and into them, by law; the mask in its place. No conditions beyond those each theorem states.
-/
import Derived.Test.YtflmplnampgflaaM1
import Derived.Test.YtflmplnampgflaaS3
namespace Go.Proofs.Ytflmplnampgflaa
open Go.RowKit
set_option maxRecDepth 100000

/-- A sub's cells: three numbers, its mask, its row. -/
def sc (k m v : Int) (M : Mk) (l : Value) : List Value := .int .i64 k :: .int .i64 m :: .int .i64 v :: (ms M ++ [l])
abbrev sv (k m v : Int) (M : Mk) (l : Value) : Value := .agg (sc k m v M l).toArray
theorem sc_len (k m v : Int) (M : Mk) (l : Value) : (sc k m v M l).length = 36 := by simp [sc, ms_len]
theorem sc_row (k m v : Int) (M : Mk) (l : Value) : (sc k m v M l)[35]? = some l := by
  show (ms M ++ [l])[32]? = _
  rw [List.getElem?_append_right (by rw [ms_len]; omega), ms_len]
  rfl
theorem sc_mask (k m v : Int) (M : Mk) (l : Value) {j : Nat} (h : j < 32) : (sc k m v M l)[3 + j]? = (ms M)[j]? := by
  rw [Nat.add_comm]
  show (ms M ++ [l])[j]? = _
  rw [List.getElem?_append_left (by rw [ms_len]; exact h)]
theorem sc_set0 (k m v : Int) (M : Mk) (l : Value) (z : Int) : (sc k m v M l).set 0 (.int .i64 z) = sc z m v M l := rfl
theorem sc_set1 (k m v : Int) (M : Mk) (l : Value) (z : Int) : (sc k m v M l).set 1 (.int .i64 z) = sc k z v M l := rfl
theorem sc_set2 (k m v : Int) (M : Mk) (l : Value) (z : Int) : (sc k m v M l).set 2 (.int .i64 z) = sc k m z M l := rfl
theorem sc_set35 (k m v : Int) (M : Mk) (l l' : Value) : (sc k m v M l).set 35 l' = sc k m v M l' := by
  show _ :: _ :: _ :: (ms M ++ [l]).set 32 l' = _
  rw [List.set_append_right _ _ (by rw [ms_len]; omega), ms_len]
  rfl

theorem agg36 (k m v : Int) (M : Mk) (A : Option Addr) (n c : Nat) : okAgg 36 (sv k m v M (.slice A n c)) = true := by
  have h : ∀ u ∈ sc k m v M (.slice A n c), u.oneCell' = true := by
    intro u hu
    unfold sc at hu
    simp only [List.mem_cons, List.mem_append, List.not_mem_nil, or_false] at hu
    rcases hu with rfl | rfl | rfl | hu | rfl
    · rfl
    · rfl
    · rfl
    · exact bv_one M.l u hu
    · rfl
  simp [okAgg, sc_len]
  exact h

theorem info26 : (Try.prog.info? 26).map (·.size) = some 36 := by kernel_rfl
theorem ex_ld26 (ρ : Operand → Value) (dst : Option Tmp) (x : Operand) (ty : TypeId) (pos : String) (af : Array Edge) (gd : Option (Nat × Bool)) (W : World) (h : okPtr W 26 36 (ρ x) = true) :
    Sem.run Try.prog (execOp ρ ⟨dst, .load 26 x, ty, pos, af, gd⟩) W = .ok (.value (.agg (rowOf W (ptrB (ρ x))))) W := by
  obtain ⟨h1, h2⟩ := okPtr_eq h
  obtain ⟨h3, h4⟩ := isRow_sr h2
  unfold execOp
  simp only []
  rw [h1]
  simp only [Instr.loadAt, Instr.sureAddr, Sem.run_bind, Sem.run_pure, Result.andThen_ok, ptrB_at]
  rw [run_loadVar_row W _ 26 26 _ (0, 0) _ h3 Try.underlying26 rfl (by rw [info26, h4])]
  rfl
theorem ex_st26 (ρ : Operand → Value) (dst : Option Tmp) (x y : Operand) (ty : TypeId) (pos : String) (af : Array Edge) (gd : Option (Nat × Bool)) (W : World) (h : okPtr W 26 36 (ρ x) = true) (hy : okAgg 36 (ρ y) = true) :
    Sem.run Try.prog (execOp ρ ⟨dst, .store 26 x y, ty, pos, af, gd⟩) W = .ok .skip (W.setRow (ptrB (ρ x)) (aggC (ρ y))) := by
  obtain ⟨h1, h2⟩ := okPtr_eq h
  obtain ⟨h3, h4⟩ := isRow_sr h2
  obtain ⟨k1, k2, k3⟩ := okAgg_eq hy
  unfold execOp
  simp only []
  rw [h1, k1]
  simp only [Instr.storeAt, Instr.sureAddr, Sem.run_bind, Sem.run_pure, Result.andThen_ok, ptrB_at, aggC_at]
  rw [run_storeVar_row W _ 26 26 _ _ h3 (by rw [info26, k2]) (by rw [h4, k2]) k3]
  rfl

theorem zero26 : (Try.prog.info? 26).map (fun i => i.zero) = some (some (.agg (sc 0 0 0 zM (.slice none 0 0)).toArray)) := by kernel_rfl
theorem ex_al26 (ρ : Operand → Value) (dst : Option Tmp) (ty : TypeId) (pos : String) (af : Array Edge) (gd : Option (Nat × Bool)) (W : World) :
    Sem.run Try.prog (execOp ρ ⟨dst, .alloc 26, ty, pos, af, gd⟩) W = .ok (.value (.pointer (some ⟨W.heap.size, 0, none⟩))) (W.alloc (.cells (sc 0 0 0 zM (.slice none 0 0)).toArray 26)) := by
  have h := zero26
  cases hq : Try.prog.info? 26 with
  | none => rw [hq] at h; cases h
  | some i =>
    rw [hq] at h
    simp only [Option.map_some, Option.some.injEq] at h
    unfold execOp
    simp [Instr.alloc, zeroValue, typeInfo, hq, h, newVar, newRow, Value.cells, go_sem]
theorem bu26z (W : World) : Sem.run Try.prog (Instr.build 26 #[]) W = .ok (sv 0 0 0 zM (.slice none 0 0)) W := by kernel_rfl
theorem bu26k (k : Int) (W : World) : Sem.run Try.prog (Instr.build 26 #[(0, .int .i64 k)]) W = .ok (sv k 0 0 zM (.slice none 0 0)) W := by kernel_rfl
theorem bu26m (k m : Int) (W : World) : Sem.run Try.prog (Instr.build 26 #[(0, .int .i64 k), (1, .int .i64 m)]) W = .ok (sv k m 0 zM (.slice none 0 0)) W := by kernel_rfl
theorem bu26l (k : Int) (A : Option Addr) (n c : Nat) (W : World) : Sem.run Try.prog (Instr.build 26 #[(0, .int .i64 k), (4, .slice A n c)]) W = .ok (sv k 0 0 zM (.slice A n c)) W := by kernel_rfl
theorem ms32 (M : Mk) : ∃ a0 a1 a2 a3 a4 a5 a6 a7 a8 a9 a10 a11 a12 a13 a14 a15 a16 a17 a18 a19 a20 a21 a22 a23 a24 a25 a26 a27 a28 a29 a30 a31 : UInt8, M.l = [a0, a1, a2, a3, a4, a5, a6, a7, a8, a9, a10, a11, a12, a13, a14, a15, a16, a17, a18, a19, a20, a21, a22, a23, a24, a25, a26, a27, a28, a29, a30, a31] := by
  obtain ⟨l, h⟩ := M
  match l, h with
  | [a0, a1, a2, a3, a4, a5, a6, a7, a8, a9, a10, a11, a12, a13, a14, a15, a16, a17, a18, a19, a20, a21, a22, a23, a24, a25, a26, a27, a28, a29, a30, a31], _ => exact ⟨a0, a1, a2, a3, a4, a5, a6, a7, a8, a9, a10, a11, a12, a13, a14, a15, a16, a17, a18, a19, a20, a21, a22, a23, a24, a25, a26, a27, a28, a29, a30, a31, rfl⟩
theorem bu26vm (k v : Int) (M : Mk) (W : World) : Sem.run Try.prog (Instr.build 26 #[(0, .int .i64 k), (2, .int .i64 v), (3, mv M)]) W = .ok (sv k 0 v M (.slice none 0 0)) W := by
  obtain ⟨a0, a1, a2, a3, a4, a5, a6, a7, a8, a9, a10, a11, a12, a13, a14, a15, a16, a17, a18, a19, a20, a21, a22, a23, a24, a25, a26, a27, a28, a29, a30, a31, h⟩ := ms32 M
  unfold mv sv sc ms
  rw [h]
  kernel_rfl
theorem bu26v (k v : Int) (W : World) : Sem.run Try.prog (Instr.build 26 #[(0, .int .i64 k), (2, .int .i64 v)]) W = .ok (sv k 0 v zM (.slice none 0 0)) W := by kernel_rfl

/-- Is it a number, a row, a mask? What is built of them. -/
def isI : Value → Bool
  | .int .i64 _ => true
  | _ => false
def isL : Value → Bool
  | .slice _ _ _ => true
  | _ => false
theorem isI_at (k : Int) : isI (.int .i64 k) = true := by simp [isI]
theorem isL_at (A : Option Addr) (n c : Nat) : isL (.slice A n c) = true := by simp [isL]
theorem isI_eq {v : Value} (h : isI v = true) : ∃ k, v = .int .i64 k := by
  unfold isI at h
  split at h
  · exact ⟨_, rfl⟩
  · cases h
theorem isL_eq {v : Value} (h : isL v = true) : ∃ A n c, v = .slice A n c := by
  unfold isL at h
  split at h
  · exact ⟨_, _, _, rfl⟩
  · cases h
def bK (x : Value) : Array Value := (x :: (sc 0 0 0 zM (.slice none 0 0)).tail).toArray
def bKM (x y : Value) : Array Value := (x :: y :: (sc 0 0 0 zM (.slice none 0 0)).tail.tail).toArray
def bKL (x y : Value) : Array Value := (x :: .int .i64 0 :: .int .i64 0 :: (ms zM ++ [y])).toArray
def bKVM (x y z : Value) : Array Value := (x :: .int .i64 0 :: y :: ((aggC z).toList ++ [.slice none 0 0])).toArray
theorem bK_at (k : Int) : bK (.int .i64 k) = (sc k 0 0 zM (.slice none 0 0)).toArray := rfl
theorem bKM_at (k m : Int) : bKM (.int .i64 k) (.int .i64 m) = (sc k m 0 zM (.slice none 0 0)).toArray := rfl
theorem bKL_at (k : Int) (A : Option Addr) (n c : Nat) : bKL (.int .i64 k) (.slice A n c) = (sc k 0 0 zM (.slice A n c)).toArray := rfl
theorem bKVM_at (k v : Int) (M : Mk) : bKVM (.int .i64 k) (.int .i64 v) (mv M) = (sc k 0 v M (.slice none 0 0)).toArray := rfl
theorem ex_bu26 (ρ : Operand → Value) (dst : Option Tmp) (ty : TypeId) (pos : String) (af : Array Edge) (gd : Option (Nat × Bool)) (W : World) :
    Sem.run Try.prog (execOp ρ ⟨dst, .build 26 #[], ty, pos, af, gd⟩) W = .ok (.value (.agg (sc 0 0 0 zM (.slice none 0 0)).toArray)) W := by
  unfold execOp
  simp only [List.map_toArray, List.map_nil, Sem.run_bind, bu26z, Result.andThen_ok]
  rfl
theorem ex_bu26k (ρ : Operand → Value) (dst : Option Tmp) (x : Operand) (ty : TypeId) (pos : String) (af : Array Edge) (gd : Option (Nat × Bool)) (W : World) (h : isI (ρ x) = true) :
    Sem.run Try.prog (execOp ρ ⟨dst, .build 26 #[(0, x)], ty, pos, af, gd⟩) W = .ok (.value (.agg (bK (ρ x)))) W := by
  obtain ⟨k, hk⟩ := isI_eq h
  unfold execOp
  simp only [List.map_toArray, List.map_cons, List.map_nil, hk, Sem.run_bind, bu26k, Result.andThen_ok]
  rfl
theorem ex_bu26m (ρ : Operand → Value) (dst : Option Tmp) (x y : Operand) (ty : TypeId) (pos : String) (af : Array Edge) (gd : Option (Nat × Bool)) (W : World) (h : isI (ρ x) = true) (hy : isI (ρ y) = true) :
    Sem.run Try.prog (execOp ρ ⟨dst, .build 26 #[(0, x), (1, y)], ty, pos, af, gd⟩) W = .ok (.value (.agg (bKM (ρ x) (ρ y)))) W := by
  obtain ⟨k, hk⟩ := isI_eq h
  obtain ⟨m, hm⟩ := isI_eq hy
  unfold execOp
  simp only [List.map_toArray, List.map_cons, List.map_nil, hk, hm, Sem.run_bind, bu26m, Result.andThen_ok]
  rfl
theorem ex_bu26l (ρ : Operand → Value) (dst : Option Tmp) (x y : Operand) (ty : TypeId) (pos : String) (af : Array Edge) (gd : Option (Nat × Bool)) (W : World) (h : isI (ρ x) = true) (hy : isL (ρ y) = true) :
    Sem.run Try.prog (execOp ρ ⟨dst, .build 26 #[(0, x), (4, y)], ty, pos, af, gd⟩) W = .ok (.value (.agg (bKL (ρ x) (ρ y)))) W := by
  obtain ⟨k, hk⟩ := isI_eq h
  obtain ⟨A, n, c, hm⟩ := isL_eq hy
  unfold execOp
  simp only [List.map_toArray, List.map_cons, List.map_nil, hk, hm, Sem.run_bind, bu26l, Result.andThen_ok]
  rfl
theorem ex_bu26v (ρ : Operand → Value) (dst : Option Tmp) (x y z : Operand) (ty : TypeId) (pos : String) (af : Array Edge) (gd : Option (Nat × Bool)) (W : World) (h : isI (ρ x) = true) (hy : isI (ρ y) = true) (hz : isM (ρ z) = true) :
    Sem.run Try.prog (execOp ρ ⟨dst, .build 26 #[(0, x), (2, y), (3, z)], ty, pos, af, gd⟩) W = .ok (.value (.agg (bKVM (ρ x) (ρ y) (ρ z)))) W := by
  obtain ⟨k, hk⟩ := isI_eq h
  obtain ⟨m, hm⟩ := isI_eq hy
  obtain ⟨M, hM⟩ := isM_eq hz
  unfold execOp
  simp only [List.map_toArray, List.map_cons, List.map_nil, hk, hm, hM, Sem.run_bind, bu26vm, Result.andThen_ok]
  rfl
def bKV (x y : Value) : Array Value := (x :: .int .i64 0 :: y :: (ms zM ++ [.slice none 0 0])).toArray
theorem bKV_at (k v : Int) : bKV (.int .i64 k) (.int .i64 v) = (sc k 0 v zM (.slice none 0 0)).toArray := rfl
theorem ex_bu26w (ρ : Operand → Value) (dst : Option Tmp) (x y : Operand) (ty : TypeId) (pos : String) (af : Array Edge) (gd : Option (Nat × Bool)) (W : World) (h : isI (ρ x) = true) (hy : isI (ρ y) = true) :
    Sem.run Try.prog (execOp ρ ⟨dst, .build 26 #[(0, x), (2, y)], ty, pos, af, gd⟩) W = .ok (.value (.agg (bKV (ρ x) (ρ y)))) W := by
  obtain ⟨k, hk⟩ := isI_eq h
  obtain ⟨m, hm⟩ := isI_eq hy
  unfold execOp
  simp only [List.map_toArray, List.map_cons, List.map_nil, hk, hm, Sem.run_bind, bu26v, Result.andThen_ok]
  rfl

/-- A mask out of its place in a sub's block, and into it. -/
def ptr3 : Value → Nat
  | .pointer (some ⟨b, 3, none⟩) => b
  | _ => 0
def okPtr3 (W : World) : Value → Bool
  | .pointer (some ⟨b, 3, none⟩) => isRow W 26 b 36
  | _ => false
theorem ptr3_at (b : Nat) : ptr3 (.pointer (some ⟨b, 3, none⟩)) = b := rfl
theorem okPtr3_at (W : World) (b : Nat) : okPtr3 W (.pointer (some ⟨b, 3, none⟩)) = isRow W 26 b 36 := rfl
theorem okPtr3_eq {W : World} {v : Value} (h : okPtr3 W v = true) : v = .pointer (some ⟨ptr3 v, 3, none⟩) ∧ isRow W 26 (ptr3 v) 36 = true := by
  unfold okPtr3 at h
  split at h
  · exact ⟨rfl, h⟩
  · cases h
/-- The mask's cells of a sub's; with others. -/
def cutM (row : Array Value) : Array Value := ((row.toList.drop 3).take 32).toArray
def putM (row : Array Value) (y : Array Value) : Array Value := (row.toList.take 3 ++ y.toList ++ row.toList.drop 35).toArray
theorem cutM_at (k m v : Int) (M : Mk) (l : Value) : cutM (sc k m v M l).toArray = (ms M).toArray := by
  unfold cutM sc
  simp only [List.drop_succ_cons, List.drop_zero]
  rw [List.take_left' (ms_len M)]
theorem putM_at (k m v : Int) (M M' : Mk) (l : Value) : putM (sc k m v M l).toArray (ms M').toArray = (sc k m v M' l).toArray := by
  unfold putM sc
  simp only [List.drop_succ_cons, List.take_succ_cons, List.take_zero]
  rw [List.drop_left' (ms_len M)]
  rfl
theorem add3 (b j : Nat) : (⟨b, 3, none⟩ : Addr).add j = ⟨b, 3 + j, none⟩ := by unfold Addr.add; split <;> simp_all
theorem ex_ld23o (ρ : Operand → Value) (dst : Option Tmp) (x : Operand) (ty : TypeId) (pos : String) (af : Array Edge) (gd : Option (Nat × Bool)) (W : World) (h : okPtr3 W (ρ x) = true) :
    Sem.run Try.prog (execOp ρ ⟨dst, .load 23 x, ty, pos, af, gd⟩) W = .ok (.value (.agg (cutM (rowOf W (ptr3 (ρ x)))))) W := by
  obtain ⟨h1, h2⟩ := okPtr3_eq h
  obtain ⟨h3, h4⟩ := isRow_sr h2
  unfold execOp
  simp only []
  rw [h1]
  simp only [Instr.loadAt, Instr.sureAddr, Sem.run_bind, Sem.run_pure, Result.andThen_ok, ptr3_at]
  generalize rowOf W (ptr3 (ρ x)) = row at h3 h4 ⊢
  generalize ptr3 (ρ x) = b at h3 h4 ⊢
  have hlen : ((row.toList.drop 3).take 32).length = 32 := by simp [h4]
  have hl := run_loadCells_list (P := Try.prog) (w := W) ⟨b, 3, none⟩ ((row.toList.drop 3).take 32) (fun j v hv => by
    rw [add3, cell_of_row W b (3 + j) row 26 (0, 0) h3]
    rw [List.getElem?_take] at hv
    split at hv
    · rw [List.getElem?_drop] at hv
      simpa using hv
    · cases hv)
  rw [hlen] at hl
  have hagg : ∀ W, (isAgg 23).run Try.prog W = .ok true W := fun W => by kernel_rfl
  have hsz : ∀ W, (sizeOf 23).run Try.prog W = .ok 32 W := fun W => by kernel_rfl
  simp [loadVar, Sem.run_bind, hagg, hsz, hl, cutM]

theorem storeM (g : Nat) (vs : List Value) : ∀ (i : Nat) (cur : Array Value) (w : World), w.heap[g]? = some (.cells cur 26 (0, 0)) → 3 + i + vs.length ≤ cur.size → (∀ v ∈ vs, v.oneCell' = true) →
    (storeCells ⟨g, 3, none⟩ vs i).run Try.prog w = .ok () (w.setRow g (cur.toList.take (3 + i) ++ vs ++ cur.toList.drop (3 + i + vs.length)).toArray) := by
  induction vs with
  | nil =>
    intro i cur w hg hl _
    have : cur.toList.take (3 + i) ++ [] ++ cur.toList.drop (3 + i + 0) = cur.toList := by simp
    simp only [storeCells, List.length_nil, this, Array.toArray_toList]
    show Result.ok () w = _
    rw [setRow_self w g cur 26 (0, 0) hg]
  | cons v rest ih =>
    intro i cur w hg hl h1
    have hi : 3 + i < cur.size := by simp only [List.length_cons] at hl; omega
    have hcell : w.cell? ⟨g, 3 + i, none⟩ = some cur[3 + i] := by simp [World.cell?, hg, hi]
    have hfro : w.frozen? ⟨g, 3 + i, none⟩ = false := by simp [World.frozen?, hg]
    have hst : (store ((⟨g, 3, none⟩ : Addr).add i) v).run Try.prog w = .ok () (w.setRow g (cur.setIfInBounds (3 + i) v)) := by
      rw [add3, run_store Try.prog w _ v _ (h1 v (by simp)), hcell]
      simp [hfro, setCell_eq_setRow w g (3 + i) cur 26 (0, 0) v hg]
    have hi2 := ih (i + 1) (cur.setIfInBounds (3 + i) v) (w.setRow g (cur.setIfInBounds (3 + i) v)) (setRow_heap w g cur _ 26 _ hg) (by simp only [List.length_cons] at hl; simp; omega) (fun x hx => h1 x (by simp [hx]))
    simp only [storeCells, Sem.run_bind, hst, Result.andThen_ok, hi2, setRow_setRow]
    congr 3
    apply List.ext_getElem?
    intro k
    simp only [Array.toList_setIfInBounds, List.getElem?_append, List.length_take, List.length_set, Array.length_toList, List.length_append, List.length_cons, List.getElem?_drop, List.getElem?_take]
    by_cases hk : k < 3 + i
    · rw [if_pos (by omega), if_pos (by omega), if_pos (by omega), if_pos (by omega), if_pos (by omega), if_pos (by omega), List.getElem?_set_ne (by omega)]
    · by_cases hk2 : k = 3 + i
      · subst hk2
        rw [if_pos (by omega), if_pos (by omega), if_pos (by omega), if_pos (by omega), if_neg (by omega), List.getElem?_set_self (by simpa using hi)]
        simp [show min (3 + i) cur.size = 3 + i by omega]
      · by_cases hk3 : k < 3 + i + (rest.length + 1)
        · rw [if_pos (by omega), if_neg (by omega), if_pos (by omega), if_neg (by omega)]
          rw [show k - min (3 + i) cur.size = (k - min (3 + (i + 1)) cur.size) + 1 by omega, List.getElem?_cons_succ]
        · rw [if_neg (by omega), if_neg (by omega), List.getElem?_set_ne (by omega)]
          congr 1
          omega

theorem ex_st23o (ρ : Operand → Value) (dst : Option Tmp) (x y : Operand) (ty : TypeId) (pos : String) (af : Array Edge) (gd : Option (Nat × Bool)) (W : World) (h : okPtr3 W (ρ x) = true) (hy : okAgg 32 (ρ y) = true) :
    Sem.run Try.prog (execOp ρ ⟨dst, .store 23 x y, ty, pos, af, gd⟩) W = .ok .skip (W.setRow (ptr3 (ρ x)) (putM (rowOf W (ptr3 (ρ x))) (aggC (ρ y)))) := by
  obtain ⟨h1, h2⟩ := okPtr3_eq h
  obtain ⟨h3, h4⟩ := isRow_sr h2
  obtain ⟨k1, k2, k3⟩ := okAgg_eq hy
  unfold execOp
  simp only []
  rw [h1, k1]
  simp only [Instr.storeAt, Instr.sureAddr, Sem.run_bind, Sem.run_pure, Result.andThen_ok, ptr3_at, aggC_at]
  generalize rowOf W (ptr3 (ρ x)) = row at h3 h4 ⊢
  generalize ptr3 (ρ x) = b at h3 h4 ⊢
  generalize aggC (ρ y) = cs at k2 k3 ⊢
  have hs := storeM b cs.toList 0 row W h3 (by simp [k2, h4]) (fun v hv => (Array.all_eq_true_iff_forall_mem.1 k3) v (by simpa using hv))
  have hsz : ∀ W, (sizeOf 23).run Try.prog W = .ok 32 W := fun W => by kernel_rfl
  simp only [Nat.add_zero, Array.length_toList, k2] at hs
  simp [storeVar, hsz, Value.cells, k2, hs, putM]

/-- Block b is a sub. -/
abbrev SB (W : World) (b : Nat) (k m v : Int) (M : Mk) (l : Value) : Prop := SR 26 W b (sc k m v M l)
theorem SB.facts {W : World} {b : Nat} {k m v : Int} {M : Mk} {l : Value} (h : SB W b k m v M l) : rowOf W b = (sc k m v M l).toArray ∧ isRow W 26 b 36 = true := SR.facts h 36 (sc_len ..)
theorem SB.cells {W : World} {b : Nat} {k m v : Int} {M : Mk} {l : Value} (h : SB W b k m v M l) : W.cell? ⟨b, 0, none⟩ = some (.int .i64 k) ∧ W.cell? ⟨b, 1, none⟩ = some (.int .i64 m) ∧ W.cell? ⟨b, 2, none⟩ = some (.int .i64 v) ∧ W.cell? ⟨b, 35, none⟩ = some l :=
  ⟨SR.cell h 0, SR.cell h 1, SR.cell h 2, (SR.cell h 35).trans (sc_row ..)⟩
theorem SB.set1 {W : World} {b : Nat} {k m v : Int} {M : Mk} {l : Value} (h : SB W b k m v M l) (z : Int) : SB (W.setCell ⟨b, 1, none⟩ (.int .i64 z)) b k z v M l := SR.set h 1 _
theorem SB.set2 {W : World} {b : Nat} {k m v : Int} {M : Mk} {l : Value} (h : SB W b k m v M l) (z : Int) : SB (W.setCell ⟨b, 2, none⟩ (.int .i64 z)) b k m z M l := SR.set h 2 _
theorem SB.set35 {W : World} {b : Nat} {k m v : Int} {M : Mk} {l : Value} (h : SB W b k m v M l) (l' : Value) : SB (W.setCell ⟨b, 35, none⟩ l') b k m v M l' := by
  have := SR.set h 35 l'
  rw [sc_set35] at this
  exact this
theorem isRow_new26 (W : World) (k m v : Int) (M : Mk) (l : Value) : isRow (W.alloc (.cells (sc k m v M l).toArray 26)) 26 W.heap.size 36 = true := (SB.facts (SR.new 26 W (sc k m v M l))).2
theorem results_s {fn : Func} {p : Tmp} (h : fn.results = #[.cell p 26]) (tmps : Array Value) (w : World) (g : Nat) (k m v : Int) (M : Mk) (l : Value) (hp : tmps.getD p undef = .pointer (some ⟨g, 0, none⟩)) (hg : SB w g k m v M l) :
    (results fn tmps).run Try.prog w = .ok (sv k m v M l) w := by
  have hp' : tmps[p]?.getD undef = .pointer (some ⟨g, 0, none⟩) := by simpa using hp
  simp [results, h, hp', asAddr, run_loadVar_row w g 26 26 _ (0, 0) _ hg Try.underlying26 rfl (by rw [info26]; simp [sc_len])]

end Go.Proofs.Ytflmplnampgflaa
