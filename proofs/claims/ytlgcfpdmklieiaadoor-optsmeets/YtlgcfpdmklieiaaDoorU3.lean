/-
  The contracts of sideOf, speaksOf, isYes, Same, mayBe, Check, Place.
-/
import Derived.Test.YtlgcfpdmklieiaaDoorU2
namespace Go.Proofs.YtlgcfpdmklieiaaDoor
open Go.RowKit

attribute [local go_sem ↓] ex_ld25 ex_ld67 ex_ld73 ex_st25 ex_st67 ex_st73
attribute [local go_sem] ptrB_at okPtr_at aggC_at agg16 agg11 agg12

/-- Is it all options of an end? -/
def isO : Value → Bool
  | .agg cs => match cs.toList with
    | [.int .i64 _, .int .i64 _, .int .i64 _, .int .i64 _, .int .i64 _, .int .i64 _, .int .i64 _, .int .i64 _, .bool _, .bool _, .bool _, .bool _, .bool _, .bool _, .bool _, .bool _] => true
    | _ => false
  | _ => false
def toO : Value → O
  | .agg cs => match cs.toList with
    | [.int .i64 a, .int .i64 b, .int .i64 c, .int .i64 d, .int .i64 e, .int .i64 f, .int .i64 g, .int .i64 h, .bool i, .bool j, .bool k, .bool l, .bool m, .bool n, .bool o, .bool p] => ⟨⟨a, b, c, d⟩, ⟨e, f, g, h⟩, ⟨i, j, k, l⟩, ⟨m, n, o, p⟩⟩
    | _ => ⟨⟨0, 0, 0, 0⟩, ⟨0, 0, 0, 0⟩, ⟨false, false, false, false⟩, ⟨false, false, false, false⟩⟩
  | _ => ⟨⟨0, 0, 0, 0⟩, ⟨0, 0, 0, 0⟩, ⟨false, false, false, false⟩, ⟨false, false, false, false⟩⟩
theorem isO_at (X : O) : isO X.v = true := rfl
theorem toO_at (X : O) : toO X.v = X := rfl
theorem isO_eq {v : Value} (h : isO v = true) : v = (toO v).v := by
  unfold isO at h
  split at h
  · rename_i cs
    split at h
    · rename_i e
      have : cs = cs.toList.toArray := by simp
      rw [this, e]
      rfl
    · cases h
  · cases h

theorem ex_eq25 (ρ : Operand → Value) (dst : Option Tmp) (x y : Operand) (t' ty : TypeId) (pos : String) (af : Array Edge) (gd : Option (Nat × Bool)) (W : World) (h : isO (ρ x) = true) (hy : isO (ρ y) = true) :
    Sem.run Tryd.prog (execOp ρ ⟨dst, .binOp .eql 25 x y t', ty, pos, af, gd⟩) W = .ok (.value (.bool (sameO (toO (ρ x)) (toO (ρ y))))) W := by
  unfold execOp
  simp only []
  rw [isO_eq h, isO_eq hy]
  simp only [Sem.run_bind, run_eqGuard_agg W _ _ _ _ _ _ Tryd.eqGuardType25, Result.andThen_ok, run_eql_struct, eq25, toO_at, Sem.run_pure]
theorem ex_ne25 (ρ : Operand → Value) (dst : Option Tmp) (x y : Operand) (t' ty : TypeId) (pos : String) (af : Array Edge) (gd : Option (Nat × Bool)) (W : World) (h : isO (ρ x) = true) (hy : isO (ρ y) = true) :
    Sem.run Tryd.prog (execOp ρ ⟨dst, .binOp .neq 25 x y t', ty, pos, af, gd⟩) W = .ok (.value (.bool (!sameO (toO (ρ x)) (toO (ρ y))))) W := by
  unfold execOp
  simp only []
  rw [isO_eq h, isO_eq hy]
  simp only [Sem.run_bind, run_eqGuard_agg W _ _ _ _ _ _ Tryd.eqGuardType25, Result.andThen_ok, run_neq_struct, eq25, toO_at, Sem.run_pure]

attribute [local go_sem ↓] ex_eq25 ex_ne25
attribute [local go_sem] isO_at toO_at

theorem same_any (X Y : O) (w : World) : Calls Tryd.prog 13 #[X.v, Y.v] w fun e w' => e = .returned (.bool (sameO X Y)) ∧ Below w.heap.size w w' := by
  go_enter Tryd.func13, Tryd.ntmps13
  go_upto_region 1 with fail
  generalize hW : (w.alloc (.cells X.cs.toArray 25)).alloc (.cells Y.cs.toArray 25) = W
  obtain ⟨h1, h2, h3, h4⟩ := two_new _ _ _ _ _ _ hW
  clear hW
  obtain ⟨r1, k1⟩ := h1.facts 16 rfl
  obtain ⟨r2, k2⟩ := h2.facts 16 rfl
  have HB := keepd h3
  clear h1 h2 h3
  go_wp2_with fail
  go_ret
  exact ⟨rfl, HB.out⟩

theorem sideOf_any (X : O) (h : Bool) (w : World) : Calls Tryd.prog 36 #[X.v, .bool h] w fun e w' => e = .returned (sideF X h).v ∧ Below w.heap.size w w' := by
  have C0 := keepd (ours_any X)
  have C1 := keepd (his_any X)
  cases h
  · obtain ⟨S, hS⟩ : ∃ S, sideF X false = S := ⟨_, rfl⟩
    rw [hS] at C0 ⊢
    clear hS C1
    go_enter Tryd.func36, Tryd.ntmps36
    go_upto_region 1 with fail
    generalize hW : (w.alloc (.cells X.cs.toArray 25)).alloc (.cells Z67.toArray 67) = W
    obtain ⟨h1, h2, h3, h4⟩ := two_new _ _ _ _ _ _ hW
    clear hW
    obtain ⟨r1, k1⟩ := h1.facts 16 rfl
    have H2 := keepd h2
    have H3 := keepd h3
    clear h1 h2 h3
    go_wp2_with fail
    with_reducible refine (C0.out _).mono ?_
    rintro e w1 ⟨rfl, hb⟩
    clear r1 k1
    have hs := H2.out.call hb H2.out.lt
    obtain ⟨r1, k1⟩ := hs.facts 11 rfl
    have HS := keepd (hs.row S.cs)
    have HB := keepd (bRow (bCall H3.out hb) (b := w.heap.size + 1) (Nat.le_succ _) S.cs.toArray)
    clear hb hs
    go_wp2_with fail
    exact bodyPost_ret (v := S.v) (results_cell_row Tryd.results36 _ _ (w.heap.size + 1) 67 _ (0, 0) _ rfl HS.out Tryd.underlying67 rfl info67) rfl ⟨rfl, HB.out⟩
  · obtain ⟨S, hS⟩ : ∃ S, sideF X true = S := ⟨_, rfl⟩
    rw [hS] at C1 ⊢
    clear hS C0
    go_enter Tryd.func36, Tryd.ntmps36
    go_upto_region 1 with fail
    generalize hW : (w.alloc (.cells X.cs.toArray 25)).alloc (.cells Z67.toArray 67) = W
    obtain ⟨h1, h2, h3, h4⟩ := two_new _ _ _ _ _ _ hW
    clear hW
    obtain ⟨r1, k1⟩ := h1.facts 16 rfl
    have H2 := keepd h2
    have H3 := keepd h3
    clear h1 h2 h3
    go_wp2_with fail
    with_reducible refine (C1.out _).mono ?_
    rintro e w1 ⟨rfl, hb⟩
    clear r1 k1
    have hs := H2.out.call hb H2.out.lt
    obtain ⟨r1, k1⟩ := hs.facts 11 rfl
    have HS := keepd (hs.row S.cs)
    have HB := keepd (bRow (bCall H3.out hb) (b := w.heap.size + 1) (Nat.le_succ _) S.cs.toArray)
    clear hb hs
    go_wp2_with fail
    exact bodyPost_ret (v := S.v) (results_cell_row Tryd.results36 _ _ (w.heap.size + 1) 67 _ (0, 0) _ rfl HS.out Tryd.underlying67 rfl info67) rfl ⟨rfl, HB.out⟩

/-- Of whom a verb speaks; whether it says yes. -/
def ofHim (v : Int) : Bool := (v == 251) || (v == 252)
def isYes (v : Int) : Bool := (v == 251) || (v == 253)

theorem isYes_any (v : Int) (w : World) : Calls Tryd.prog 32 #[.int .i64 v] w fun e w' => e = .returned (.bool (isYes v)) ∧ w' = w := by
  unfold isYes
  cases g1 : v == 251
  · go_enter Tryd.func32, Tryd.ntmps32
    go_wp2
    go_ret
    simp
  · go_enter Tryd.func32, Tryd.ntmps32
    go_wp2
    go_ret
    simp

theorem speaksOf_any (X : O) (v : Int) (w : World) : Calls Tryd.prog 29 #[X.v, .int .i64 v] w fun e w' => e = .returned (sideF X (ofHim v)).v ∧ Below w.heap.size w w' := by
  have C0 := keepd (sideOf_any X (ofHim v))
  obtain ⟨S, hS⟩ : ∃ S, sideF X (ofHim v) = S := ⟨_, rfl⟩
  rw [hS] at C0 ⊢
  clear hS
  unfold ofHim at C0
  cases g1 : v == 251
  all_goals
    rw [g1] at C0
    try rw [Bool.false_or] at C0
    try rw [Bool.true_or] at C0
    go_enter Tryd.func29, Tryd.ntmps29
    go_upto_region 1 with fail
    generalize hW : (w.alloc (.cells X.cs.toArray 25)).alloc (.cells Z67.toArray 67) = W
    obtain ⟨h1, h2, h3, h4⟩ := two_new _ _ _ _ _ _ hW
    clear hW
    obtain ⟨r1, k1⟩ := h1.facts 16 rfl
    have H2 := keepd h2
    have H3 := keepd h3
    clear h1 h2 h3
    go_wp2_with fail
    with_reducible refine (C0.out _).mono ?_
    rintro e w1 ⟨rfl, hb⟩
    clear r1 k1
    have hs := H2.out.call hb H2.out.lt
    obtain ⟨r1, k1⟩ := hs.facts 11 rfl
    have HS := keepd (hs.row S.cs)
    have HB := keepd (bRow (bCall H3.out hb) (b := w.heap.size + 1) (Nat.le_succ _) S.cs.toArray)
    clear hb hs
    go_wp2_with fail
    exact bodyPost_ret (v := S.v) (results_cell_row Tryd.results29 _ _ (w.heap.size + 1) 67 _ (0, 0) _ rfl HS.out Tryd.underlying67 rfl info67) rfl ⟨rfl, HB.out⟩

end Go.Proofs.YtlgcfpdmklieiaaDoor
