/-
  The law OptsAlone: what lies in its memory, and what is changed at each place.
-/
import Derived.Test.YtlgcfpdmklieiaaDoorL2a
import Derived.Deep.WholeRow
namespace Go.Proofs.YtlgcfpdmklieiaaDoor
open Go.RowKit
set_option maxRecDepth 100000

attribute [local go_sem ↓] ex_ld25 ex_ld67 ex_ld73 ex_st25 ex_st67 ex_st73 ex_eq25 ex_ne25 ex_ix22
attribute [local go_sem] ptrB_at okPtr_at aggC_at agg16 agg11 agg12 isO_at toO_at idx0 idx1 idx2 idx3 okIdx_at isRow_new World.setRow_alloc_new

/-- What lies in the law's memory. -/
structure AM (w : World) (X Y Z : O) (v c : Int) (hm on : Bool) (p : Int) (bY bZ : Nat) (sl sm : Value) (L M : List (Int × Int)) (W : World) : Prop where
  x : SR 25 W w.heap.size X.cs
  v : SR 27 W (w.heap.size + 1) [.int .i64 v, .int .i64 c]
  k : SR 29 W (w.heap.size + 1 + 1) [.bool hm, .bool on, .int .i64 p]
  y : SR 25 W bY Y.cs
  z : SR 25 W bZ Z.cs
  l : One W 0 sl L
  m : One W 0 sm M
  b : Below w.heap.size w W

section
variable {w W : World} {X Y Z : O} {v c : Int} {hm on : Bool} {p : Int} {bY bZ : Nat} {sl sm : Value} {L M : List (Int × Int)}
theorem AM.call (h : AM w X Y Z v c hm on p bY bZ sl sm L M W) {W' : World} (hb : Below W.heap.size W W') : AM w X Y Z v c hm on p bY bZ sl sm L M W' :=
  ⟨h.x.call hb h.x.lt, h.v.call hb h.v.lt, h.k.call hb h.k.lt, h.y.call hb h.y.lt, h.z.call hb h.z.lt, h.l.below hb, h.m.below hb, bCall h.b hb⟩
theorem AM.drewN (h : AM w X Y Z v c hm on p bY bZ sl sm L M W) (n : Nat) : AM w X Y Z v c hm on p bY bZ sl sm L M (W.drewN n) :=
  ⟨h.x, h.v, h.k, h.y, h.z, h.l, h.m, bDrewN h.b n⟩
end

theorem cs_us (X : O) (k : Nat) (h : k < 4) : X.cs[k]? = some (.int .i64 (X.us.at k)) := by
  match k, h with
  | 0, _ => rfl
  | 1, _ => rfl
  | 2, _ => rfl
  | 3, _ => rfl
theorem cs_him (X : O) (k : Nat) (h : k < 4) : X.cs[4 + k]? = some (.int .i64 (X.him.at k)) := by
  match k, h with
  | 0, _ => rfl
  | 1, _ => rfl
  | 2, _ => rfl
  | 3, _ => rfl

/-- Four bools compared. -/
def isB4 : Value → Bool
  | .agg cs => match cs.toList with
    | [.bool _, .bool _, .bool _, .bool _] => true
    | _ => false
  | _ => false
def toB4 : Value → Four Bool
  | .agg cs => match cs.toList with
    | [.bool a, .bool b, .bool c, .bool d] => ⟨a, b, c, d⟩
    | _ => ⟨false, false, false, false⟩
  | _ => ⟨false, false, false, false⟩
theorem isB4_at (a b c d : Bool) : isB4 (.agg #[.bool a, .bool b, .bool c, .bool d]) = true := rfl
theorem toB4_at (x : Four Bool) : toB4 (.agg #[.bool x.a, .bool x.b, .bool x.c, .bool x.d]) = x := rfl
theorem isB4_eq {v : Value} (h : isB4 v = true) : v = .agg #[.bool (toB4 v).a, .bool (toB4 v).b, .bool (toB4 v).c, .bool (toB4 v).d] := by
  unfold isB4 at h
  split at h
  · rename_i cs
    split at h
    · rename_i e
      have : cs = cs.toList.toArray := by simp
      rw [this, e]
      rfl
    · cases h
  · cases h
theorem same4_self {α : Type} [BEq α] [LawfulBEq α] (x : Four α) : same4 x x = true := (same4_iff x x).2 rfl
theorem ex_eq23 (ρ : Operand → Value) (dst : Option Tmp) (x y : Operand) (t' ty : TypeId) (pos : String) (af : Array Edge) (gd : Option (Nat × Bool)) (W : World) (h : isB4 (ρ x) = true) (hy : isB4 (ρ y) = true) :
    Sem.run Tryd.prog (execOp ρ ⟨dst, .binOp .eql 23 x y t', ty, pos, af, gd⟩) W = .ok (.value (.bool (same4 (toB4 (ρ x)) (toB4 (ρ y))))) W := by
  have e := eq23 9998 (toB4 (ρ x)) (toB4 (ρ y)) W
  simp only [Nat.reduceAdd] at e
  unfold execOp
  simp only []
  rw [isB4_eq h, isB4_eq hy]
  simp only [Sem.run_bind, run_eqGuard_agg W _ _ _ _ _ _ Tryd.eqGuardType23, Result.andThen_ok, run_eql_struct, toB4_at, e, Sem.run_pure]
attribute [local go_sem ↓] ex_eq23
attribute [local go_sem] isB4_at toB4_at

/-- Rows besides. -/
def Rws (W : World) : List (Nat × List Value) → Prop
  | [] => True
  | x :: r => SR 51 W x.1 x.2 ∧ Rws W r
theorem Rws.call {W W' : World} {l : List (Nat × List Value)} (h : Rws W l) (hb : Below W.heap.size W W') : Rws W' l := by
  induction l with
  | nil => trivial
  | cons x r ih => exact ⟨h.1.call hb h.1.lt, ih h.2⟩
theorem Rws.drew {W : World} {l : List (Nat × List Value)} (h : Rws W l) : Rws W.drew l := by
  induction l with
  | nil => trivial
  | cons x r ih => exact ⟨h.1, ih h.2⟩
structure A14 (w : World) (X Y Z : O) (v c : Int) (hm on : Bool) (p : Int) (bY bZ : Nat) (sl sm : Value) (L M : List (Int × Int)) (l : List (Nat × List Value)) (W : World) : Prop where
  am : AM w X Y Z v c hm on p bY bZ sl sm L M W
  rw : Rws W l
section
variable {w W : World} {X Y Z : O} {v c : Int} {hm on : Bool} {p : Int} {bY bZ : Nat} {sl sm : Value} {L M : List (Int × Int)} {l : List (Nat × List Value)}
theorem A14.call (h : A14 w X Y Z v c hm on p bY bZ sl sm L M l W) {W' : World} (hb : Below W.heap.size W W') : A14 w X Y Z v c hm on p bY bZ sl sm L M l W' := ⟨h.am.call hb, h.rw.call hb⟩
theorem A14.drew (h : A14 w X Y Z v c hm on p bY bZ sl sm L M l W) : A14 w X Y Z v c hm on p bY bZ sl sm L M l W.drew := ⟨⟨h.am.x, h.am.v, h.am.k, h.am.y, h.am.z, h.am.l, h.am.m, h.am.b.drew⟩, h.rw.drew⟩
theorem A14.s1 {b : Nat} {u d : Int} (h : A14 w X Y Z v c hm on p bY bZ sl sm L M [(b, itC u d)] W) :
    W.cell? ⟨b, 0, none⟩ = some (.int .i64 3) ∧ W.cell? ⟨b, 1, none⟩ = some (.int .i64 u) ∧ W.cell? ⟨b, 2, none⟩ = some (.int .i64 d) ∧ W.cell? ⟨b, 3, none⟩ = some (.slice none 0 0) ∧ W.cell? ⟨w.heap.size + 1, 1, none⟩ = some (.int .i64 c) ∧ A14 w X Y Z v c hm on p bY bZ sl sm L M [(b, itC u d)] W :=
  ⟨h.rw.1.cell 0, h.rw.1.cell 1, h.rw.1.cell 2, h.rw.1.cell 3, h.am.v.cell 1, h⟩
theorem A14.s2 {b b' : Nat} {u d u' d' : Int} (h : A14 w X Y Z v c hm on p bY bZ sl sm L M [(b, itC u d), (b', itC u' d')] W) :
    W.cell? ⟨b, 0, none⟩ = some (.int .i64 3) ∧ W.cell? ⟨b, 1, none⟩ = some (.int .i64 u) ∧ W.cell? ⟨b, 2, none⟩ = some (.int .i64 d) ∧ W.cell? ⟨b, 3, none⟩ = some (.slice none 0 0) ∧
    W.cell? ⟨b', 0, none⟩ = some (.int .i64 3) ∧ W.cell? ⟨b', 1, none⟩ = some (.int .i64 u') ∧ W.cell? ⟨b', 2, none⟩ = some (.int .i64 d') ∧ W.cell? ⟨b', 3, none⟩ = some (.slice none 0 0) ∧
    W.cell? ⟨w.heap.size + 1, 1, none⟩ = some (.int .i64 c) ∧ A14 w X Y Z v c hm on p bY bZ sl sm L M [(b, itC u d), (b', itC u' d')] W :=
  ⟨h.rw.1.cell 0, h.rw.1.cell 1, h.rw.1.cell 2, h.rw.1.cell 3, h.rw.2.1.cell 0, h.rw.2.1.cell 1, h.rw.2.1.cell 2, h.rw.2.1.cell 3, h.am.v.cell 1, h⟩
end

theorem One.ans {W : World} {sl : Value} {L : List (Int × Int)} {c : Int} (h : One W 0 sl L) (ha : Ans L c) :
    sl = .slice none 0 0 ∨ ∃ b u, sl = .slice (some ⟨b, 0, none⟩) 1 1 ∧ SR 51 W b (itC u c) ∧ (vOk u && cOk c) = true := by
  rcases h with ⟨h1, _⟩ | ⟨b, v', c', h1, h2, _, h4⟩
  · exact .inl h1
  · rcases ha with e | ⟨u, e, ho⟩
    · rw [e] at h2; cases h2
    · rw [e] at h2
      simp only [List.cons.injEq, Prod.mk.injEq, and_true] at h2
      obtain ⟨rfl, rfl⟩ := h2
      exact .inr ⟨b, u, h1, h4, ho⟩

/-- What is changed at a place: nothing; or his; or ours. -/
theorem way3 {X Y : O} {b : Bool} {p : Int} {f : Bool} (h : Only X Y b p f) (i : Nat) (hi : i < 4) :
    ((Y.him.at i != X.him.at i) = false ∧ (Y.us.at i != X.us.at i) = false) ∨ ((Y.him.at i != X.him.at i) = true ∧ (Y.us.at i != X.us.at i) = false ∧ f = true ∧ ((i : Int) == p) = true ∧ b = true) ∨
    ((Y.him.at i != X.him.at i) = false ∧ (Y.us.at i != X.us.at i) = true ∧ f = true ∧ ((i : Int) == p) = true ∧ b = false) := by
  have hp : P4 (i : Int) := by unfold P4; omega
  by_cases h1 : Y.him.at i = X.him.at i
  · by_cases h2 : Y.us.at i = X.us.at i
    · exact .inl ⟨by simp [h1], by simp [h2]⟩
    · rcases h.us i hp with e | ⟨e1, e2, e3⟩
      · exact absurd e h2
      · exact .inr (.inr ⟨by simp [h1], by simp [h2], e1, by simp [e2], e3⟩)
  · rcases h.him i hp with e | ⟨e1, e2, e3⟩
    · exact absurd e h1
    · refine .inr (.inl ⟨by simp [h1], ?_, e1, by simp [e2], e3⟩)
      rcases h.us i hp with e | ⟨_, _, e⟩
      · simp [e]
      · rw [e3] at e; cases e

theorem One.ans0 {W : World} {sl : Value} (h : One W 0 sl []) : sl = .slice none 0 0 := by
  rcases h with ⟨h1, _⟩ | ⟨_, _, _, _, h2, _⟩
  · exact h1
  · cases h2
theorem One.ans1 {W : World} {sl : Value} {u c : Int} (h : One W 0 sl [(u, c)]) : ∃ b, sl = .slice (some ⟨b, 0, none⟩) 1 1 ∧ SR 51 W b (itC u c) := by
  rcases h with ⟨_, h2⟩ | ⟨b, v', c', h1, h2, _, h4⟩
  · cases h2
  · simp only [List.cons.injEq, Prod.mk.injEq, and_true] at h2
    obtain ⟨rfl, rfl⟩ := h2
    exact ⟨b, h1, h4⟩

end Go.Proofs.YtlgcfpdmklieiaaDoor
