/-
  Rows of items: what append makes of them; and a contract over the law's own Few. No conditions beyond those each theorem states.
-/
import Derived.Test.YtmgkfibkeonpmaaI6
namespace Go.Proofs.Ytmgkfibkeonpmaa
open Go.RowKit

/-- An item's cells. -/
def Itm.cells (x : Itm) : List Value := [.int .i64 x.k, .int .i64 x.a, .int .i64 x.b, .slice x.A x.l.length x.c]

/-- v is an owned row of the items L. -/
def OwnI (w : World) (base : Nat) (v : Value) (L : List Itm) : Prop := w.ownsRow base 41 4 v L.length (L.flatMap Itm.cells)

theorem OwnI.nil (w : World) (base : Nat) : OwnI w base (.slice none 0 0) [] := World.ownsRow_nil w base 41 4
theorem OwnI.alloc {w : World} {base : Nat} {v : Value} {L : List Itm} (h : OwnI w base v L) (o : Obj) : OwnI (w.alloc o) base v L := World.ownsRow.alloc h o
theorem OwnI.ge {w : World} {base : Nat} {v : Value} {L : List Itm} (h : OwnI w base v L) : ∀ k, v.ownBlock = some k → base ≤ k ∧ k < w.heap.size := World.ownsRow.lt h

theorem flat_get (L : List Itm) : ∀ (i : Nat) (h : i < L.length), (L.flatMap Itm.cells)[i * 4]? = some (.int .i64 L[i].k) ∧ (L.flatMap Itm.cells)[i * 4 + 1]? = some (.int .i64 L[i].a) ∧
    (L.flatMap Itm.cells)[i * 4 + 2]? = some (.int .i64 L[i].b) ∧ (L.flatMap Itm.cells)[i * 4 + 3]? = some (.slice L[i].A L[i].l.length L[i].c) := by
  induction L with
  | nil => intro i h; simp at h
  | cons x r ih =>
    intro i h
    have e : (x :: r).flatMap Itm.cells = .int .i64 x.k :: .int .i64 x.a :: .int .i64 x.b :: .slice x.A x.l.length x.c :: r.flatMap Itm.cells := by simp [Itm.cells]
    rw [e]
    cases i with
    | zero => exact ⟨rfl, rfl, rfl, rfl⟩
    | succ i =>
      have := ih i (by simpa using h)
      have e1 : (i + 1) * 4 = i * 4 + 1 + 1 + 1 + 1 := by omega
      simp only [e1, List.getElem?_cons_succ, List.getElem_cons_succ]
      exact this

theorem flat_len (L : List Itm) : (L.flatMap Itm.cells).length = L.length * 4 := by
  induction L with
  | nil => rfl
  | cons x r ih =>
    rw [List.flatMap_cons, List.length_append, ih, List.length_cons]
    simp only [Itm.cells, List.length_cons, List.length_nil]
    omega

theorem flat_one (L : List Itm) : ∀ u ∈ L.flatMap Itm.cells, u.oneCell' = true := by
  intro u hu
  obtain ⟨x, _, hx⟩ := List.mem_flatMap.1 hu
  simp only [Itm.cells, List.mem_cons, List.not_mem_nil, or_false] at hx
  rcases hx with rfl | rfl | rfl | rfl <;> rfl

theorem flat_cells {w : World} {b : Nat} (L : List Itm) : ∀ (off : Nat), (∀ (i : Nat) (h : i < L.length),
    w.cell? ⟨b, off + i * 4, none⟩ = some (.int .i64 L[i].k) ∧ w.cell? ⟨b, off + i * 4 + 1, none⟩ = some (.int .i64 L[i].a) ∧
    w.cell? ⟨b, off + i * 4 + 2, none⟩ = some (.int .i64 L[i].b) ∧ w.cell? ⟨b, off + i * 4 + 3, none⟩ = some (.slice L[i].A L[i].l.length L[i].c)) →
    ∀ j u, (L.flatMap Itm.cells)[j]? = some u → w.cell? ⟨b, off + j, none⟩ = some u := by
  induction L with
  | nil => intro off _ j u hu; simp at hu
  | cons x r ih =>
    intro off h j u hu
    have e : (x :: r).flatMap Itm.cells = .int .i64 x.k :: .int .i64 x.a :: .int .i64 x.b :: .slice x.A x.l.length x.c :: r.flatMap Itm.cells := by simp [Itm.cells]
    rw [e] at hu
    obtain ⟨h0, h1, h2, h3⟩ := h 0 (by simp)
    simp only [Nat.zero_mul, Nat.add_zero, List.getElem_cons_zero] at h0 h1 h2 h3
    match j, hu with
    | 0, hu => simp only [List.getElem?_cons_zero, Option.some.injEq] at hu; subst hu; exact h0
    | 1, hu => simp only [List.getElem?_cons_succ, List.getElem?_cons_zero, Option.some.injEq] at hu; subst hu; exact h1
    | 2, hu => simp only [List.getElem?_cons_succ, List.getElem?_cons_zero, Option.some.injEq] at hu; subst hu; exact h2
    | 3, hu => simp only [List.getElem?_cons_succ, List.getElem?_cons_zero, Option.some.injEq] at hu; subst hu; exact h3
    | j + 4, hu =>
      simp only [List.getElem?_cons_succ] at hu
      have := ih (off + 4) (fun i hi => by
        have := h (i + 1) (by simpa using hi)
        simp only [List.getElem_cons_succ] at this
        rw [show off + 4 + i * 4 = off + (i + 1) * 4 by omega]
        exact this) j u hu
      rw [show off + (j + 4) = off + 4 + j by omega]
      exact this

theorem OwnI.rd {w : World} {base : Nat} {v : Value} {L : List Itm} (h : OwnI w base v L) (hx : ∀ x ∈ L, Rd w w.heap.size x.A x.l x.c) : ∃ A c, v = .slice A L.length c ∧ RdI w A L c := by
  rcases h.2 with ⟨rfl, h0⟩ | ⟨g, cap, cur, rfl, hbg, hg, hnc, hcm, _, _⟩
  · have : L = [] := List.eq_nil_of_length_eq_zero h0
    subst this
    exact ⟨none, 0, rfl, by simp, by simp, fun e => absurd rfl e, fun x hx => by simp at hx⟩
  · refine ⟨_, _, rfl, hnc, hcm, fun _ => ⟨g, 0, rfl, (Array.getElem?_eq_some_iff.1 hg).1, fun i hi => ?_⟩, hx⟩
    have hc := World.ownsRow.cells h (g := g) rfl
    obtain ⟨f0, f1, f2, f3⟩ := flat_get L i hi
    have a0 := hc _ _ f0
    have a1 := hc _ _ f1
    have a2 := hc _ _ f2
    have a3 := hc _ _ f3
    rw [Addr.add_lit] at a0 a1 a2 a3
    rw [show (0 : Nat) + i * 4 + 1 = 0 + (i * 4 + 1) by omega, show (0 : Nat) + i * 4 + 2 = 0 + (i * 4 + 2) by omega, show (0 : Nat) + i * 4 + 3 = 0 + (i * 4 + 3) by omega]
    exact ⟨a0, a1, a2, a3⟩

theorem info29 : (Try.prog.info? 41).map (fun i => (i.zero, i.size, i.bytes)) = some (some (.agg #[.int .i64 0, .int .i64 0, .int .i64 0, .slice none 0 0]), 4, 48) := by kernel_rfl

theorem run_appI (w : World) (base : Nat) (ty : TypeId) (v : Value) (L : List Itm) (hown : OwnI w base v L) (A : Option Addr) (m c : Nat) (M : List Itm) (hm : m = M.length) (hr : RdI w A M c)
    (hlen : L.length + M.length ≤ 200000) (hbase : base ≤ w.heap.size) :
    ∃ v' w', (Builtin.append_ #[27, 27] ty #[v, .slice A m c]).run Try.prog w = .ok v' w' ∧ OwnI w' base v' (L ++ M) ∧ w.grownBy w' v.ownBlock ∧ (v'.ownBlock = v.ownBlock ∨ v'.ownBlock = some w.heap.size) := by
  subst hm
  obtain ⟨i0, hi, hz0, hz1, hz2⟩ := info_parts info29
  cases A with
  | none =>
    have : M = [] := by
      cases M with
      | nil => rfl
      | cons x r => obtain ⟨b, off, e, _⟩ := hr.2.2.1 (by simp); cases e
    subst this
    refine ⟨v, w, ?_, by simpa using hown, World.grownBy.refl w _, .inl rfl⟩
    rcases hown.2 with ⟨rfl, _⟩ | ⟨g, cap, cur, rfl, _, _, hnc, _⟩
    · simp [Builtin.append_, run_underlying Try.underlying27, sizeOf, typeInfo, hi, Builtin.lenOf, Builtin.firstCells]
    · simp [Builtin.append_, run_underlying Try.underlying27, sizeOf, typeInfo, hi, Builtin.lenOf, Builtin.firstCells, hnc, storeCells]
  | some ad =>
    obtain ⟨v', w', hrun, h2, h3, _, h5⟩ := run_append_own_at (P := Try.prog) w base 27 ty 41 i0 _ 4 48 Try.underlying27 hi hz0 hz1 hz2 rfl (by omega) v L.length (L.flatMap Itm.cells) hown ad M.length c (M.flatMap Itm.cells) (flat_len M)
      (fun j u hu => by
        obtain ⟨b, off, e, _, hce⟩ := hr.2.2.1 (by rintro rfl; simp at hu)
        injection e with e
        subst e
        rw [Addr.add_lit]
        exact flat_cells M off hce j u hu) (flat_one M) (by unfold maxLen; omega) (by omega) hbase
    refine ⟨v', w', hrun, ?_, h3, h5⟩
    unfold OwnI
    rw [List.length_append, List.flatMap_append]
    exact h2

theorem wpList_appI (w : World) {ops : Array Oper} {rest : List Oper} {o : Oper} {a : Act} {Q : Exit → Act → World → Prop} (hgd : o.guard = none) (s x : Operand)
    (ho : o.op = .call { callee := .builtin .append, args := #[s, x], argTypes := #[27, 27] })
    (base : Nat) (v : Value) (L : List Itm) (hs : a.eval s = v) (hown : OwnI w base v L) (A : Option Addr) (m c : Nat) (M : List Itm) (hx : a.eval x = .slice A m c) (hm : m = M.length) (hr : RdI w A M c)
    (hlen : L.length + M.length ≤ 200000) (hbase : base ≤ w.heap.size)
    (h : ∀ v' w', OwnI w' base v' (L ++ M) → w.grownBy w' v.ownBlock → (v'.ownBlock = v.ownBlock ∨ v'.ownBlock = some w.heap.size) → wpList Try.prog ops Q rest (a.put o.dst v') w') : wpList Try.prog ops Q (o :: rest) a w := by
  obtain ⟨v', w', hrun, h2, h3, h4⟩ := run_appI w base o.type v L hown A m c M hm hr hlen hbase
  refine wpList_plain hgd fun _ hK => ?_
  unfold Oper.wp execOp
  simp only [ho, resolve, invoke, builtin, Sem.run_bind, Sem.run_pure, Result.andThen_ok, List.map_toArray, List.map_cons, List.map_nil, hs, hx, hrun]
  exact hK _ _ (h v' w' h2 h3 h4)

/-- One item in a new block. -/
theorem one_rdI (w : World) (X : Itm) (hr : Rd w w.heap.size X.A X.l X.c) : RdI (w.alloc (.cells #[.int .i64 X.k, .int .i64 X.a, .int .i64 X.b, .slice X.A X.l.length X.c] 41)) (some ⟨w.heap.size, 0, none⟩) [X] 1 := by
  have q := SR.new 41 w [.int .i64 X.k, .int .i64 X.a, .int .i64 X.b, .slice X.A X.l.length X.c]
  refine ⟨by simp, by unfold maxLen; omega, fun _ => ⟨w.heap.size, 0, rfl, by simp, fun i hi => ?_⟩, fun x hx => ?_⟩
  · have : i = 0 := by simpa using hi
    subst this
    exact ⟨q.cell 0, q.cell 1, q.cell 2, q.cell 3⟩
  · have : x = X := by simpa using hx
    subst this
    exact hr.at_ (bAlloc (Below.refl _ _) _)

end Go.Proofs.Ytmgkfibkeonpmaa
