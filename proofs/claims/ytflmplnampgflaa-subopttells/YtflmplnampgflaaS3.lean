/-
  Rows of triples in memory: what they read as, what append and make make of them; two triples compared. No conditions beyond those each theorem states.
-/
import Derived.Test.YtflmplnampgflaaS2
import Derived.ChangeKeysEq
namespace Go.Proofs.Ytflmplnampgflaa
open Go.RowKit
set_option maxRecDepth 100000

/-- The cells of triple i of a row that begins at off. -/
def At (w : World) (b off : Nat) (x : Tr) : Prop :=
  w.cell? ⟨b, off, none⟩ = some (.int .i64 x.f) ∧ w.cell? ⟨b, off + 1, none⟩ = some (.int .i64 x.lv) ∧ w.cell? ⟨b, off + 2, none⟩ = some (.bool x.a) ∧
  w.cell? ⟨b, off + 3, none⟩ = some (.bool x.i) ∧ w.cell? ⟨b, off + 4, none⟩ = some (.bool x.o) ∧ w.cell? ⟨b, off + 5, none⟩ = some (.int .u8 (x.v.toNat : Int))

theorem At.keep {w w' : World} {B b off : Nat} {x : Tr} (h : At w b off x) (hb : Below B w w') (hB : b < B) : At w' b off x :=
  ⟨(hb.cell (p := ⟨b, _, none⟩) hB).trans h.1, (hb.cell (p := ⟨b, _, none⟩) hB).trans h.2.1, (hb.cell (p := ⟨b, _, none⟩) hB).trans h.2.2.1, (hb.cell (p := ⟨b, _, none⟩) hB).trans h.2.2.2.1,
    (hb.cell (p := ⟨b, _, none⟩) hB).trans h.2.2.2.2.1, (hb.cell (p := ⟨b, _, none⟩) hB).trans h.2.2.2.2.2⟩

/-- The slice value 'slice A L.length c' reads as the triples L. -/
def RdT (w : World) (A : Option Addr) (L : List Tr) (c : Nat) : Prop :=
  L.length ≤ c ∧ c ≤ maxLen ∧ (L ≠ [] → ∃ b off, A = some ⟨b, off, none⟩ ∧ b < w.heap.size ∧ ∀ (i : Nat) (x : Tr), L[i]? = some x → At w b (off + i * 6) x)

theorem RdT.at_ {w W : World} {A : Option Addr} {L : List Tr} {c : Nat} (h : RdT w A L c) (hb : Below w.heap.size w W) : RdT W A L c := by
  refine ⟨h.1, h.2.1, fun hne => ?_⟩
  obtain ⟨b, off, e, hlt, hce⟩ := h.2.2 hne
  exact ⟨b, off, e, Nat.lt_of_lt_of_le hlt hb.size, fun i x hi => (hce i x hi).keep hb hlt⟩

theorem RdT.nil (w : World) : RdT w none [] 0 := ⟨by simp, by simp, fun h => absurd rfl h⟩
theorem RdT.take {w : World} {A : Option Addr} {L : List Tr} {c : Nat} (h : RdT w A L c) (m : Nat) : RdT w A (L.take m) c := by
  refine ⟨by have := h.1; rw [List.length_take]; omega, h.2.1, fun hl => ?_⟩
  obtain ⟨b, off, e, hlt, hce⟩ := h.2.2 (by rintro rfl; simp at hl)
  refine ⟨b, off, e, hlt, fun i x hi => hce i x ?_⟩
  rw [List.getElem?_take] at hi
  split at hi
  · exact hi
  · cases hi
/-- The triple at a place. -/
theorem RdT.get {w : World} {A : Option Addr} {L : List Tr} {c : Nat} (h : RdT w A L c) (k : Nat) (hk : k < L.length) : ∃ b off, A = some ⟨b, off, none⟩ ∧ b < w.heap.size ∧ At w b (off + k * 6) L[k] := by
  obtain ⟨b, off, e, hlt, hce⟩ := h.2.2 (by rintro rfl; simp at hk)
  exact ⟨b, off, e, hlt, hce k _ (List.getElem?_eq_getElem hk)⟩

/-- v is an owned row of the triples L. -/
def OwnT (w : World) (base : Nat) (v : Value) (L : List Tr) : Prop := w.ownsRow base 60 6 v L.length (L.flatMap Tr.cells)

theorem OwnT.nil (w : World) (base : Nat) : OwnT w base (.slice none 0 0) [] := World.ownsRow_nil w base 60 6
theorem OwnT.alloc {w : World} {base : Nat} {v : Value} {L : List Tr} (h : OwnT w base v L) (o : Obj) : OwnT (w.alloc o) base v L := World.ownsRow.alloc h o
theorem OwnT.drew {w : World} {base : Nat} {v : Value} {L : List Tr} (h : OwnT w base v L) : OwnT w.drew base v L := h
theorem OwnT.ge {w : World} {base : Nat} {v : Value} {L : List Tr} (h : OwnT w base v L) : ∀ k, v.ownBlock = some k → base ≤ k ∧ k < w.heap.size := World.ownsRow.lt h
theorem OwnT.below {w w' : World} {base : Nat} {v : Value} {L : List Tr} (h : OwnT w base v L) (hb : Below w.heap.size w w') : OwnT w' base v L :=
  World.ownsRow.kept (row := none) h ⟨hb.os, hb.tape, hb.output, hb.size, fun k hk _ => hb.block k hk⟩ (by cases v.ownBlock <;> simp)
theorem ownT_grown {w w' : World} {base : Nat} {v : Value} {L : List Tr} (hown : OwnT w base v L) (hg : w.grownBy w' v.ownBlock) (hbase : base ≤ w.heap.size) : Below base w w' :=
  (Below.refl _ _).grown hg hbase (fun k hk => (hown.ge k hk).1)

theorem flat_len (L : List Tr) : (L.flatMap Tr.cells).length = L.length * 6 := by
  induction L with
  | nil => rfl
  | cons x r ih =>
    rw [List.flatMap_cons, List.length_append, ih, List.length_cons]
    simp only [Tr.cells, List.length_cons, List.length_nil]
    omega

theorem flat_one (L : List Tr) : ∀ u ∈ L.flatMap Tr.cells, u.oneCell' = true := by
  intro u hu
  obtain ⟨x, _, hx⟩ := List.mem_flatMap.1 hu
  simp only [Tr.cells, List.mem_cons, List.not_mem_nil, or_false] at hx
  rcases hx with rfl | rfl | rfl | rfl | rfl | rfl <;> rfl

theorem flat_get (L : List Tr) : ∀ (i : Nat) (x : Tr), L[i]? = some x → ∀ j u, x.cells[j]? = some u → (L.flatMap Tr.cells)[i * 6 + j]? = some u := by
  induction L with
  | nil => intro i x h; simp at h
  | cons y r ih =>
    intro i x h j u hu
    have hj : j < 6 := by
      have := (List.getElem?_eq_some_iff.1 hu).1
      simpa [Tr.cells] using this
    rw [List.flatMap_cons]
    cases i with
    | zero =>
      simp only [List.getElem?_cons_zero, Option.some.injEq] at h
      subst h
      rw [List.getElem?_append_left (by simp [Tr.cells]; omega), Nat.zero_mul, Nat.zero_add]
      exact hu
    | succ i =>
      simp only [List.getElem?_cons_succ] at h
      have := ih i x h j u hu
      rw [List.getElem?_append_right (by simp [Tr.cells]; omega)]
      rw [show (i + 1) * 6 + j - y.cells.length = i * 6 + j by simp [Tr.cells]; omega]
      exact this

theorem flat_cells {w : World} {b : Nat} (L : List Tr) : ∀ (off : Nat), (∀ (i : Nat) (x : Tr), L[i]? = some x → At w b (off + i * 6) x) →
    ∀ j u, (L.flatMap Tr.cells)[j]? = some u → w.cell? ⟨b, off + j, none⟩ = some u := by
  induction L with
  | nil => intro off _ j u hu; simp at hu
  | cons x r ih =>
    intro off h j u hu
    have e : (x :: r).flatMap Tr.cells = .int .i64 x.f :: .int .i64 x.lv :: .bool x.a :: .bool x.i :: .bool x.o :: .int .u8 (x.v.toNat : Int) :: r.flatMap Tr.cells := by simp [Tr.cells]
    rw [e] at hu
    obtain ⟨h0, h1, h2, h3, h4, h5⟩ := h 0 x rfl
    simp only [Nat.zero_mul, Nat.add_zero] at h0 h1 h2 h3 h4 h5
    match j, hu with
    | 0, hu => simp only [List.getElem?_cons_zero, Option.some.injEq] at hu; subst hu; exact h0
    | 1, hu => simp only [List.getElem?_cons_succ, List.getElem?_cons_zero, Option.some.injEq] at hu; subst hu; exact h1
    | 2, hu => simp only [List.getElem?_cons_succ, List.getElem?_cons_zero, Option.some.injEq] at hu; subst hu; exact h2
    | 3, hu => simp only [List.getElem?_cons_succ, List.getElem?_cons_zero, Option.some.injEq] at hu; subst hu; exact h3
    | 4, hu => simp only [List.getElem?_cons_succ, List.getElem?_cons_zero, Option.some.injEq] at hu; subst hu; exact h4
    | 5, hu => simp only [List.getElem?_cons_succ, List.getElem?_cons_zero, Option.some.injEq] at hu; subst hu; exact h5
    | j + 6, hu =>
      simp only [List.getElem?_cons_succ] at hu
      have := ih (off + 6) (fun i y hi => by
        have := h (i + 1) y (by simpa using hi)
        rw [show off + 6 + i * 6 = off + (i + 1) * 6 by omega]
        exact this) j u hu
      rw [show off + (j + 6) = off + 6 + j by omega]
      exact this

theorem OwnT.rd {w : World} {base : Nat} {v : Value} {L : List Tr} (h : OwnT w base v L) : ∃ A c, v = .slice A L.length c ∧ RdT w A L c := by
  rcases h.2 with ⟨rfl, h0⟩ | ⟨g, cap, cur, rfl, hbg, hg, hnc, hcm, _, _⟩
  · have : L = [] := List.eq_nil_of_length_eq_zero h0
    subst this
    exact ⟨none, 0, rfl, RdT.nil w⟩
  · refine ⟨_, _, rfl, hnc, hcm, fun _ => ⟨g, 0, rfl, (Array.getElem?_eq_some_iff.1 hg).1, fun i x hi => ?_⟩⟩
    have hc := World.ownsRow.cells h (g := g) rfl
    have a : ∀ j u, x.cells[j]? = some u → w.cell? ⟨g, 0 + i * 6 + j, none⟩ = some u := fun j u hu => by
      have := hc _ _ (flat_get L i x hi j u hu)
      rw [Addr.add_lit] at this
      rw [show (0 : Nat) + i * 6 + j = 0 + (i * 6 + j) by omega]
      exact this
    exact ⟨a 0 _ rfl, a 1 _ rfl, a 2 _ rfl, a 3 _ rfl, a 4 _ rfl, a 5 _ rfl⟩

theorem OwnT.rdOf {w : World} {base n c : Nat} {A : Option Addr} {L : List Tr} (h : OwnT w base (.slice A n c) L) : RdT w A L c ∧ n = L.length := by
  obtain ⟨A', c', e, hr⟩ := h.rd
  injection e with e1 e2 e3
  subst e1 e3
  exact ⟨hr, e2⟩

theorem info29 : (Try.prog.info? 60).map (fun i => (i.zero, i.size, i.bytes)) = some (some (.agg #[.int .i64 0, .int .i64 0, .bool false, .bool false, .bool false, .int .u8 0]), 6, 24) := by kernel_rfl

theorem run_appT (w : World) (base : Nat) (ty : TypeId) (v : Value) (L : List Tr) (hown : OwnT w base v L) (A : Option Addr) (m c : Nat) (M : List Tr) (hm : m = M.length) (hr : RdT w A M c)
    (hlen : L.length + M.length ≤ 10000) (hbase : base ≤ w.heap.size) :
    ∃ v' w', (Builtin.append_ #[24, 24] ty #[v, .slice A m c]).run Try.prog w = .ok v' w' ∧ OwnT w' base v' (L ++ M) ∧ w.grownBy w' v.ownBlock ∧ (v'.ownBlock = v.ownBlock ∨ v'.ownBlock = some w.heap.size) := by
  subst hm
  obtain ⟨i0, hi, hz0, hz1, hz2⟩ := info_parts info29
  cases A with
  | none =>
    have : M = [] := by
      cases M with
      | nil => rfl
      | cons x r => obtain ⟨b, off, e, _⟩ := hr.2.2 (by simp); cases e
    subst this
    refine ⟨v, w, ?_, by simpa using hown, World.grownBy.refl w _, .inl rfl⟩
    rcases hown.2 with ⟨rfl, _⟩ | ⟨g, cap, cur, rfl, _, _, hnc, _⟩
    · simp [Builtin.append_, run_underlying Try.underlying24, sizeOf, typeInfo, hi, Builtin.lenOf, Builtin.firstCells]
    · simp [Builtin.append_, run_underlying Try.underlying24, sizeOf, typeInfo, hi, Builtin.lenOf, Builtin.firstCells, hnc, storeCells]
  | some ad =>
    obtain ⟨v', w', hrun, h2, h3, _, h5⟩ := run_append_own_at (P := Try.prog) w base 24 ty 60 i0 _ 6 24 Try.underlying24 hi hz0 hz1 hz2 rfl (by omega) v L.length (L.flatMap Tr.cells) hown ad M.length c (M.flatMap Tr.cells) (flat_len M)
      (fun j u hu => by
        obtain ⟨b, off, e, _, hce⟩ := hr.2.2 (by rintro rfl; simp at hu)
        injection e with e
        subst e
        rw [Addr.add_lit]
        exact flat_cells M off hce j u hu) (flat_one M) (by unfold maxLen; omega) (by omega) hbase
    refine ⟨v', w', hrun, ?_, h3, h5⟩
    unfold OwnT
    rw [List.length_append, List.flatMap_append]
    exact h2

theorem wp_appT (w : World) {o : Oper} {a : Act} {K : Act → World → Prop} {Q : Exit → Act → World → Prop} (s x : Operand)
    (ho : o.op = .call { callee := .builtin .append, args := #[s, x], argTypes := #[24, 24] })
    (base : Nat) (v : Value) (L : List Tr) (hs : a.eval s = v) (hown : OwnT w base v L) (A : Option Addr) (m c : Nat) (M : List Tr) (hx : a.eval x = .slice A m c) (hm : m = M.length) (hr : RdT w A M c)
    (hlen : L.length + M.length ≤ 10000) (hbase : base ≤ w.heap.size)
    (h : ∀ v' w', OwnT w' base v' (L ++ M) → w.grownBy w' v.ownBlock → (v'.ownBlock = v.ownBlock ∨ v'.ownBlock = some w.heap.size) → K (a.put o.dst v') w') : o.wp Try.prog a w K Q := by
  obtain ⟨v', w', hrun, h2, h3, h4⟩ := run_appT w base o.type v L hown A m c M hm hr hlen hbase
  unfold Oper.wp execOp
  simp only [ho, resolve, invoke, builtin, Sem.run_bind, Sem.run_pure, Result.andThen_ok, List.map_toArray, List.map_cons, List.map_nil, hs, hx, hrun]
  exact h v' w' h2 h3 h4

theorem wpList_appT (w : World) {ops : Array Oper} {rest : List Oper} {o : Oper} {a : Act} {Q : Exit → Act → World → Prop} (hgd : o.guard = none) (s x : Operand)
    (ho : o.op = .call { callee := .builtin .append, args := #[s, x], argTypes := #[24, 24] })
    (base : Nat) (v : Value) (L : List Tr) (hs : a.eval s = v) (hown : OwnT w base v L) (A : Option Addr) (m c : Nat) (M : List Tr) (hx : a.eval x = .slice A m c) (hm : m = M.length) (hr : RdT w A M c)
    (hlen : L.length + M.length ≤ 10000) (hbase : base ≤ w.heap.size)
    (h : ∀ v' w', OwnT w' base v' (L ++ M) → w.grownBy w' v.ownBlock → (v'.ownBlock = v.ownBlock ∨ v'.ownBlock = some w.heap.size) → wpList Try.prog ops Q rest (a.put o.dst v') w') : wpList Try.prog ops Q (o :: rest) a w :=
  wpList_plain hgd fun _ hK => wp_appT w s x ho base v L hs hown A m c M hx hm hr hlen hbase fun v' w' h2 h3 h4 => hK _ _ (h v' w' h2 h3 h4)

theorem wpList_appTG (w : World) {ops : Array Oper} {rest : List Oper} {o : Oper} {a : Act} {Q : Exit → Act → World → Prop} (hw : Region.wanted o (yielded ops a.tmps) = true) (s x : Operand)
    (ho : o.op = .call { callee := .builtin .append, args := #[s, x], argTypes := #[24, 24] })
    (base : Nat) (v : Value) (L : List Tr) (hs : a.eval s = v) (hown : OwnT w base v L) (A : Option Addr) (m c : Nat) (M : List Tr) (hx : a.eval x = .slice A m c) (hm : m = M.length) (hr : RdT w A M c)
    (hlen : L.length + M.length ≤ 10000) (hbase : base ≤ w.heap.size)
    (h : ∀ v' w', OwnT w' base v' (L ++ M) → w.grownBy w' v.ownBlock → (v'.ownBlock = v.ownBlock ∨ v'.ownBlock = some w.heap.size) → wpList Try.prog ops Q rest (a.put o.dst v') w') : wpList Try.prog ops Q (o :: rest) a w := by
  unfold wpList
  rw [if_pos hw]
  exact .inl (wp_appT w s x ho base v L hs hown A m c M hx hm hr hlen hbase h)

theorem step_appT (w : World) {ops : Array Oper} {o : Oper} {a : Act} {K : Act → World → Prop} {Q : Exit → Act → World → Prop} {E : Prop} (hgd : o.guard = none) (s x : Operand)
    (ho : o.op = .call { callee := .builtin .append, args := #[s, x], argTypes := #[24, 24] })
    (base : Nat) (v : Value) (L : List Tr) (hs : a.eval s = v) (hown : OwnT w base v L) (A : Option Addr) (m c : Nat) (M : List Tr) (hx : a.eval x = .slice A m c) (hm : m = M.length) (hr : RdT w A M c)
    (hlen : L.length + M.length ≤ 10000) (hbase : base ≤ w.heap.size)
    (h : ∀ v' w', OwnT w' base v' (L ++ M) → w.grownBy w' v.ownBlock → (v'.ownBlock = v.ownBlock ∨ v'.ownBlock = some w.heap.size) → K (a.put o.dst v') w') :
    if Region.wanted o (yielded ops a.tmps) = true then Oper.wp Try.prog o a w K Q else E := by
  have hw : Region.wanted o (yielded ops a.tmps) = true := by simp [Region.wanted, hgd]
  rw [if_pos hw]
  exact wp_appT w s x ho base v L hs hown A m c M hx hm hr hlen hbase h

/-- One triple in a new block. -/
theorem one_rdT (w : World) (X : Tr) : RdT (w.alloc (.cells #[.int .i64 X.f, .int .i64 X.lv, .bool X.a, .bool X.i, .bool X.o, .int .u8 (X.v.toNat : Int)] 60)) (some ⟨w.heap.size, 0, none⟩) [X] 1 := by
  have q := SR.new 60 w [.int .i64 X.f, .int .i64 X.lv, .bool X.a, .bool X.i, .bool X.o, .int .u8 (X.v.toNat : Int)]
  refine ⟨by simp, by unfold maxLen; omega, fun _ => ⟨w.heap.size, 0, rfl, by simp, fun i x hi => ?_⟩⟩
  have : i = 0 := by
    have := (List.getElem?_eq_some_iff.1 hi).1
    simpa using this
  subst this
  simp only [List.getElem?_cons_zero, Option.some.injEq] at hi
  subst hi
  exact ⟨q.cell 0, q.cell 1, q.cell 2, q.cell 3, q.cell 4, q.cell 5⟩

theorem emptyT_own (w : World) (base : Nat) (h : base ≤ w.heap.size) : OwnT (w.alloc (.cells #[] 60)) base (.slice (some ⟨w.heap.size, 0, none⟩) 0 0) [] :=
  ⟨by simp, .inr ⟨w.heap.size, 0, #[], rfl, h, heap_alloc_new w _, Nat.le_refl _, by simp, by simp, by simp⟩⟩

/-- A new row with room for n triples; for n octets. -/
theorem makeT_run (n : Nat) (hn : n ≤ 1000) (W : World) : ∃ cur, (Instr.makeSlice 24 (.int .i64 0) (.int .i64 (n : Int))).run Try.prog W = .ok (.slice (some ⟨W.heap.size, 0, none⟩) 0 n) (W.alloc (.cells cur 60)) ∧
    OwnT (W.alloc (.cells cur 60)) W.heap.size (.slice (some ⟨W.heap.size, 0, none⟩) 0 n) [] := by
  obtain ⟨i0, hi, hz0, hz1, hz2⟩ := info_parts info29
  have := run_make (P := Try.prog) W 24 60 i0 _ Try.underlying24 hi hz0 .i64 .i64 0 n (by omega) (by omega) (by rw [hz2]; omega) (by omega)
  rw [hz1] at this
  refine ⟨_, this, ?_⟩
  exact World.ownsRow_made W _ n (Nat.le_refl _) (by unfold maxLen; omega) (by rw [size_madeCells]; simp)
theorem makeB_run (n : Nat) (hn : n ≤ 1000) (W : World) : ∃ cur, (Instr.makeSlice 27 (.int .i64 0) (.int .i64 (n : Int))).run Try.prog W = .ok (.slice (some ⟨W.heap.size, 0, none⟩) 0 n) (W.alloc (.cells cur 5)) ∧
    Own (W.alloc (.cells cur 5)) W.heap.size (.slice (some ⟨W.heap.size, 0, none⟩) 0 n) [] := by
  obtain ⟨i0, hi, hz0, hz1, hz2⟩ := info_parts info5
  have := run_make (P := Try.prog) W 27 5 i0 _ Try.underlying27 hi hz0 .i64 .i64 0 n (by omega) (by omega) (by rw [hz2]; omega) (by omega)
  rw [hz1] at this
  refine ⟨_, this, ?_⟩
  exact World.ownsRow_made W _ n (Nat.le_refl _) (by unfold maxLen; omega) (by rw [size_madeCells]; simp)

/-- Are two triples the same? -/
def sameT (X Y : Tr) : Bool := X.f == Y.f && (X.lv == Y.lv && (X.a == Y.a && (X.i == Y.i && (X.o == Y.o && (X.v.toNat : Int) == (Y.v.toNat : Int)))))
theorem sameT_eq (X Y : Tr) : sameT X Y = decide (X = Y) := by
  obtain ⟨a, b, c, d, e, f⟩ := X
  obtain ⟨a', b', c', d', e', f'⟩ := Y
  rw [Bool.eq_iff_iff]
  simp only [sameT, Bool.and_eq_true, beq_iff_eq, decide_eq_true_eq, Tr.mk.injEq]
  have : ((f.toNat : Int) = (f'.toNat : Int)) ↔ f = f' := by
    constructor
    · intro h; exact UInt8.toNat_inj.1 (by omega)
    · rintro rfl; rfl
  rw [this]

set_option maxHeartbeats 2000000 in
theorem eq29 (X Y : Tr) (W : World) : Sem.run Try.prog (Op.equalIn 10000 60 X.val Y.val) W = .ok (sameT X Y) W := by
  unfold Tr.val
  rw [run_equalIn_agg W 9999 60 _ _ (by kernel_rfl) (by kernel_rfl)]
  have hf : (Try.prog.fieldsOf 60).toList = [{ name := "F", type := 3, offset := 0, embedded := false, tag := "", pkgPath := "", byteOffset := 0 }, { name := "Level", type := 3, offset := 1, embedded := false, tag := "", pkgPath := "", byteOffset := 8 },
    { name := "Ack", type := 4, offset := 2, embedded := false, tag := "", pkgPath := "", byteOffset := 16 }, { name := "In", type := 4, offset := 3, embedded := false, tag := "", pkgPath := "", byteOffset := 17 },
    { name := "Out", type := 4, offset := 4, embedded := false, tag := "", pkgPath := "", byteOffset := 18 }, { name := "V", type := 5, offset := 5, embedded := false, tag := "", pkgPath := "", byteOffset := 19 }] := by kernel_rfl
  rw [hf]
  unfold sameT
  cases h1 : X.f == Y.f
  · simp [Op.eqFields, part, go_sem, h1]
  cases h2 : X.lv == Y.lv
  · simp [Op.eqFields, part, go_sem, h1, h2]
  cases h3 : X.a == Y.a
  · simp [Op.eqFields, part, go_sem, h1, h2, h3]
  cases h4 : X.i == Y.i
  · simp [Op.eqFields, part, go_sem, h1, h2, h3, h4]
  cases h5 : X.o == Y.o
  · simp [Op.eqFields, part, go_sem, h1, h2, h3, h4, h5]
  cases h6 : (X.v.toNat : Int) == (Y.v.toNat : Int)
  · simp [Op.eqFields, part, go_sem, h1, h2, h3, h4, h5, h6]
  simp [Op.eqFields, part, go_sem, h1, h2, h3, h4, h5, h6]

/-- Is it a triple? Which one? -/
def isV : Value → Bool
  | .agg cs => match cs.toList with
    | [.int .i64 _, .int .i64 _, .bool _, .bool _, .bool _, .int .u8 v] => decide (0 ≤ v ∧ v ≤ 255)
    | _ => false
  | _ => false
def toV : Value → Tr
  | .agg cs => match cs.toList with
    | [.int .i64 a, .int .i64 b, .bool c, .bool d, .bool e, .int .u8 v] => ⟨a, b, c, d, e, u8 v⟩
    | _ => ⟨0, 0, false, false, false, 0⟩
  | _ => ⟨0, 0, false, false, false, 0⟩
theorem isV_at (a b : Int) (c d e : Bool) (v : UInt8) : isV (.agg #[.int .i64 a, .int .i64 b, .bool c, .bool d, .bool e, .int .u8 (v.toNat : Int)]) = true := by
  have := v.toNat_lt
  simp only [isV]
  exact decide_eq_true (by omega)
theorem toV_at (a b : Int) (c d e : Bool) (v : UInt8) : toV (.agg #[.int .i64 a, .int .i64 b, .bool c, .bool d, .bool e, .int .u8 (v.toNat : Int)]) = ⟨a, b, c, d, e, v⟩ := by
  simp only [toV, u8_of]
theorem isV_eq {v : Value} (h : isV v = true) : v = (toV v).val := by
  unfold isV at h
  split at h
  · rename_i cs
    split at h
    · rename_i e
      have h' := of_decide_eq_true h
      have : cs = cs.toList.toArray := by simp
      rw [this, e]
      simp only [toV, Tr.val]
      rw [u8_back h'.1 h'.2]
    · cases h
  · cases h

theorem ex_eq29 (ρ : Operand → Value) (dst : Option Tmp) (x y : Operand) (t' ty : TypeId) (pos : String) (af : Array Edge) (gd : Option (Nat × Bool)) (W : World) (h : isV (ρ x) = true) (hy : isV (ρ y) = true) :
    Sem.run Try.prog (execOp ρ ⟨dst, .binOp .eql 60 x y t', ty, pos, af, gd⟩) W = .ok (.value (.bool (sameT (toV (ρ x)) (toV (ρ y))))) W := by
  have e1 := isV_eq h
  have e2 := isV_eq hy
  have e3 := eq29 (toV (ρ x)) (toV (ρ y)) W
  rw [← e1, ← e2] at e3
  unfold execOp
  simp only []
  generalize toV (ρ x) = X at e1 e3 ⊢
  generalize toV (ρ y) = Y at e2 e3 ⊢
  rw [e1, e2] at e3 ⊢
  unfold Tr.val at e3 ⊢
  simp only [Sem.run_bind, run_eqGuard_agg W _ _ _ _ _ _ Try.eqGuardType60, Result.andThen_ok, run_eql_struct, e3, Sem.run_pure]
theorem ex_ne29 (ρ : Operand → Value) (dst : Option Tmp) (x y : Operand) (t' ty : TypeId) (pos : String) (af : Array Edge) (gd : Option (Nat × Bool)) (W : World) (h : isV (ρ x) = true) (hy : isV (ρ y) = true) :
    Sem.run Try.prog (execOp ρ ⟨dst, .binOp .neq 60 x y t', ty, pos, af, gd⟩) W = .ok (.value (.bool (!sameT (toV (ρ x)) (toV (ρ y))))) W := by
  have e1 := isV_eq h
  have e2 := isV_eq hy
  have e3 := eq29 (toV (ρ x)) (toV (ρ y)) W
  rw [← e1, ← e2] at e3
  unfold execOp
  simp only []
  generalize toV (ρ x) = X at e1 e3 ⊢
  generalize toV (ρ y) = Y at e2 e3 ⊢
  rw [e1, e2] at e3 ⊢
  unfold Tr.val at e3 ⊢
  simp only [Sem.run_bind, run_eqGuard_agg W _ _ _ _ _ _ Try.eqGuardType60, Result.andThen_ok, run_neq_struct, e3, Sem.run_pure]

end Go.Proofs.Ytflmplnampgflaa
