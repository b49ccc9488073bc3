/-
  Rows of events in memory: reading, owning, what append makes of them. No conditions beyond those each theorem states.
-/
import Derived.Test.YtecihodifgjkoaaDoorEP
import Derived.Test.YtecihodifgjkoaaDoorE1
namespace Go.Proofs.YtecihodifgjkoaaDoor
open Go.RowKit
set_option maxRecDepth 100000

/-- An event in memory. -/
structure EvM where
  k : Int
  f : Int
  A : Option Addr
  l : List UInt8
  c : Nat
def EvM.abs (x : EvM) : Ev := ⟨x.k, x.f, x.l⟩
/-- An event's cells. -/
def EvM.cells (x : EvM) : List Value := [.int .i64 x.k, .int .i64 x.f, .slice x.A x.l.length x.c]

/-- The slice value 'slice A L.length c' reads as the events L. -/
def RdE (w : World) (A : Option Addr) (L : List EvM) (c : Nat) : Prop :=
  L.length ≤ c ∧ c ≤ maxLen ∧
  (L ≠ [] → ∃ b off, A = some ⟨b, off, none⟩ ∧ b < w.heap.size ∧ ∀ (i : Nat) (h : i < L.length),
    w.cell? ⟨b, off + i * 3, none⟩ = some (.int .i64 L[i].k) ∧ w.cell? ⟨b, off + i * 3 + 1, none⟩ = some (.int .i64 L[i].f) ∧
    w.cell? ⟨b, off + i * 3 + 2, none⟩ = some (.slice L[i].A L[i].l.length L[i].c)) ∧
  ∀ x ∈ L, Rd w w.heap.size x.A x.l x.c

theorem RdE.at_ {w W : World} {A : Option Addr} {L : List EvM} {c : Nat} (h : RdE w A L c) (hb : Below w.heap.size w W) : RdE W A L c := by
  refine ⟨h.1, h.2.1, fun hne => ?_, fun x hx => (h.2.2.2 x hx).at_ hb⟩
  obtain ⟨b, off, e, hlt, hce⟩ := h.2.2.1 hne
  refine ⟨b, off, e, Nat.lt_of_lt_of_le hlt hb.size, fun i hi => ?_⟩
  obtain ⟨c0, c1, c2⟩ := hce i hi
  exact ⟨(hb.cell (p := ⟨b, _, none⟩) hlt).trans c0, (hb.cell (p := ⟨b, _, none⟩) hlt).trans c1, (hb.cell (p := ⟨b, _, none⟩) hlt).trans c2⟩

/-- v is an owned row of the events L. -/
def OwnE (w : World) (base : Nat) (v : Value) (L : List EvM) : Prop := w.ownsRow base 67 3 v L.length (L.flatMap EvM.cells)
theorem OwnE.nil (w : World) (base : Nat) : OwnE w base (.slice none 0 0) [] := World.ownsRow_nil w base 67 3
theorem OwnE.alloc {w : World} {base : Nat} {v : Value} {L : List EvM} (h : OwnE w base v L) (o : Obj) : OwnE (w.alloc o) base v L := World.ownsRow.alloc h o
theorem OwnE.ge {w : World} {base : Nat} {v : Value} {L : List EvM} (h : OwnE w base v L) : ∀ k, v.ownBlock = some k → base ≤ k ∧ k < w.heap.size := World.ownsRow.lt h
theorem OwnE.of_block {w w' : World} {base : Nat} {v : Value} {L : List EvM} (h : OwnE w base v L) (hk : ∀ g, v.ownBlock = some g → w'.heap[g]? = w.heap[g]?) : OwnE w' base v L := by
  refine ⟨h.1, ?_⟩
  rcases h.2 with hn | ⟨g, cap, cur, rfl, hb, hgg, rest⟩
  · exact .inl hn
  · exact .inr ⟨g, cap, cur, rfl, hb, (hk g rfl).trans hgg, rest⟩
theorem OwnE.form {w : World} {base : Nat} {v : Value} {L : List EvM} (h : OwnE w base v L) : ∃ A c, v = .slice A L.length c := by
  rcases h.2 with ⟨rfl, h0⟩ | ⟨g, cap, cur, rfl, _⟩
  · exact ⟨none, 0, by rw [h0]⟩
  · exact ⟨_, _, rfl⟩

theorem eflat_get (L : List EvM) : ∀ (i : Nat) (h : i < L.length), (L.flatMap EvM.cells)[i * 3]? = some (.int .i64 L[i].k) ∧ (L.flatMap EvM.cells)[i * 3 + 1]? = some (.int .i64 L[i].f) ∧
    (L.flatMap EvM.cells)[i * 3 + 2]? = some (.slice L[i].A L[i].l.length L[i].c) := by
  induction L with
  | nil => intro i h; simp at h
  | cons x r ih =>
    intro i h
    have e : (x :: r).flatMap EvM.cells = .int .i64 x.k :: .int .i64 x.f :: .slice x.A x.l.length x.c :: r.flatMap EvM.cells := by simp [EvM.cells]
    rw [e]
    cases i with
    | zero => exact ⟨rfl, rfl, rfl⟩
    | succ i =>
      have := ih i (by simpa using h)
      have e1 : (i + 1) * 3 = i * 3 + 1 + 1 + 1 := by omega
      simp only [e1, List.getElem?_cons_succ, List.getElem_cons_succ]
      exact this
theorem eflat_len (L : List EvM) : (L.flatMap EvM.cells).length = L.length * 3 := by
  induction L with
  | nil => rfl
  | cons x r ih =>
    rw [List.flatMap_cons, List.length_append, ih, List.length_cons]
    simp only [EvM.cells, List.length_cons, List.length_nil]
    omega
theorem eflat_one (L : List EvM) : ∀ u ∈ L.flatMap EvM.cells, u.oneCell' = true := by
  intro u hu
  obtain ⟨x, _, hx⟩ := List.mem_flatMap.1 hu
  simp only [EvM.cells, List.mem_cons, List.not_mem_nil, or_false] at hx
  rcases hx with rfl | rfl | rfl <;> rfl
theorem eflat_cells {w : World} {b : Nat} (L : List EvM) : ∀ (off : Nat), (∀ (i : Nat) (h : i < L.length),
    w.cell? ⟨b, off + i * 3, none⟩ = some (.int .i64 L[i].k) ∧ w.cell? ⟨b, off + i * 3 + 1, none⟩ = some (.int .i64 L[i].f) ∧
    w.cell? ⟨b, off + i * 3 + 2, none⟩ = some (.slice L[i].A L[i].l.length L[i].c)) →
    ∀ j u, (L.flatMap EvM.cells)[j]? = some u → w.cell? ⟨b, off + j, none⟩ = some u := by
  induction L with
  | nil => intro off _ j u hu; simp at hu
  | cons x r ih =>
    intro off h j u hu
    have e : (x :: r).flatMap EvM.cells = .int .i64 x.k :: .int .i64 x.f :: .slice x.A x.l.length x.c :: r.flatMap EvM.cells := by simp [EvM.cells]
    rw [e] at hu
    obtain ⟨h0, h1, h2⟩ := h 0 (by simp)
    simp only [Nat.zero_mul, Nat.add_zero, List.getElem_cons_zero] at h0 h1 h2
    match j, hu with
    | 0, hu => simp only [List.getElem?_cons_zero, Option.some.injEq] at hu; subst hu; exact h0
    | 1, hu => simp only [List.getElem?_cons_succ, List.getElem?_cons_zero, Option.some.injEq] at hu; subst hu; exact h1
    | 2, hu => simp only [List.getElem?_cons_succ, List.getElem?_cons_zero, Option.some.injEq] at hu; subst hu; exact h2
    | j + 3, hu =>
      simp only [List.getElem?_cons_succ] at hu
      have := ih (off + 3) (fun i hi => by
        have := h (i + 1) (by simpa using hi)
        simp only [List.getElem_cons_succ] at this
        rw [show off + 3 + i * 3 = off + (i + 1) * 3 by omega]
        exact this) j u hu
      rw [show off + (j + 3) = off + 3 + j by omega]
      exact this
theorem OwnE.rd {w : World} {base : Nat} {v : Value} {L : List EvM} (h : OwnE w base v L) (hx : ∀ x ∈ L, Rd w w.heap.size x.A x.l x.c) : ∃ A c, v = .slice A L.length c ∧ RdE w A L c := by
  rcases h.2 with ⟨rfl, h0⟩ | ⟨g, cap, cur, rfl, hbg, hg, hnc, hcm, _, _⟩
  · have : L = [] := List.eq_nil_of_length_eq_zero h0
    subst this
    exact ⟨none, 0, rfl, by simp, by simp, fun e => absurd rfl e, fun x hx => by simp at hx⟩
  · refine ⟨_, _, rfl, hnc, hcm, fun _ => ⟨g, 0, rfl, (Array.getElem?_eq_some_iff.1 hg).1, fun i hi => ?_⟩, hx⟩
    have hc := World.ownsRow.cells h (g := g) rfl
    obtain ⟨f0, f1, f2⟩ := eflat_get L i hi
    have a0 := hc _ _ f0
    have a1 := hc _ _ f1
    have a2 := hc _ _ f2
    rw [Addr.add_lit] at a0 a1 a2
    rw [show (0 : Nat) + i * 3 + 1 = 0 + (i * 3 + 1) by omega, show (0 : Nat) + i * 3 + 2 = 0 + (i * 3 + 2) by omega]
    exact ⟨a0, a1, a2⟩

theorem info53 : (Tryd.prog.info? 67).map (fun i => (i.zero, i.size, i.bytes)) = some (some (.agg #[.int .i64 0, .int .i64 0, .slice none 0 0]), 3, 40) := by kernel_rfl

theorem run_appE (w : World) (base : Nat) (ty : TypeId) (v : Value) (L : List EvM) (hown : OwnE w base v L) (A : Option Addr) (m c : Nat) (M : List EvM) (hm : m = M.length) (hr : RdE w A M c)
    (hlen : L.length + M.length ≤ 200000) (hbase : base ≤ w.heap.size) :
    ∃ v' w', (Builtin.append_ #[40, 40] ty #[v, .slice A m c]).run Tryd.prog w = .ok v' w' ∧ OwnE w' base v' (L ++ M) ∧ w.grownBy w' v.ownBlock ∧ (v'.ownBlock = v.ownBlock ∨ v'.ownBlock = some w.heap.size) := by
  subst hm
  obtain ⟨i0, hi, hz0, hz1, hz2⟩ := info_parts info53
  cases A with
  | none =>
    have : M = [] := by
      cases M with
      | nil => rfl
      | cons x r => obtain ⟨b, off, e, _⟩ := hr.2.2.1 (by simp); cases e
    subst this
    refine ⟨v, w, ?_, by simpa using hown, World.grownBy.refl w _, .inl rfl⟩
    rcases hown.2 with ⟨rfl, _⟩ | ⟨g, cap, cur, rfl, _, _, hnc, _⟩
    · simp [Builtin.append_, run_underlying Tryd.underlying40, sizeOf, typeInfo, hi, Builtin.lenOf, Builtin.firstCells]
    · simp [Builtin.append_, run_underlying Tryd.underlying40, sizeOf, typeInfo, hi, Builtin.lenOf, Builtin.firstCells, hnc, storeCells]
  | some ad =>
    obtain ⟨v', w', hrun, h2, h3, _, h5⟩ := run_append_own_at (P := Tryd.prog) w base 40 ty 67 i0 _ 3 40 Tryd.underlying40 hi hz0 hz1 hz2 rfl (by omega) v L.length (L.flatMap EvM.cells) hown ad M.length c (M.flatMap EvM.cells) (eflat_len M)
      (fun j u hu => by
        obtain ⟨b, off, e, _, hce⟩ := hr.2.2.1 (by rintro rfl; simp at hu)
        injection e with e
        subst e
        rw [Addr.add_lit]
        exact eflat_cells M off hce j u hu) (eflat_one M) (by unfold maxLen; omega) (by omega) hbase
    refine ⟨v', w', hrun, ?_, h3, h5⟩
    unfold OwnE
    rw [List.length_append, List.flatMap_append]
    exact h2

theorem wpList_appE (w : World) {ops : Array Oper} {rest : List Oper} {o : Oper} {a : Act} {Q : Exit → Act → World → Prop} (hgd : o.guard = none) (s x : Operand)
    (ho : o.op = .call { callee := .builtin .append, args := #[s, x], argTypes := #[40, 40] })
    (base : Nat) (v : Value) (L : List EvM) (hs : a.eval s = v) (hown : OwnE w base v L) (A : Option Addr) (m c : Nat) (M : List EvM) (hx : a.eval x = .slice A m c) (hm : m = M.length) (hr : RdE w A M c)
    (hlen : L.length + M.length ≤ 200000) (hbase : base ≤ w.heap.size)
    (h : ∀ v' w', OwnE w' base v' (L ++ M) → w.grownBy w' v.ownBlock → (v'.ownBlock = v.ownBlock ∨ v'.ownBlock = some w.heap.size) → wpList Tryd.prog ops Q rest (a.put o.dst v') w') : wpList Tryd.prog ops Q (o :: rest) a w := by
  obtain ⟨v', w', hrun, h2, h3, h4⟩ := run_appE w base o.type v L hown A m c M hm hr hlen hbase
  refine wpList_plain hgd fun _ hK => ?_
  unfold Oper.wp execOp
  simp only [ho, resolve, invoke, builtin, Sem.run_bind, Sem.run_pure, Result.andThen_ok, List.map_toArray, List.map_cons, List.map_nil, hs, hx, hrun]
  exact hK _ _ (h v' w' h2 h3 h4)
theorem step_appE (w : World) {ops : Array Oper} {o : Oper} {a : Act} {K : Act → World → Prop} {Q : Exit → Act → World → Prop} {E : Prop} (hgd : o.guard = none) (s x : Operand)
    (ho : o.op = .call { callee := .builtin .append, args := #[s, x], argTypes := #[40, 40] })
    (base : Nat) (v : Value) (L : List EvM) (hs : a.eval s = v) (hown : OwnE w base v L) (A : Option Addr) (m c : Nat) (M : List EvM) (hx : a.eval x = .slice A m c) (hm : m = M.length) (hr : RdE w A M c)
    (hlen : L.length + M.length ≤ 200000) (hbase : base ≤ w.heap.size)
    (h : ∀ v' w', OwnE w' base v' (L ++ M) → w.grownBy w' v.ownBlock → (v'.ownBlock = v.ownBlock ∨ v'.ownBlock = some w.heap.size) → K (a.put o.dst v') w') :
    if Region.wanted o (yielded ops a.tmps) = true then Oper.wp Tryd.prog o a w K Q else E := by
  have hw : Region.wanted o (yielded ops a.tmps) = true := by simp [Region.wanted, hgd]
  rw [if_pos hw]
  obtain ⟨v', w', hrun, h2, h3, h4⟩ := run_appE w base o.type v L hown A m c M hm hr hlen hbase
  unfold Oper.wp execOp
  simp only [ho, resolve, invoke, builtin, Sem.run_bind, Sem.run_pure, Result.andThen_ok, List.map_toArray, List.map_cons, List.map_nil, hs, hx, hrun]
  exact h v' w' h2 h3 h4

/-- One event in a new block. -/
theorem one_rdE (w : World) (X : EvM) (hr : Rd w w.heap.size X.A X.l X.c) : RdE (w.alloc (.cells #[.int .i64 X.k, .int .i64 X.f, .slice X.A X.l.length X.c] 67)) (some ⟨w.heap.size, 0, none⟩) [X] 1 := by
  have q := SR.new 67 w [.int .i64 X.k, .int .i64 X.f, .slice X.A X.l.length X.c]
  refine ⟨by simp, by unfold maxLen; omega, fun _ => ⟨w.heap.size, 0, rfl, by simp, fun i hi => ?_⟩, fun x hx => ?_⟩
  · have : i = 0 := by simpa using hi
    subst this
    exact ⟨q.cell 0, q.cell 1, q.cell 2⟩
  · have : x = X := by simpa using hx
    subst this
    exact hr.at_ (bAlloc (Below.refl _ _) _)
/-- One event in a new block, behind another new block. -/
theorem one_rdE2 (w : World) (o : Obj) (X : EvM) (hr : Rd w w.heap.size X.A X.l X.c) : RdE ((w.alloc o).alloc (.cells #[.int .i64 X.k, .int .i64 X.f, .slice X.A X.l.length X.c] 67)) (some ⟨w.heap.size + 1, 0, none⟩) [X] 1 := by
  have := one_rdE (w.alloc o) X (hr.at_ (bAlloc (Below.refl _ _) _))
  rwa [World.size_alloc] at this

end Go.Proofs.YtecihodifgjkoaaDoor
