/-
  Several texts in one: D3 D4. No conditions beyond those each theorem states.
-/
import Derived.Test.YtlfmbfecajhffaaDoorW1
/-
  What a key comes to, in short, on lists. No walks.
-/
namespace Go.Proofs.YtlfmbfecajhffaaDoor
open Go.RowKit
set_option maxRecDepth 100000

/-- No longer, but by one that there is room for. -/
def LenOK (s r : Ed) (room : Int) : Prop := r.l.length ≤ s.l.length ∨ (r.l.length = s.l.length + 1 ∧ (r.l.length : Int) ≤ room)
/-- What a key comes to, in short. -/
def OneOK (s : Ed) (room : Int) (r : Res) : Prop :=
  (r.n = 1 ∧ r.es = [] ∧ r.s = ⟨s.l, s.t, s.ov, false⟩) ∨ (r.n = 0 ∧ r.es = [] ∧ LenOK s r.s room) ∨ (r.n = 0 ∧ ∃ v, r.es = [v] ∧ LenOK s r.s room ∧ (v.k = 3 ∨ r.s = zE))
theorem typE_one {s : Ed} (h : s.ok) (room : Int) (u : UInt8) (hl : s.li = false) : OneOK s room (typE s room u) := by
  unfold typE tyR
  cases hq : tyL s.l s.t room s.ov u with
  | none =>
    refine .inl ⟨rfl, rfl, ?_⟩
    obtain ⟨l, t, ov, li⟩ := s
    simp only at hl
    subst hl
    rfl
  | some p =>
    obtain ⟨m, q⟩ := p
    obtain ⟨_, _, h3⟩ := ty_spec h.1 hq
    refine .inr (.inl ⟨rfl, rfl, ?_⟩)
    rcases h3 with h3 | ⟨h3, h4, _⟩
    · exact .inl (Nat.le_of_eq h3)
    · exact .inr ⟨h3, h4⟩
theorem len_z (s : Ed) (room : Int) : LenOK s zE room := .inl (by simp [zE])
theorem len_s (s : Ed) (room : Int) (t : Nat) (ov li : Bool) : LenOK s ⟨s.l, t, ov, li⟩ room := .inl (Nat.le_refl _)
theorem sigE_one (s : Ed) (room f : Int) : OneOK s room (sigE s f) := by
  refine .inr (.inr ⟨rfl, _, rfl, ?_, ?_⟩)
  · unfold sigE sigS
    simp only
    split
    · exact len_s ..
    · exact len_z ..
  · unfold sigE sigS sigV
    simp only
    split
    · rename_i h
      refine .inr ?_
      rw [if_neg (by rw [h.1]; decide)]
    · exact .inl rfl
theorem actE_one {s : Ed} (h : s.ok) (f room : Int) (u : UInt8) (hl : s.li = false) : OneOK s room (actE f room s u) := by
  unfold actE
  split
  · exact sigE_one s room f
  split
  · exact typE_one h room u hl
  split
  · exact .inr (.inr ⟨rfl, _, rfl, len_z .., .inr rfl⟩)
  split
  · exact .inr (.inl ⟨rfl, rfl, len_s ..⟩)
  split
  · exact .inr (.inl ⟨rfl, rfl, len_s ..⟩)
  split
  · exact .inr (.inl ⟨rfl, rfl, len_s ..⟩)
  split
  · exact .inr (.inl ⟨rfl, rfl, .inl (Nat.le_refl _)⟩)
  · refine .inr (.inl ⟨rfl, rfl, ?_⟩)
    unfold doR
    cases hq : doL s.l s.t f with
    | none => exact .inl (Nat.le_refl _)
    | some p =>
      obtain ⟨m, q⟩ := p
      exact .inl (do_spec h.1 hq).2
theorem keyE_one {s : Ed} (h : s.ok) (X : Tb) (room : Int) (u : UInt8) : OneOK s room (keyE X room s u) := by
  unfold keyE
  cases hl : s.li
  · exact actE_one h _ room u hl
  · exact typE_one (s := ⟨s.l, s.t, s.ov, false⟩) h room u rfl
theorem isSig_bounds {f : Int} (h : isSig f = true) : 1 ≤ f ∧ f ≤ 9 := by simpa [isSig] using h
/-- A key that means a signal does what the signal does. -/
theorem keyE_sig {X : Tb} {room f : Int} {l : List UInt8} {t : Nat} {ov : Bool} {u : UInt8} (hf : isSig f = true) (hk : (meanF X (u.toNat : Int) : Int) = f) : keyE X room ⟨l, t, ov, false⟩ u = sigE ⟨l, t, ov, false⟩ f := by
  unfold keyE
  simp only [Bool.false_eq_true, if_false, hk]
  unfold actE
  rw [hf]
  rfl

end Go.Proofs.YtlfmbfecajhffaaDoor
/-
  Rows of events without an octet among their cells: what append makes of them. No conditions beyond those each theorem states.
-/
namespace Go.Proofs.YtlfmbfecajhffaaDoor
open Go.RowKit
set_option maxRecDepth 100000

def isU : Value → Bool
  | .int .u8 _ => true
  | _ => false
/-- No octet lies in the block that v owns. -/
def NoU (w : World) (v : Value) : Prop := ∀ g, v.ownBlock = some g → ∀ (o : Nat) (z : Int), w.cell? ⟨g, o, none⟩ ≠ some (.int .u8 z)
theorem nou_nil (w : World) : NoU w (.slice none 0 0) := fun g h => by simp [Value.ownBlock] at h
theorem nou_cells {w : World} {g n c : Nat} {cs : Array Value} {t : TypeId} (h : w.heap[g]? = some (.cells cs t (0, 0))) (hc : ∀ u ∈ cs.toList, isU u = false) : NoU w (.slice (some ⟨g, 0, none⟩) n c) := by
  intro g' hg o z hz
  simp [Value.ownBlock] at hg
  subst hg
  rw [cell_of_row w g o cs t (0, 0) h] at hz
  have := hc _ (by rw [← Array.getElem?_toList] at hz; exact List.mem_of_getElem? hz)
  cases this
theorem flat_nou (L : List EvM) : ∀ u ∈ L.flatMap EvM.cells, isU u = false := by
  intro u hu
  obtain ⟨x, _, hx⟩ := List.mem_flatMap.1 hu
  simp only [EvM.cells, List.mem_cons, List.not_mem_nil, or_false] at hx
  rcases hx with rfl | rfl | rfl <;> rfl
theorem zero_nou (n : Nat) : ∀ u ∈ (Builtin.zeroCells #[.int .i64 0, .int .i64 0, .slice none 0 0] n).toList, isU u = false := by
  intro u hu
  unfold Builtin.zeroCells at hu
  simp only [Array.toList_map, List.mem_map] at hu
  obtain ⟨i, _, rfl⟩ := hu
  have h3 : i % 3 = 0 ∨ i % 3 = 1 ∨ i % 3 = 2 := by omega
  rcases h3 with h | h | h <;> (simp only [List.size_toArray, List.length_cons, List.length_nil, Nat.zero_add, Nat.reduceAdd, h]; rfl)
/-- Behind an append there is none in the row either. -/
theorem app_nou {w w' : World} {base : Nat} {ty : TypeId} {v v' : Value} {L : List EvM} (hown : OwnE w base v L) (hno : NoU w v) {A : Option Addr} {m c : Nat} {M : List EvM} (hm : m = M.length) (hr : RdE w A M c)
    (hlen : L.length + M.length ≤ 200000) (hrun : (Builtin.append_ #[53, 53] ty #[v, .slice A m c]).run Tryd.prog w = .ok v' w') : NoU w' v' := by
  subst hm
  obtain ⟨i0, hi, hz0, hz1, hz2⟩ := info_parts info53
  cases A with
  | none =>
    have : M = [] := by
      cases M with
      | nil => rfl
      | cons x r => obtain ⟨b, off, e, _⟩ := hr.2.2.1 (by simp); cases e
    subst this
    have h2 : (Builtin.append_ #[53, 53] ty #[v, .slice none ([] : List EvM).length c]).run Tryd.prog w = .ok v w := by
      rcases hown.2 with ⟨rfl, _⟩ | ⟨g, cap, cur, rfl, _, _, hnc, _⟩
      · simp [Builtin.append_, run_underlying Tryd.underlying53, sizeOf, typeInfo, hi, Builtin.lenOf, Builtin.firstCells]
      · simp [Builtin.append_, run_underlying Tryd.underlying53, sizeOf, typeInfo, hi, Builtin.lenOf, Builtin.firstCells, hnc, storeCells]
    rw [h2] at hrun
    injection hrun with e1 e2
    subst e1 e2
    exact hno
  | some ad =>
    have hnews : ∀ (j : Nat) (u : Value), (M.flatMap EvM.cells)[j]? = some u → w.cell? (ad.add j) = some u := fun j u hu => by
      obtain ⟨b, off, e, _, hce⟩ := hr.2.2.1 (by rintro rfl; simp at hu)
      injection e with e
      subst e
      rw [Addr.add_lit]
      exact eflat_cells M off hce j u hu
    have hl : (M.flatMap EvM.cells).length = M.length * i0.size := by rw [hz1]; exact eflat_len M
    rcases hown.2 with ⟨rfl, h0⟩ | ⟨g, cap, cur, rfl, hbg, hg, hnc, hcm, hcs, htake⟩
    · by_cases hm : M.length = 0
      · have : M = [] := List.eq_nil_of_length_eq_zero hm
        subst this
        have h2 : (Builtin.append_ #[53, 53] ty #[.slice none 0 0, .slice (some ad) ([] : List EvM).length c]).run Tryd.prog w = .ok (.slice none 0 0) w := by
          simp [Builtin.append_, run_underlying Tryd.underlying53, sizeOf, typeInfo, hi, Builtin.lenOf, Builtin.firstCells, loadCells, loadCellsFrom]
        rw [h2] at hrun
        injection hrun with e1 e2
        subst e1 e2
        exact nou_nil w
      · have h2 := run_append_nil (P := Tryd.prog) w 53 ty 69 i0 _ Tryd.underlying53 hi hz0 ad M.length c (M.flatMap EvM.cells) hl hnews (by omega) (by omega) (by rw [hz2]; omega)
        rw [h2] at hrun
        injection hrun with e1 e2
        subst e1 e2
        refine nou_cells (heap_alloc_new w.drew _) fun u hu => ?_
        simp only [Array.toList_append, List.mem_append] at hu
        rcases hu with hu | hu
        · exact flat_nou M u hu
        · exact zero_nou _ u hu
    · by_cases hroom : L.length + M.length ≤ cap
      · have h2 := run_append_room (P := Tryd.prog) w 53 ty 69 i0 Tryd.underlying53 hi g L.length cap cur hg ad M.length c (M.flatMap EvM.cells) hl hnews (eflat_one M) hroom (by rw [hl, hz1, hcs, ← Nat.add_mul]; exact Nat.mul_le_mul_right _ hroom)
        rw [h2] at hrun
        injection hrun with e1 e2
        subst e1 e2
        refine nou_cells (setRow_heap w g cur _ 69 _ hg) fun u hu => ?_
        have hcur : ∀ u ∈ cur.toList, isU u = false := by
          intro u hu
          obtain ⟨j, hj⟩ := List.mem_iff_getElem?.1 hu
          have h3 : w.cell? ⟨g, j, none⟩ = some u := by rw [cell_of_row w g j cur 69 (0, 0) hg, ← Array.getElem?_toList]; exact hj
          have h4 := hno g (by simp [Value.ownBlock]) j
          unfold isU
          split
          · rename_i z
            exact absurd h3 (h4 z)
          · rfl
        simp only [List.mem_append] at hu
        rcases hu with (hu | hu) | hu
        · exact hcur u (List.mem_of_mem_take hu)
        · exact flat_nou M u hu
        · exact hcur u (List.mem_of_mem_drop hu)
      · have h2 := run_append_grow (P := Tryd.prog) w 53 ty 69 i0 _ Tryd.underlying53 hi hz0 ⟨g, 0, none⟩ L.length cap (L.flatMap EvM.cells) (by rw [hz1]; exact eflat_len L) (hown.cells (g := g) rfl) ad M.length c (M.flatMap EvM.cells) hl hnews (by omega) (by omega) (by rw [hz2]; exact growslice_fits (by omega) (by omega))
        rw [h2] at hrun
        injection hrun with e1 e2
        subst e1 e2
        refine nou_cells (heap_alloc_new w.drew _) fun u hu => ?_
        simp only [Array.toList_append, List.mem_append] at hu
        rcases hu with (hu | hu) | hu
        · exact flat_nou L u hu
        · exact flat_nou M u hu
        · exact zero_nou _ u hu

theorem wpList_appEN (w : World) {ops : Array Oper} {rest : List Oper} {o : Oper} {a : Act} {Q : Exit → Act → World → Prop} (hgd : o.guard = none) (s x : Operand)
    (ho : o.op = .call { callee := .builtin .append, args := #[s, x], argTypes := #[53, 53] })
    (base : Nat) (v : Value) (L : List EvM) (hs : a.eval s = v) (hown : OwnE w base v L) (hno : NoU w v) (A : Option Addr) (m c : Nat) (M : List EvM) (hx : a.eval x = .slice A m c) (hm : m = M.length) (hr : RdE w A M c)
    (hlen : L.length + M.length ≤ 200000) (hbase : base ≤ w.heap.size)
    (h : ∀ v' w', OwnE w' base v' (L ++ M) → NoU w' v' → w.grownBy w' v.ownBlock → (v'.ownBlock = v.ownBlock ∨ v'.ownBlock = some w.heap.size) → wpList Tryd.prog ops Q rest (a.put o.dst v') w') : wpList Tryd.prog ops Q (o :: rest) a w := by
  obtain ⟨v', w', hrun, h2, h3, h4⟩ := run_appE w base o.type v L hown A m c M hm hr hlen hbase
  have h5 := app_nou hown hno hm hr hlen hrun
  refine wpList_plain hgd fun _ hK => ?_
  unfold Oper.wp execOp
  simp only [ho, resolve, invoke, builtin, Sem.run_bind, Sem.run_pure, Result.andThen_ok, List.map_toArray, List.map_cons, List.map_nil, hs, hx, hrun]
  exact hK _ _ (h v' w' h2 h5 h3 h4)

/-- Octets stay, whatever is appended to a row without octets. -/
theorem Rd.grow {w w' : World} {A : Option Addr} {l : List UInt8} {c : Nat} {v : Value} (h : Rd w w.heap.size A l c) (hg : w.grownBy w' v.ownBlock) (hn : NoU w v) : Rd w' w'.heap.size A l c := by
  refine ⟨h.1, h.2.1, fun hl => ?_, fun ad had j u hu => ?_⟩
  · obtain ⟨ad, e, hb⟩ := h.2.2.1 hl
    exact ⟨ad, e, Nat.lt_of_lt_of_le hb hg.size⟩
  · obtain ⟨hj, _⟩ := List.getElem?_eq_some_iff.1 hu
    obtain ⟨b, off, e, hb, hc⟩ := h.form hj
    rw [had] at e
    injection e with e
    subst e
    have hne : some b ≠ v.ownBlock := fun e => hn b e.symm _ _ hc
    rw [World.cell?_of_block (w := w) (by rw [blk_add]; exact hg.block b hb hne)]
    exact h.2.2.2 _ had j u hu
theorem NoU.call {w w' : World} {base : Nat} {v : Value} {L : List EvM} (h : NoU w v) (ho : OwnE w base v L) (hb : Below w.heap.size w w') : NoU w' v := fun g hg o z => by
  rw [hb.cell (p := ⟨g, o, none⟩) (ho.ge g hg).2]
  exact h g hg o z
theorem NoU.of_block {w w' : World} {v : Value} (h : NoU w v) (hk : ∀ g, v.ownBlock = some g → w'.heap[g]? = w.heap[g]?) : NoU w' v := fun g hg o z => by
  rw [World.cell?_of_block (w := w) (a := ⟨g, o, none⟩) (hk g hg)]
  exact h g hg o z

end Go.Proofs.YtlfmbfecajhffaaDoor
