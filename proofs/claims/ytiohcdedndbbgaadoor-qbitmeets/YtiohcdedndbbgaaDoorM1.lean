/-
  A row of bools that is taken from the front and put to at its end: what it holds in memory; the contract of 'under'.
-/
import Derived.Test.YtiohcdedndbbgaaDoorT5
namespace Go.Proofs.YtiohcdedndbbgaaDoor
open Go.RowKit

/-- The slice v owns the bools l, in a block from base on, at whatever place of it. -/
def OwnQ (w : World) (base : Nat) (v : Value) (l : List Bool) : Prop :=
  (v = .slice none 0 0 ∧ l = []) ∨ ∃ g off cap cur, v = .slice (some ⟨g, off, none⟩) l.length cap ∧ base ≤ g ∧ w.heap[g]? = some (.cells cur 4 (0, 0)) ∧ l.length ≤ cap ∧ cap ≤ maxLen ∧ off + cap ≤ cur.size ∧
    ∀ j u, l[j]? = some u → cur[off + j]? = some (.bool u)

theorem OwnQ.nil (w : World) (base : Nat) : OwnQ w base (.slice none 0 0) [] := .inl ⟨rfl, rfl⟩

theorem OwnQ.ge {w : World} {base : Nat} {v : Value} {l : List Bool} (h : OwnQ w base v l) : ∀ k, v.ownBlock = some k → base ≤ k ∧ k < w.heap.size := by
  intro k hk
  rcases h with ⟨rfl, _⟩ | ⟨g, off, cap, cur, rfl, hb, hg, _⟩
  · simp [Value.ownBlock] at hk
  · simp [Value.ownBlock] at hk
    subst hk
    exact ⟨hb, (Array.getElem?_eq_some_iff.1 hg).1⟩

theorem OwnQ.keep {w w' : World} {base : Nat} {v : Value} {l : List Bool} (h : OwnQ w base v l) (hk : ∀ g, v.ownBlock = some g → w'.heap[g]? = w.heap[g]?) : OwnQ w' base v l := by
  rcases h with hn | ⟨g, off, cap, cur, rfl, hb, hg, rest⟩
  · exact .inl hn
  · exact .inr ⟨g, off, cap, cur, rfl, hb, (hk g rfl).trans hg, rest⟩

theorem OwnQ.below {w w' : World} {base : Nat} {v : Value} {l : List Bool} (h : OwnQ w base v l) (hb : Below w.heap.size w w') : OwnQ w' base v l :=
  h.keep fun g hg => hb.block g (h.ge g hg).2

/-- Its length as a value. -/
theorem OwnQ.slice {w : World} {base : Nat} {v : Value} {l : List Bool} (h : OwnQ w base v l) : ∃ A c, v = .slice A l.length c ∧ l.length ≤ c ∧ c ≤ maxLen ∧ (l ≠ [] → ∃ g off, A = some ⟨g, off, none⟩) := by
  rcases h with ⟨rfl, rfl⟩ | ⟨g, off, cap, cur, rfl, _, _, h1, h2, _⟩
  · exact ⟨none, 0, rfl, by simp, by simp, fun h => absurd rfl h⟩
  · exact ⟨_, _, rfl, h1, h2, fun _ => ⟨g, off, rfl⟩⟩

/-- Its first one. -/
theorem OwnQ.head {w : World} {base : Nat} {v : Value} {b : Bool} {l : List Bool} (h : OwnQ w base v (b :: l)) :
    ∃ g off c, v = .slice (some ⟨g, off, none⟩) (l.length + 1) c ∧ l.length + 1 ≤ c ∧ c ≤ maxLen ∧ base ≤ g ∧ g < w.heap.size ∧ w.cell? ⟨g, off, none⟩ = some (.bool b) ∧
      OwnQ w base (.slice (if c = 1 then some ⟨g, off, none⟩ else (some (⟨g, off, none⟩ : Addr)).map (·.add 1)) l.length (c - 1)) l := by
  rcases h with ⟨_, h⟩ | ⟨g, off, cap, cur, rfl, hb, hg, h1, h2, h3, h4⟩
  · cases h
  · rw [List.length_cons] at h1
    refine ⟨g, off, cap, by rw [List.length_cons], h1, h2, hb, (Array.getElem?_eq_some_iff.1 hg).1, ?_, ?_⟩
    · rw [cell_of_row w g off cur 4 (0, 0) hg]
      exact h4 0 b rfl
    · by_cases hc : cap = 1
      · rw [if_pos hc]
        have hl : l = [] := List.eq_nil_of_length_eq_zero (by omega)
        subst hl
        exact .inr ⟨g, off, cap - 1, cur, rfl, hb, hg, by simp, by omega, by omega, fun j u hu => by simp at hu⟩
      · rw [if_neg hc]
        refine .inr ⟨g, off + 1, cap - 1, cur, by simp [Addr.add], hb, hg, by omega, by omega, by omega, fun j u hu => ?_⟩
        have := h4 (j + 1) u (by simpa using hu)
        rw [← this]
        congr 1
        omega

theorem sl1 (A : Option Addr) (n c : Nat) (hn : 1 ≤ n) (W : World) :
    (Instr.sliceAt 39 (.slice A n c) (some (.int .i64 1)) none none).run Tryd.prog W = .ok (.slice (if c = 1 then A else A.map (·.add 1)) (n - 1) (c - 1)) W := by
  have hs : ∀ W : World, (sizeOf (Tryd.prog.elem 39)).run Tryd.prog W = .ok 1 W := fun W => by kernel_rfl
  have e : (Value.int .i64 1) = Value.int .i64 ((1 : Nat) : Int) := rfl
  rw [e, run_sliceAt_slice _ _ _ _ _ _ (by kernel_rfl), run_slice_l _ _ _ _ _ (by kernel_rfl) _ _ (by omega) (by omega), hs]
  simp [sliced, Result.andThen]

theorem info4 : (Tryd.prog.info? 4).map (fun i => (i.zero, i.size, i.bytes)) = some (some (.bool false), 1, 1) := by kernel_rfl

theorem run_roomO (w : World) (ty : TypeId) (g off n cap : Nat) (cur : Array Value) (hg : w.heap[g]? = some (.cells cur 4 (0, 0))) (a : Addr) (c : Nat) (b : Bool) (hb : w.cell? a = some (.bool b)) (hroom : n + 1 ≤ cap) (hfit : off + cap ≤ cur.size) :
    (Builtin.append_ #[39, 39] ty #[.slice (some ⟨g, off, none⟩) n cap, .slice (some a) 1 c]).run Tryd.prog w =
      .ok (.slice (some ⟨g, off, none⟩) (n + 1) cap) (w.setRow g (cur.toList.take (off + n) ++ [Value.bool b] ++ cur.toList.drop (off + n + 1)).toArray) := by
  obtain ⟨i, hi, hz0, hz1, hz2⟩ := info_parts info4
  have hf := run_firstCells_some (P := Tryd.prog) w i.size 1 a 1 c [.bool b] (by rw [hz1]; rfl) (fun j u hj => by
    match j, hj with
    | 0, hj => simp at hj; subst hj; simpa [Addr.add] using hb)
  have hst := run_storeCells_at Tryd.prog g (off + n) 4 [.bool b] 0 cur w hg (by simp; omega) (by intro u hu; simp at hu; subst hu; rfl)
  simp only [Nat.add_zero] at hst
  simp [Builtin.append_, run_underlying Tryd.underlying39, sizeOf, typeInfo, hi, hz1, Builtin.lenOf, hroom, Addr.add_lit] at hf hst ⊢
  simp [hf, hst]

/-- One more at its end. -/
theorem run_put (w : World) (base : Nat) (ty : TypeId) (v : Value) (l : List Bool) (hown : OwnQ w base v l) (a : Addr) (c : Nat) (b : Bool) (hb : w.cell? a = some (.bool b)) (hlen : l.length ≤ 1000000) (hbase : base ≤ w.heap.size) :
    ∃ v' w', (Builtin.append_ #[39, 39] ty #[v, .slice (some a) 1 c]).run Tryd.prog w = .ok v' w' ∧ OwnQ w' base v' (l ++ [b]) ∧ w.grownBy w' v.ownBlock ∧ (v'.ownBlock = v.ownBlock ∨ v'.ownBlock = some w.heap.size) := by
  obtain ⟨i, hi, hz0, hz1, hz2⟩ := info_parts info4
  have hnews : ∀ j u, [Value.bool b][j]? = some u → w.cell? (a.add j) = some u := fun j u hj => by
    match j, hj with
    | 0, hj => simp at hj; subst hj; simpa [Addr.add] using hb
  have grown : ∀ (old : Nat), old < l.length + 1 → ∀ (row : Option Nat),
      OwnQ (w.drew.alloc (.cells ((l.map Value.bool).toArray ++ [Value.bool b].toArray ++ Builtin.zeroCells (Value.bool false).cells (grownCap w (l.length + 1) old 4 - (l.length + 1))) 4)) base (.slice (some ⟨w.heap.size, 0, none⟩) (l.length + 1) (grownCap w (l.length + 1) old 4)) (l ++ [b]) ∧
      w.grownBy (w.drew.alloc (.cells ((l.map Value.bool).toArray ++ [Value.bool b].toArray ++ Builtin.zeroCells (Value.bool false).cells (grownCap w (l.length + 1) old 4 - (l.length + 1))) 4)) row := by
    intro old ho row
    have hge := grownCap_ge w (l.length + 1) old 4
    have hcm : grownCap w (l.length + 1) old 4 ≤ maxLen := grownCap_le_maxLen w (l.length + 1) old 4 (by unfold maxLen; omega)
    refine ⟨.inr ⟨w.heap.size, 0, _, _, by simp, hbase, heap_alloc_new w.drew _, by simpa using hge, hcm, ?_, fun j u hu => ?_⟩, ⟨rfl, rfl, rfl, by simp, fun k hk _ => Below.heap_alloc w.drew _ k hk⟩⟩
    · simp only [Array.size_append, List.size_toArray, size_zeroCells, List.length_map, List.length_cons, List.length_nil]
      have : (Value.bool false).cells.size = 1 := rfl
      rw [this]
      omega
    · have hj := (List.getElem?_eq_some_iff.1 hu).1
      have e : (l.map Value.bool).toArray ++ [Value.bool b].toArray = ((l ++ [b]).map Value.bool).toArray := by simp
      rw [Nat.zero_add, e, Array.getElem?_append_left (by simpa using hj), List.getElem?_toArray, List.getElem?_map, hu]
      rfl
  rcases hown with ⟨rfl, rfl⟩ | ⟨g, off, cap, cur, rfl, hbg, hg, hnc, hcm, hcs, hce⟩
  · have hr := run_append_nil (P := Tryd.prog) w 39 ty 4 i _ Tryd.underlying39 hi hz0 a 1 c [.bool b] (by rw [hz1]; rfl) hnews (by omega) (by omega) (by rw [hz2]; omega)
    have hgr := grown 0 (by simp) (Value.ownBlock (.slice none 0 0))
    simp only [List.map_nil, List.length_nil, Nat.zero_add, List.nil_append] at hgr ⊢
    refine ⟨_, _, hr, ?_, ?_, .inr rfl⟩
    · simpa using hgr.1
    · simpa using hgr.2
  · by_cases hroom : l.length + 1 ≤ cap
    · have hr := run_roomO w ty g off l.length cap cur hg a c b hb hroom hcs
      refine ⟨_, _, hr, .inr ⟨g, off, cap, _, by simp, hbg, setRow_heap w g cur _ 4 _ hg, by simpa using hroom, hcm, ?_, fun j u hu => ?_⟩, ⟨rfl, rfl, rfl, by simp, fun k _ hk => setRow_other w g k _ (fun e => hk (by simp [Value.ownBlock, e]))⟩, .inl rfl⟩
      · simp only [List.size_toArray, List.length_append, List.length_take, List.length_drop, Array.length_toList, List.length_cons, List.length_nil]
        omega
      · have hj := (List.getElem?_eq_some_iff.1 hu).1
        simp only [List.length_append, List.length_cons, List.length_nil] at hj
        have htl : (cur.toList.take (off + l.length)).length = off + l.length := by simp; omega
        rw [List.getElem?_toArray]
        by_cases hjl : j < l.length
        · rw [List.getElem?_append_left hjl] at hu
          rw [List.append_assoc, List.getElem?_append_left (by omega), List.getElem?_take, if_pos (by omega), Array.getElem?_toList]
          exact hce j u hu
        · obtain rfl : j = l.length := by omega
          rw [List.getElem?_append_right (by omega)] at hu
          rw [List.append_assoc, List.getElem?_append_right (by omega), htl]
          simp at hu
          subst hu
          simp
    · have holds : ∀ j u, (l.map Value.bool)[j]? = some u → w.cell? ((⟨g, off, none⟩ : Addr).add j) = some u := by
        intro j u hu
        rw [List.getElem?_map, Option.map_eq_some_iff] at hu
        obtain ⟨x, hx, rfl⟩ := hu
        rw [Addr.add_lit, cell_of_row w g (off + j) cur 4 (0, 0) hg]
        exact hce j x hx
      have hr := run_append_grow (P := Tryd.prog) w 39 ty 4 i _ Tryd.underlying39 hi hz0 ⟨g, off, none⟩ l.length cap (l.map Value.bool) (by rw [hz1]; simp) holds a 1 c [.bool b] (by rw [hz1]; rfl) hnews (by omega) (by omega) (growslice_fits (by omega) (by rw [hz2]; omega))
      have hgr := grown cap (by omega) (Value.ownBlock (.slice (some ⟨g, off, none⟩) l.length cap))
      exact ⟨_, _, hr, hgr.1, hgr.2, .inr rfl⟩

theorem wpList_put (w : World) {ops : Array Oper} {rest : List Oper} {o : Oper} {a : Act} {Q : Exit → Act → World → Prop} (hgd : o.guard = none) (s x : Operand)
    (ho : o.op = .call { callee := .builtin .append, args := #[s, x], argTypes := #[39, 39] })
    (base : Nat) (v : Value) (l : List Bool) (hs : a.eval s = v) (hown : OwnQ w base v l) (ad : Addr) (c : Nat) (b : Bool) (hx : a.eval x = .slice (some ad) 1 c) (hb : w.cell? ad = some (.bool b)) (hlen : l.length ≤ 1000000) (hbase : base ≤ w.heap.size)
    (h : ∀ v' w', OwnQ w' base v' (l ++ [b]) → w.grownBy w' v.ownBlock → (v'.ownBlock = v.ownBlock ∨ v'.ownBlock = some w.heap.size) → wpList Tryd.prog ops Q rest (a.put o.dst v') w') : wpList Tryd.prog ops Q (o :: rest) a w := by
  refine wpList_plain hgd fun K hK => ?_
  obtain ⟨v', w', hr, h2, h3, h4⟩ := run_put w base o.type v l hown ad c b hb hlen hbase
  unfold Oper.wp execOp
  simp only [ho, resolve, invoke, builtin, Sem.run_bind, Sem.run_pure, Result.andThen_ok, List.map_toArray, List.map_cons, List.map_nil, hs, hx, hr]
  exact hK _ _ (h v' w' h2 h3 h4)

/-- 'under', where nothing is said. -/
theorem under0 (A : Option Addr) (n c : Nat) (w : World) : Calls Tryd.prog 18 #[.slice A n c, .int .i64 0] w fun e w' => e = .returned (.slice A n c) ∧ w' = w := by
  go_enter Tryd.func18, Tryd.ntmps18
  go_wp2
  go_ret
  exact ⟨rfl, rfl⟩

/-- Behind 'under': one more is under way. -/
def GotU (w : World) (base : Nat) (v : Value) (l : List Bool) (e : Ending) (w' : World) : Prop :=
  ∃ A' c', e = .returned (.slice A' l.length c') ∧ OwnQ w' base (.slice A' l.length c') l ∧ w.grownBy w' v.ownBlock ∧ ∀ g, (Value.slice A' l.length c').ownBlock = some g → v.ownBlock = some g ∨ w.heap.size ≤ g

theorem under_say (s : Int) (b : Bool) (hs : (s == 0) = false) (hb : (s == 1) = b) (base : Nat) (A : Option Addr) (n c : Nat) (l : List Bool) (w : World) (hown : OwnQ w base (.slice A n c) l) (hlen : l.length ≤ 1000000) (hbase : base ≤ w.heap.size) :
    Calls Tryd.prog 18 #[.slice A n c, .int .i64 s] w (GotU w base (.slice A n c) (l ++ [b])) := by
  have HO := keepd hown
  clear hown
  go_enter Tryd.func18, Tryd.ntmps18
  go_wp2_with (at_builtin; refine wpList_put _ rfl (.tmp 8) (.tmp 11) rfl base _ l rfl (HO.out.below (bAlloc (Below.refl _ _) _)) ⟨w.heap.size, 0, none⟩ 1 b rfl (by simp) hlen (Nat.le_trans hbase (by simp)) ?_)
  intro v' w' h1 h2 h3
  obtain ⟨A', c', rfl, _⟩ := h1.slice
  have H1 := keepd h1
  have H2 := keepd h2
  have H3 := keepd h3
  clear h1 h2 h3
  go_wp2
  go_ret
  refine ⟨A', c', rfl, H1.out, World.grownBy.trans (World.grownBy_alloc w _ _) H2.out, fun g hg => ?_⟩
  rcases H3.out with e | e
  · exact .inl (e ▸ hg)
  · rw [e] at hg
    injection hg with hg
    exact .inr (by omega)

end Go.Proofs.YtiohcdedndbbgaaDoor
