/-
  A row of items that is taken from the front and put to at its end: what it holds in memory.
-/
import Derived.Test.YtlgcfpdmklieiaaDoorM4
namespace Go.Proofs.YtlgcfpdmklieiaaDoor
open Go.RowKit

/-- The items' cells, one behind the other. -/
def fl (l : List (Int × Int)) : List Value := l.flatMap fun x => itC x.1 x.2
theorem fl_nil : fl [] = [] := rfl
theorem fl_cons (x : Int × Int) (l : List (Int × Int)) : fl (x :: l) = itC x.1 x.2 ++ fl l := rfl
theorem fl_append (l m : List (Int × Int)) : fl (l ++ m) = fl l ++ fl m := by simp [fl]
theorem fl_len (l : List (Int × Int)) : (fl l).length = l.length * 4 := by
  induction l with
  | nil => rfl
  | cons x r ih => rw [fl_cons, List.length_append, ih]; simp; omega

/-- The slice v owns the items l, in a block from base on, at whatever place of it. -/
def OwnT (w : World) (base : Nat) (v : Value) (l : List (Int × Int)) : Prop :=
  (v = .slice none 0 0 ∧ l = []) ∨ ∃ g off cap cur, v = .slice (some ⟨g, off, none⟩) l.length cap ∧ base ≤ g ∧ w.heap[g]? = some (.cells cur 51 (0, 0)) ∧ l.length ≤ cap ∧ cap ≤ maxLen ∧ off + cap * 4 ≤ cur.size ∧
    ∀ j u, (fl l)[j]? = some u → cur[off + j]? = some u

theorem OwnT.nil (w : World) (base : Nat) : OwnT w base (.slice none 0 0) [] := .inl ⟨rfl, rfl⟩

theorem OwnT.ge {w : World} {base : Nat} {v : Value} {l : List (Int × Int)} (h : OwnT w base v l) : ∀ k, v.ownBlock = some k → base ≤ k ∧ k < w.heap.size := by
  intro k hk
  rcases h with ⟨rfl, _⟩ | ⟨g, off, cap, cur, rfl, hb, hg, _⟩
  · simp [Value.ownBlock] at hk
  · simp [Value.ownBlock] at hk
    subst hk
    exact ⟨hb, (Array.getElem?_eq_some_iff.1 hg).1⟩

theorem OwnT.keep {w w' : World} {base : Nat} {v : Value} {l : List (Int × Int)} (h : OwnT w base v l) (hk : ∀ g, v.ownBlock = some g → w'.heap[g]? = w.heap[g]?) : OwnT w' base v l := by
  rcases h with hn | ⟨g, off, cap, cur, rfl, hb, hg, rest⟩
  · exact .inl hn
  · exact .inr ⟨g, off, cap, cur, rfl, hb, (hk g rfl).trans hg, rest⟩

theorem OwnT.below {w w' : World} {base : Nat} {v : Value} {l : List (Int × Int)} (h : OwnT w base v l) (hb : Below w.heap.size w w') : OwnT w' base v l :=
  h.keep fun g hg => hb.block g (h.ge g hg).2

theorem OwnT.slice {w : World} {base : Nat} {v : Value} {l : List (Int × Int)} (h : OwnT w base v l) : ∃ A c, v = .slice A l.length c ∧ l.length ≤ c ∧ c ≤ maxLen := by
  rcases h with ⟨rfl, rfl⟩ | ⟨g, off, cap, cur, rfl, _, _, h1, h2, _⟩
  · exact ⟨none, 0, rfl, by simp, by simp⟩
  · exact ⟨_, _, rfl, h1, h2⟩

/-- Its first one, and the rest. -/
theorem OwnT.head {w : World} {base : Nat} {v : Value} {x : Int × Int} {l : List (Int × Int)} (h : OwnT w base v (x :: l)) :
    ∃ g off c, v = .slice (some ⟨g, off, none⟩) (l.length + 1) c ∧ l.length + 1 ≤ c ∧ c ≤ maxLen ∧ base ≤ g ∧ g < w.heap.size ∧
      (w.cell? ⟨g, off, none⟩ = some (.int .i64 3) ∧ w.cell? ⟨g, off + 1, none⟩ = some (.int .i64 x.1) ∧ w.cell? ⟨g, off + 2, none⟩ = some (.int .i64 x.2) ∧ w.cell? ⟨g, off + 3, none⟩ = some (.slice none 0 0)) ∧
      OwnT w base (.slice (if c = 1 then some ⟨g, off, none⟩ else (some (⟨g, off, none⟩ : Addr)).map (·.add 4)) l.length (c - 1)) l := by
  rcases h with ⟨_, h⟩ | ⟨g, off, cap, cur, rfl, hb, hg, h1, h2, h3, h4⟩
  · cases h
  · rw [List.length_cons] at h1
    have hc : ∀ j u, (fl (x :: l))[j]? = some u → w.cell? ⟨g, off + j, none⟩ = some u := fun j u hu => by
      rw [cell_of_row w g (off + j) cur 51 (0, 0) hg]
      exact h4 j u hu
    refine ⟨g, off, cap, by rw [List.length_cons], h1, h2, hb, (Array.getElem?_eq_some_iff.1 hg).1, ⟨hc 0 _ rfl, hc 1 _ rfl, hc 2 _ rfl, hc 3 _ rfl⟩, ?_⟩
    by_cases hcap : cap = 1
    · rw [if_pos hcap]
      have hl : l = [] := List.eq_nil_of_length_eq_zero (by omega)
      subst hl
      exact .inr ⟨g, off, cap - 1, cur, rfl, hb, hg, by simp, by omega, by omega, fun j u hu => by simp [fl_nil] at hu⟩
    · rw [if_neg hcap]
      refine .inr ⟨g, off + 4, cap - 1, cur, by simp [Addr.add], hb, hg, by omega, by omega, by omega, fun j u hu => ?_⟩
      have := h4 (4 + j) u (by rw [fl_cons, List.getElem?_append_right (by simp)]; simpa using hu)
      rw [← this]
      congr 1
      omega

theorem sl1 (A : Option Addr) (n c : Nat) (hn : 1 ≤ n) (W : World) :
    (Instr.sliceAt 38 (.slice A n c) (some (.int .i64 1)) none none).run Tryd.prog W = .ok (.slice (if c = 1 then A else A.map (·.add 4)) (n - 1) (c - 1)) W := by
  have hs : ∀ W : World, (sizeOf (Tryd.prog.elem 38)).run Tryd.prog W = .ok 4 W := fun W => by kernel_rfl
  have e : (Value.int .i64 1) = Value.int .i64 ((1 : Nat) : Int) := rfl
  rw [e, run_sliceAt_slice _ _ _ _ _ _ (by kernel_rfl), run_slice_l _ _ _ _ _ (by kernel_rfl) _ _ (by omega) (by omega), hs]
  simp [sliced, Result.andThen]

theorem info51 : (Tryd.prog.info? 51).map (fun i => (i.zero, i.size, i.bytes)) = some (some (.agg #[.int .i64 0, .int .i64 0, .int .i64 0, .slice none 0 0]), 4, 48) := by kernel_rfl

theorem run_roomO (w : World) (ty : TypeId) (g off n cap : Nat) (cur : Array Value) (hg : w.heap[g]? = some (.cells cur 51 (0, 0))) (a : Addr) (c : Nat) (x : Int × Int) (hb : ∀ j u, (itC x.1 x.2)[j]? = some u → w.cell? (a.add j) = some u) (hroom : n + 1 ≤ cap) (hfit : off + cap * 4 ≤ cur.size) :
    (Builtin.append_ #[38, 38] ty #[.slice (some ⟨g, off, none⟩) n cap, .slice (some a) 1 c]).run Tryd.prog w =
      .ok (.slice (some ⟨g, off, none⟩) (n + 1) cap) (w.setRow g (cur.toList.take (off + n * 4) ++ itC x.1 x.2 ++ cur.toList.drop (off + n * 4 + 4)).toArray) := by
  obtain ⟨i, hi, hz0, hz1, hz2⟩ := info_parts info51
  have hf := run_firstCells_some (P := Tryd.prog) w i.size 1 a 1 c (itC x.1 x.2) (by rw [hz1]; rfl) hb
  have hst := run_storeCells_at Tryd.prog g (off + n * 4) 51 (itC x.1 x.2) 0 cur w hg (by simp; omega) (by intro u hu; simp at hu; rcases hu with rfl | rfl | rfl | rfl <;> rfl)
  simp only [Nat.add_zero] at hst
  simp [Builtin.append_, run_underlying Tryd.underlying38, sizeOf, typeInfo, hi, hz1, Builtin.lenOf, hroom, Addr.add_lit] at hf hst ⊢
  simp [hf, hst]

/-- One more at its end. -/
theorem run_put (w : World) (base : Nat) (ty : TypeId) (v : Value) (l : List (Int × Int)) (hown : OwnT w base v l) (a : Addr) (c : Nat) (x : Int × Int) (hb : ∀ j u, (itC x.1 x.2)[j]? = some u → w.cell? (a.add j) = some u) (hlen : l.length ≤ 1000000) (hbase : base ≤ w.heap.size) :
    ∃ v' w', (Builtin.append_ #[38, 38] ty #[v, .slice (some a) 1 c]).run Tryd.prog w = .ok v' w' ∧ OwnT w' base v' (l ++ [x]) ∧ w.grownBy w' v.ownBlock ∧ (v'.ownBlock = v.ownBlock ∨ v'.ownBlock = some w.heap.size) := by
  obtain ⟨i, hi, hz0, hz1, hz2⟩ := info_parts info51
  have hfl : fl (l ++ [x]) = fl l ++ itC x.1 x.2 := by rw [fl_append]; rfl
  have grown : ∀ (old : Nat), old < l.length + 1 → ∀ (row : Option Nat),
      OwnT (w.drew.alloc (.cells ((fl l).toArray ++ (itC x.1 x.2).toArray ++ Builtin.zeroCells (Value.agg #[.int .i64 0, .int .i64 0, .int .i64 0, .slice none 0 0]).cells (grownCap w (l.length + 1) old 51 - (l.length + 1))) 51)) base (.slice (some ⟨w.heap.size, 0, none⟩) (l.length + 1) (grownCap w (l.length + 1) old 51)) (l ++ [x]) ∧
      w.grownBy (w.drew.alloc (.cells ((fl l).toArray ++ (itC x.1 x.2).toArray ++ Builtin.zeroCells (Value.agg #[.int .i64 0, .int .i64 0, .int .i64 0, .slice none 0 0]).cells (grownCap w (l.length + 1) old 51 - (l.length + 1))) 51)) row := by
    intro old ho row
    have hge := grownCap_ge w (l.length + 1) old 51
    have hcm : grownCap w (l.length + 1) old 51 ≤ maxLen := grownCap_le_maxLen w (l.length + 1) old 51 (by unfold maxLen; omega)
    refine ⟨.inr ⟨w.heap.size, 0, _, _, by simp, hbase, heap_alloc_new w.drew _, by simpa using hge, hcm, ?_, fun j u hu => ?_⟩, ⟨rfl, rfl, rfl, by simp, fun k hk _ => Below.heap_alloc w.drew _ k hk⟩⟩
    · simp only [Array.size_append, List.size_toArray, size_zeroCells, fl_len, List.length_cons, List.length_nil]
      have : (Value.agg #[.int .i64 0, .int .i64 0, .int .i64 0, .slice none 0 0]).cells.size = 4 := rfl
      rw [this]
      omega
    · have hj := (List.getElem?_eq_some_iff.1 hu).1
      have e : (fl l).toArray ++ (itC x.1 x.2).toArray = (fl (l ++ [x])).toArray := by rw [hfl]; simp
      rw [Nat.zero_add, e, Array.getElem?_append_left (by simpa using hj), List.getElem?_toArray, hu]
  rcases hown with ⟨rfl, rfl⟩ | ⟨g, off, cap, cur, rfl, hbg, hg, hnc, hcm, hcs, hce⟩
  · have hr := run_append_nil (P := Tryd.prog) w 38 ty 51 i _ Tryd.underlying38 hi hz0 a 1 c (itC x.1 x.2) (by rw [hz1]; rfl) hb (by omega) (by omega) (by rw [hz2]; omega)
    have hgr := grown 0 (by simp) (Value.ownBlock (.slice none 0 0))
    simp only [fl_nil, List.length_nil, Nat.zero_add, List.nil_append] at hgr ⊢
    refine ⟨_, _, hr, ?_, ?_, .inr rfl⟩
    · simpa using hgr.1
    · simpa using hgr.2
  · by_cases hroom : l.length + 1 ≤ cap
    · have hr := run_roomO w ty g off l.length cap cur hg a c x hb hroom hcs
      refine ⟨_, _, hr, .inr ⟨g, off, cap, _, by simp, hbg, setRow_heap w g cur _ 51 _ hg, by simpa using hroom, hcm, ?_, fun j u hu => ?_⟩, ⟨rfl, rfl, rfl, by simp, fun k _ hk => setRow_other w g k _ (fun e => hk (by simp [Value.ownBlock, e]))⟩, .inl rfl⟩
      · simp only [List.size_toArray, List.length_append, List.length_take, List.length_drop, Array.length_toList, List.length_cons, List.length_nil]
        omega
      · have hj := (List.getElem?_eq_some_iff.1 hu).1
        rw [hfl] at hu
        have htl : (cur.toList.take (off + l.length * 4)).length = off + l.length * 4 := by simp; omega
        have hfll := fl_len l
        rw [List.getElem?_toArray]
        by_cases hjl : j < (fl l).length
        · rw [List.getElem?_append_left hjl] at hu
          rw [List.append_assoc, List.getElem?_append_left (by omega), List.getElem?_take, if_pos (by omega), Array.getElem?_toList]
          exact hce j u hu
        · rw [List.getElem?_append_right (by omega)] at hu
          have hj4 := (List.getElem?_eq_some_iff.1 hu).1
          rw [List.append_assoc, List.getElem?_append_right (by omega), htl, List.getElem?_append_left (by omega), ← hu]
          congr 1
          omega
    · have holds : ∀ j u, (fl l)[j]? = some u → w.cell? ((⟨g, off, none⟩ : Addr).add j) = some u := by
        intro j u hu
        rw [Addr.add_lit, cell_of_row w g (off + j) cur 51 (0, 0) hg]
        exact hce j u hu
      have hr := run_append_grow (P := Tryd.prog) w 38 ty 51 i _ Tryd.underlying38 hi hz0 ⟨g, off, none⟩ l.length cap (fl l) (by rw [hz1, fl_len]) holds a 1 c (itC x.1 x.2) (by rw [hz1]; rfl) hb (by omega) (by omega) (growslice_fits (by omega) (by rw [hz2]; omega))
      have hgr := grown cap (by omega) (Value.ownBlock (.slice (some ⟨g, off, none⟩) l.length cap))
      exact ⟨_, _, hr, hgr.1, hgr.2, .inr rfl⟩

/-- Nothing more at its end. -/
theorem run_put0 (w : World) (ty : TypeId) (A : Option Addr) (n c : Nat) (hn : n ≤ c) : (Builtin.append_ #[38, 38] ty #[.slice A n c, .slice none 0 0]).run Tryd.prog w = .ok (.slice A n c) w := by
  obtain ⟨i, hi, hz0, hz1, hz2⟩ := info_parts info51
  cases A with
  | none => simp [Builtin.append_, run_underlying Tryd.underlying38, sizeOf, typeInfo, hi, Builtin.lenOf, Builtin.firstCells, hn]
  | some a => simp [Builtin.append_, run_underlying Tryd.underlying38, sizeOf, typeInfo, hi, Builtin.lenOf, Builtin.firstCells, hn, storeCells]

end Go.Proofs.YtlgcfpdmklieiaaDoor
