/-
  Words for octets and structs in memory, for the seat YtlfmbfecajhffaaDoor: a slice that reads as octets, a block that is just octets, an owned row behind append, a struct's block; what stays of them behind draws, new blocks, stores and calls.
-/
import Derived.Test.YtlfmbfecajhffaaDoorRows
import Derived.WalkKit
import Derived.WalkSpells
import Derived.WalkLawsBesides
import Derived.Laws.CopyOwn
import Derived.Laws.AppendOwnNone
import Derived.Maps.AppendAt
import Derived.Deep.RegionHeld3
import Derived.Deep.RegionWith
import Derived.Deep.RegionLaw
import Derived.Deep.DeepCutAuto
import Derived.Deep.QuietTactic
import Derived.BigQuiet
namespace Go.Proofs.YtlfmbfecajhffaaDoor
open Go.RowKit

theorem keepd {p : Prop} (h : p) : Hid p := h

/-- An octet as a value. -/
def bv (b : UInt8) : Value := .int .u8 (b.toNat : Int)

/-- The slice value 'slice A l.length c' reads as the octets l, and lies below block B. -/
def Rd (w : World) (B : Nat) (A : Option Addr) (l : List UInt8) (c : Nat) : Prop :=
  l.length ≤ c ∧ c ≤ maxLen ∧ (l ≠ [] → ∃ ad, A = some ad ∧ ad.block < B) ∧ ∀ ad, A = some ad → ∀ j u, l[j]? = some u → w.cell? (ad.add j) = some (bv u)

/-- Block g is just the octets l. -/
def Bk (w : World) (g : Nat) (l : List UInt8) : Prop := w.heap[g]? = some (.cells (l.map bv).toArray 5 (0, 0))

theorem blk_add (a : Addr) (n : Nat) : (a.add n).block = a.block := by unfold Addr.add; split <;> rfl

theorem Rd.len {w : World} {B : Nat} {A : Option Addr} {l : List UInt8} {c : Nat} (h : Rd w B A l c) : l.length ≤ c ∧ c ≤ maxLen := ⟨h.1, h.2.1⟩

theorem Rd.keep {w w' : World} {B B' : Nat} {A : Option Addr} {l : List UInt8} {c : Nat} (h : Rd w B A l c) (hB : B ≤ B') (hk : ∀ p : Addr, p.block < B → w'.cell? p = w.cell? p) : Rd w' B' A l c := by
  refine ⟨h.1, h.2.1, fun hl => ?_, fun ad had j u hu => ?_⟩
  · obtain ⟨ad, e, hb⟩ := h.2.2.1 hl
    exact ⟨ad, e, Nat.lt_of_lt_of_le hb hB⟩
  · have hl : l ≠ [] := by intro e; subst e; simp at hu
    obtain ⟨ad', e, hb⟩ := h.2.2.1 hl
    rw [had] at e
    injection e with e
    subst e
    rw [hk _ (by rw [blk_add]; exact hb)]
    exact h.2.2.2 ad had j u hu

theorem Rd.below {w w' : World} {B B' : Nat} {A : Option Addr} {l : List UInt8} {c : Nat} (h : Rd w B A l c) (hb : Below B w w') (hB : B ≤ B') : Rd w' B' A l c :=
  h.keep hB fun _ hp => hb.cell hp

theorem add_lit0 (g j : Nat) : (⟨g, 0, none⟩ : Addr).add j = ⟨g, j, none⟩ := by unfold Addr.add; split <;> simp_all

theorem Bk.lt {w : World} {g : Nat} {l : List UInt8} (h : Bk w g l) : g < w.heap.size := (Array.getElem?_eq_some_iff.1 h).1

theorem Bk.rd {w : World} {g : Nat} {l : List UInt8} (h : Bk w g l) {B c : Nat} (hB : g < B) (hc : l.length ≤ c) (hm : c ≤ maxLen) : Rd w B (some ⟨g, 0, none⟩) l c := by
  refine ⟨hc, hm, fun _ => ⟨_, rfl, hB⟩, fun ad had j u hu => ?_⟩
  injection had with had
  subst had
  rw [add_lit0]
  have hj : ((l.map bv).toArray)[j]? = some (bv u) := by simp [hu]
  rw [← hj]
  exact cell_of_row w g j _ 5 (0, 0) h

theorem Bk.below {w w' : World} {B g : Nat} {l : List UInt8} (h : Bk w g l) (hb : Below B w w') (hg : g < B) : Bk w' g l := (hb.block g hg).trans h

theorem ret_slice {A : Option Addr} {n m c : Nat} (h : n = m) : Ending.returned (.slice A n c) = .returned (.slice A m c) := by rw [h]

theorem str_bytes {l : List UInt8} : (l.map (fun b : UInt8 => (b.toNat : Int))).foldl (fun (r : ByteArray) (n : Int) => r.push (UInt8.ofNat n.toNat)) ByteArray.empty = ⟨l.toArray⟩ := by
  suffices h : ∀ (l : List UInt8) (r : ByteArray), (l.map (fun b : UInt8 => (b.toNat : Int))).foldl (fun (r : ByteArray) (n : Int) => r.push (UInt8.ofNat n.toNat)) r = ⟨(r.data.toList ++ l).toArray⟩ by
    rw [h]; simp
  intro l
  induction l with
  | nil => intro r; simp
  | cons b l ih =>
    intro r
    simp only [List.map_cons, List.foldl_cons, ih]
    congr 1
    simp [ByteArray.push]

theorem conv_str {w : World} {B : Nat} {A : Option Addr} {l : List UInt8} {c : Nat} (h : Rd w B A l c) :
    (convert 28 9 (.slice A l.length c)).run Tryd.prog w = .ok (.string ⟨l.toArray⟩) w := by
  rw [run_convert_bytes_string w 28 9 5 A l.length c Tryd.underlying28 Tryd.underlying5 Tryd.underlying9]
  cases A with
  | none =>
    have : l = [] := by
      rcases List.eq_nil_or_concat l with e | ⟨_, _, e⟩
      · exact e
      · obtain ⟨ad, e', _⟩ := h.2.2.1 (by rw [e]; simp)
        cases e'
    subst this
    rfl
  | some ad =>
    have h2 := run_bytesToString (P := Tryd.prog) w ad l.length c (l.map (fun b : UInt8 => (b.toNat : Int))) (by
      have := run_loadCells_list (P := Tryd.prog) w ad ((l.map (fun b : UInt8 => (b.toNat : Int))).map (Value.int .u8)) (fun j v hj => by
        simp only [List.map_map, List.getElem?_map, Option.map_eq_some_iff] at hj
        obtain ⟨u, hu, rfl⟩ := hj
        exact h.2.2.2 ad rfl j u hu)
      simpa using this)
    rw [h2, str_bytes]

def zeros (n : Nat) : List UInt8 := List.replicate n 0

theorem zs_eq (n : Nat) : madeCells #[Value.int .u8 0] n = ((zeros n).map bv).toArray := by
  apply Array.ext'
  rw [toList_madeCells_one]
  simp [zeros, bv]

theorem info5 : (Tryd.prog.info? 5).map (fun i => (i.zero, i.size, i.bytes)) = some (some (.int .u8 0), 1, 1) := by kernel_rfl

theorem make_run (n : Nat) (hn : n ≤ 1000000) (W : World) :
    (Instr.makeSlice 28 (.int .i64 (n : Int)) (.int .i64 (n : Int))).run Tryd.prog W = .ok (.slice (some ⟨W.heap.size, 0, none⟩) n n) (W.alloc (.cells ((zeros n).map bv).toArray 5)) := by
  obtain ⟨i0, hi, hz0, hz1, hz2⟩ := info_parts info5
  have := run_make (P := Tryd.prog) W 28 5 i0 _ Tryd.underlying28 hi hz0 .i64 .i64 n n (by omega) (by omega) (by rw [hz2]; omega) (by omega)
  rw [this, hz1]
  simp [Value.cells, zs_eq]

theorem splice_step (L M : List UInt8) (n : Nat) :
    splice ((L ++ zeros (n - L.length)).map bv) L.length (M.map bv) = ((L ++ M) ++ zeros (n - (L ++ M).length)).map bv := by
  unfold splice
  have e1 : (L ++ zeros (n - L.length)).map bv = L.map bv ++ (zeros (n - L.length)).map bv := by simp
  have e2 : (L.map bv ++ (zeros (n - L.length)).map bv).drop (L.length + (M.map bv).length) = (zeros (n - (L ++ M).length)).map bv := by
    have e3 : L.length + (M.map bv).length = (L.map bv).length + M.length := by simp
    rw [e3, List.drop_append, List.drop_of_length_le (by omega)]
    have e4 : (L.map bv).length + M.length - (L.map bv).length = M.length := by omega
    have e5 : n - L.length - M.length = n - (L ++ M).length := by rw [List.length_append]; omega
    rw [e4, List.nil_append]
    unfold zeros
    rw [← List.map_drop, List.drop_replicate, e5]
  rw [e1, e2, List.take_append_of_le_length (by simp), List.take_of_length_le (by simp)]
  simp

theorem splice_len (L : List UInt8) (n : Nat) (h : L.length ≤ n) : ((L ++ zeros (n - L.length)).map bv).length = n := by simp [zeros]; omega

theorem bv_one (l : List UInt8) : ∀ v ∈ l.map bv, v.oneCell' = true := by
  intro v hv
  obtain ⟨u, _, rfl⟩ := List.mem_map.1 hv
  rfl

theorem Rd.src {w : World} {B : Nat} {A : Option Addr} {l : List UInt8} {c : Nat} (h : Rd w B A l c) (hp : 0 < (l.map bv).length) : ∃ ad, A = some ad ∧ ∀ j v, (l.map bv)[j]? = some v → w.cell? (ad.add j) = some v := by
  obtain ⟨ad, e, _⟩ := h.2.2.1 (by rintro rfl; simp at hp)
  refine ⟨ad, e, fun j v hj => ?_⟩
  rw [List.getElem?_map, Option.map_eq_some_iff] at hj
  obtain ⟨u, hu, rfl⟩ := hj
  exact h.2.2.2 ad e j u hu

theorem size5 : (Tryd.prog.info? 5).map (·.size) = some 1 := by kernel_rfl

theorem old {B : Nat} {W w1 : World} (hb : Below B W w1) : (∀ b o, b < B → w1.cell? ⟨b, o, none⟩ = W.cell? ⟨b, o, none⟩) ∧ (∀ b o, b < B → w1.frozen? ⟨b, o, none⟩ = W.frozen? ⟨b, o, none⟩) :=
  ⟨fun b o h => hb.cell (p := ⟨b, o, none⟩) h, fun b o h => hb.frozen (p := ⟨b, o, none⟩) h⟩

theorem Bk.setCell {w : World} {g : Nat} {l : List UInt8} (h : Bk w g l) {p : Addr} (hp : g ≠ p.block) (u : Value) : Bk (w.setCell p u) g l :=
  (Below.heap_setCell w p u g hp).trans h

theorem row_alloc {w : World} {g : Nat} {o o' : Obj} (h : w.heap[g]? = some o) : (w.alloc o').heap[g]? = some o :=
  (Below.heap_alloc w o' g (Array.getElem?_eq_some_iff.1 h).1).trans h

theorem Rd.alloc {w : World} {B B' : Nat} {A : Option Addr} {l : List UInt8} {c : Nat} (h : Rd w B A l c) (hB : B ≤ w.heap.size) (hB' : B ≤ B') (o : Obj) : Rd (w.alloc o) B' A l c :=
  h.keep hB' fun p hp => World.cell?_alloc_lt w o p (by omega)

theorem Rd.take {w : World} {B : Nat} {A : Option Addr} {l : List UInt8} {c : Nat} (h : Rd w B A l c) (m : Nat) : Rd w B A (l.take m) c := by
  refine ⟨by have := h.1; rw [List.length_take]; omega, h.2.1, fun hl => h.2.2.1 (by rintro rfl; simp at hl), fun ad had j u hu => h.2.2.2 ad had j u ?_⟩
  rw [List.getElem?_take] at hu
  split at hu
  · exact hu
  · cases hu

theorem add_add (a : Addr) (i j : Nat) : (a.add i).add j = a.add (i + j) := by
  unfold Addr.add
  by_cases hi : i = 0 <;> by_cases hj : j = 0 <;> simp [hi, hj, Nat.add_assoc]

theorem Rd.drop {w : World} {B : Nat} {A : Option Addr} {l : List UInt8} {c : Nat} (h : Rd w B A l c) (m : Nat) (hm : m ≤ l.length) : Rd w B (if c = m then A else A.map (·.add m)) (l.drop m) (c - m) := by
  have h1 := h.1
  refine ⟨by rw [List.length_drop]; omega, by have := h.2.1; omega, fun hl => ?_, fun ad had j u hu => ?_⟩
  · obtain ⟨ad, rfl, hb⟩ := h.2.2.1 (by rintro rfl; simp at hl)
    split
    · exact ⟨ad, rfl, hb⟩
    · exact ⟨ad.add m, rfl, by rw [blk_add]; exact hb⟩
  · have hlt : m + j < l.length := by
      rw [List.getElem?_drop] at hu
      exact (List.getElem?_eq_some_iff.1 hu).1
    rw [if_neg (by omega)] at had
    rw [Option.map_eq_some_iff] at had
    obtain ⟨ad', e, rfl⟩ := had
    rw [add_add]
    exact h.2.2.2 ad' e _ u (by rw [← hu, List.getElem?_drop])

theorem Rd.drew {w : World} {B : Nat} {A : Option Addr} {l : List UInt8} {c : Nat} (h : Rd w B A l c) : Rd w.drew B A l c := h

theorem Rd.drewN {w : World} {B : Nat} {A : Option Addr} {l : List UInt8} {c : Nat} (h : Rd w B A l c) (n : Nat) : Rd (w.drewN n) B A l c := h

theorem upD {w1 w2 : World} {o : Obj} (hb : Below (w1.alloc o).drew.heap.size (w1.alloc o).drew w2) : Below w1.heap.size w1 w2 := by
  have h1 : Below w1.heap.size w1 (w1.alloc o).drew := ((Below.refl _ _).alloc (Nat.le_refl _) _).drew
  exact h1.trans (hb.mono (by simp))

theorem bAlloc {a w : World} (h : Below a.heap.size a w) (o : Obj) : Below a.heap.size a (w.alloc o) := h.alloc h.size o

theorem bCall {a w w2 : World} (h : Below a.heap.size a w) (hb : Below w.heap.size w w2) : Below a.heap.size a w2 := h.trans (hb.mono h.size)

theorem bDrewN {a w : World} (h : Below a.heap.size a w) (n : Nat) : Below a.heap.size a (w.drewN n) := ⟨h.os, h.tape, h.output, h.size, h.block⟩

/-- Octets in new memory. -/
def GotB (w : World) (l : List UInt8) (e : Ending) (w' : World) : Prop :=
  ∃ g, e = .returned (.slice (some ⟨g, 0, none⟩) l.length l.length) ∧ w.heap.size ≤ g ∧ Bk w' g l ∧ Below w.heap.size w w'

theorem bAl {B : Nat} {a w : World} (hB : B ≤ a.heap.size) (h : Below B a w) (o : Obj) : Below B a (w.alloc o) := h.alloc (Nat.le_trans hB h.size) o

theorem upA {w1 w2 : World} {o : Obj} (hb : Below (w1.alloc o).heap.size (w1.alloc o) w2) : Below w1.heap.size w1 w2 :=
  ((Below.refl _ _).alloc (Nat.le_refl _) _).trans (hb.mono (by simp))

theorem n1 (w : World) (o : Obj) : (w.alloc o).drew.heap[w.heap.size]? = some o := heap_alloc_new w o

theorem n2 (w : World) (o o' : Obj) : ((w.alloc o).alloc o').drew.heap[w.heap.size]? = some o := row_alloc (heap_alloc_new w o)

theorem n3 (w : World) (o o' : Obj) : ((w.alloc o).alloc o').drew.heap[w.heap.size + 1]? = some o' := by
  have := heap_alloc_new (w.alloc o) o'
  rw [World.size_alloc] at this
  exact this

theorem Rd.at_ {w1 W : World} {A : Option Addr} {l : List UInt8} {c : Nat} (h : Rd w1 w1.heap.size A l c) (hb : Below w1.heap.size w1 W) : Rd W W.heap.size A l c := h.below hb hb.size

theorem int_eq {a b : Int} (h : a = b) : Value.int .i64 a = .int .i64 b := by rw [h]

theorem slice_from (A : Option Addr) (n c k : Nat) (hk : k ≤ n) (W : World) :
    (Instr.sliceAt 28 (.slice A n c) (some (.int .i64 k)) none none).run Tryd.prog W = .ok (.slice (if c = k then A else A.map (·.add k)) (n - k) (c - k)) W := by
  have hs : ∀ W : World, (sizeOf (Tryd.prog.elem 28)).run Tryd.prog W = .ok 1 W := fun W => by kernel_rfl
  rw [run_sliceAt_slice _ _ _ _ _ _ (by kernel_rfl), run_slice_l _ _ _ _ _ (by kernel_rfl) _ _ (by omega) (by omega), hs]
  simp [sliced, Result.andThen]

theorem Rd.nil (w : World) (B : Nat) : Rd w B none [] 0 := ⟨by simp, by simp, fun h => absurd rfl h, fun _ h => by cases h⟩

theorem row_set (w : World) (b i : Nat) (u : Value) (cs : Array Value) (t : TypeId) (h : w.heap[b]? = some (.cells cs t (0, 0))) : (w.setCell ⟨b, i, none⟩ u).heap[b]? = some (.cells (cs.setIfInBounds i u) t (0, 0)) := by
  simp [World.setCell, Array.getElem?_modify, h]

theorem set2_below {a W : World} {B b : Nat} (h : Below B a W) (hb : B ≤ b) (u v : Value) : Below B a ((W.setCell ⟨b, 0, none⟩ u).setCell ⟨b, 1, none⟩ v) :=
  (h.setCell (p := ⟨b, 0, none⟩) hb u).setCell (p := ⟨b, 1, none⟩) hb v

theorem set2_bk {W : World} {b g : Nat} {l : List UInt8} (h : Bk W g l) (hb : g ≠ b) (u v : Value) : Bk ((W.setCell ⟨b, 0, none⟩ u).setCell ⟨b, 1, none⟩ v) g l :=
  (h.setCell (p := ⟨b, 0, none⟩) hb u).setCell (p := ⟨b, 1, none⟩) hb v

theorem set2_size (W : World) (b : Nat) (u v : Value) : ((W.setCell ⟨b, 0, none⟩ u).setCell ⟨b, 1, none⟩ v).heap.size = W.heap.size := by simp [World.setCell]

theorem Bk.alloc {w : World} {g : Nat} {l : List UInt8} (h : Bk w g l) (o : Obj) : Bk (w.alloc o) g l := row_alloc h

theorem Bk.rdS {w : World} {g : Nat} {l : List UInt8} (h : Bk w g l) (hl : l.length ≤ 100000) : Rd w w.heap.size (some ⟨g, 0, none⟩) l l.length := h.rd h.lt (Nat.le_refl _) (by unfold maxLen; omega)

/-- The slice value v owns the octets l, in blocks from base on. -/
def Own (w : World) (base : Nat) (v : Value) (l : List UInt8) : Prop := w.ownsRow base 5 1 v l.length (l.map bv)

theorem Own.nil (w : World) (base : Nat) : Own w base (.slice none 0 0) [] := World.ownsRow_nil w base 5 1

theorem Own.alloc {w : World} {base : Nat} {v : Value} {l : List UInt8} (h : Own w base v l) (o : Obj) : Own (w.alloc o) base v l := World.ownsRow.alloc h o

theorem Own.drew {w : World} {base : Nat} {v : Value} {l : List UInt8} (h : Own w base v l) : Own w.drew base v l := h

theorem Own.ge {w : World} {base : Nat} {v : Value} {l : List UInt8} (h : Own w base v l) : ∀ k, v.ownBlock = some k → base ≤ k ∧ k < w.heap.size := World.ownsRow.lt h

theorem Own.kept {w w' : World} {base : Nat} {row : Option Nat} {v : Value} {l : List UInt8} (h : Own w base v l) (hg : w.grownBy w' row) (hne : v.ownBlock = none ∨ v.ownBlock ≠ row) : Own w' base v l := World.ownsRow.kept h hg hne

theorem Own.below {w w' : World} {base : Nat} {v : Value} {l : List UInt8} (h : Own w base v l) (hb : Below w.heap.size w w') : Own w' base v l :=
  h.kept (row := none) ⟨hb.os, hb.tape, hb.output, hb.size, fun k hk _ => hb.block k hk⟩ (by cases v.ownBlock <;> simp)

/-- An owned row reads as its octets. -/
theorem Own.rd {w : World} {base : Nat} {v : Value} {l : List UInt8} (h : Own w base v l) : ∃ A c, v = .slice A l.length c ∧ Rd w w.heap.size A l c := by
  rcases h.2 with ⟨rfl, hn⟩ | ⟨g, cap, cur, rfl, _, hg, hnc, hm, _, ht⟩
  · have : l = [] := List.eq_nil_of_length_eq_zero hn
    subst this
    exact ⟨none, 0, rfl, Rd.nil _ _⟩
  · refine ⟨some ⟨g, 0, none⟩, cap, rfl, hnc, hm, fun _ => ⟨_, rfl, (Array.getElem?_eq_some_iff.1 hg).1⟩, fun ad had j u hu => ?_⟩
    injection had with had
    subst had
    refine World.ownsRow.cells h (g := g) rfl j (bv u) ?_
    rw [List.getElem?_map, hu]
    rfl

theorem Rd.none_nil {w : World} {B : Nat} {l : List UInt8} {c : Nat} (h : Rd w B none l c) : l = [] := by
  rcases List.eq_nil_or_concat l with e | ⟨_, _, e⟩
  · exact e
  · obtain ⟨ad, e', _⟩ := h.2.2.1 (by rw [e]; simp)
    cases e'

theorem run_app (w : World) (base : Nat) (ty : TypeId) (v : Value) (l : List UInt8) (hown : Own w base v l) (B : Nat) (A : Option Addr) (m c : Nat) (l' : List UInt8) (hm : m = l'.length) (hr : Rd w B A l' c)
    (hlen : l.length + l'.length ≤ 1000000) (hbase : base ≤ w.heap.size) :
    ∃ v' w', (Builtin.append_ #[28, 28] ty #[v, .slice A m c]).run Tryd.prog w = .ok v' w' ∧ Own w' base v' (l ++ l') ∧ w.grownBy w' v.ownBlock ∧ (v'.ownBlock = v.ownBlock ∨ v'.ownBlock = some w.heap.size) := by
  subst hm
  obtain ⟨i0, hi, hz0, hz1, hz2⟩ := info_parts info5
  cases A with
  | none =>
    have := hr.none_nil
    subst this
    refine ⟨v, w, ?_, by simpa using hown, World.grownBy.refl w _, .inl rfl⟩
    rcases hown.2 with ⟨rfl, _⟩ | ⟨g, cap, cur, rfl, _, _, hnc, _⟩
    · simp [Builtin.append_, run_underlying Tryd.underlying28, sizeOf, typeInfo, hi, Builtin.lenOf, Builtin.firstCells]
    · simp [Builtin.append_, run_underlying Tryd.underlying28, sizeOf, typeInfo, hi, Builtin.lenOf, Builtin.firstCells, hnc, storeCells]
  | some ad =>
    obtain ⟨v', w', hrun, h2, h3, _, h5⟩ := run_append_own_at (P := Tryd.prog) w base 28 ty 5 i0 _ 1 1 Tryd.underlying28 hi hz0 hz1 hz2 rfl (by omega) v l.length (l.map bv) hown ad l'.length c (l'.map bv) (by simp)
      (fun j u hu => by
        rw [List.getElem?_map, Option.map_eq_some_iff] at hu
        obtain ⟨x, hx, rfl⟩ := hu
        exact hr.2.2.2 ad rfl j x hx) (bv_one l') (by unfold maxLen; omega) (by omega) hbase
    refine ⟨v', w', hrun, ?_, h3, h5⟩
    unfold Own
    rw [List.length_append, List.map_append]
    exact h2

theorem wp_app (w : World) {o : Oper} {a : Act} {K : Act → World → Prop} {Q : Exit → Act → World → Prop} (s x : Operand)
    (ho : o.op = .call { callee := .builtin .append, args := #[s, x], argTypes := #[28, 28] })
    (base : Nat) (v : Value) (l : List UInt8) (hs : a.eval s = v) (hown : Own w base v l) (B : Nat) (A : Option Addr) (m c : Nat) (l' : List UInt8) (hx : a.eval x = .slice A m c) (hm : m = l'.length) (hr : Rd w B A l' c)
    (hlen : l.length + l'.length ≤ 1000000) (hbase : base ≤ w.heap.size)
    (h : ∀ v' w', Own w' base v' (l ++ l') → w.grownBy w' v.ownBlock → (v'.ownBlock = v.ownBlock ∨ v'.ownBlock = some w.heap.size) → K (a.put o.dst v') w') : o.wp Tryd.prog a w K Q := by
  obtain ⟨v', w', hrun, h2, h3, h4⟩ := run_app w base o.type v l hown B A m c l' hm hr hlen hbase
  unfold Oper.wp execOp
  simp only [ho, resolve, invoke, builtin, Sem.run_bind, Sem.run_pure, Result.andThen_ok, List.map_toArray, List.map_cons, List.map_nil, hs, hx, hrun]
  exact h v' w' h2 h3 h4

theorem wpList_app (w : World) {ops : Array Oper} {rest : List Oper} {o : Oper} {a : Act} {Q : Exit → Act → World → Prop} (hgd : o.guard = none) (s x : Operand)
    (ho : o.op = .call { callee := .builtin .append, args := #[s, x], argTypes := #[28, 28] })
    (base : Nat) (v : Value) (l : List UInt8) (hs : a.eval s = v) (hown : Own w base v l) (B : Nat) (A : Option Addr) (m c : Nat) (l' : List UInt8) (hx : a.eval x = .slice A m c) (hm : m = l'.length) (hr : Rd w B A l' c)
    (hlen : l.length + l'.length ≤ 1000000) (hbase : base ≤ w.heap.size)
    (h : ∀ v' w', Own w' base v' (l ++ l') → w.grownBy w' v.ownBlock → (v'.ownBlock = v.ownBlock ∨ v'.ownBlock = some w.heap.size) → wpList Tryd.prog ops Q rest (a.put o.dst v') w') : wpList Tryd.prog ops Q (o :: rest) a w :=
  wpList_plain hgd fun _ hK => wp_app w s x ho base v l hs hown B A m c l' hx hm hr hlen hbase fun v' w' h2 h3 h4 => hK _ _ (h v' w' h2 h3 h4)

theorem wpList_appG (w : World) {ops : Array Oper} {rest : List Oper} {o : Oper} {a : Act} {Q : Exit → Act → World → Prop} (hw : Region.wanted o (yielded ops a.tmps) = true) (s x : Operand)
    (ho : o.op = .call { callee := .builtin .append, args := #[s, x], argTypes := #[28, 28] })
    (base : Nat) (v : Value) (l : List UInt8) (hs : a.eval s = v) (hown : Own w base v l) (B : Nat) (A : Option Addr) (m c : Nat) (l' : List UInt8) (hx : a.eval x = .slice A m c) (hm : m = l'.length) (hr : Rd w B A l' c)
    (hlen : l.length + l'.length ≤ 1000000) (hbase : base ≤ w.heap.size)
    (h : ∀ v' w', Own w' base v' (l ++ l') → w.grownBy w' v.ownBlock → (v'.ownBlock = v.ownBlock ∨ v'.ownBlock = some w.heap.size) → wpList Tryd.prog ops Q rest (a.put o.dst v') w') : wpList Tryd.prog ops Q (o :: rest) a w := by
  unfold wpList
  rw [if_pos hw]
  exact .inl (wp_app w s x ho base v l hs hown B A m c l' hx hm hr hlen hbase h)

theorem step_app (w : World) {ops : Array Oper} {o : Oper} {a : Act} {K : Act → World → Prop} {Q : Exit → Act → World → Prop} {E : Prop} (hgd : o.guard = none) (s x : Operand)
    (ho : o.op = .call { callee := .builtin .append, args := #[s, x], argTypes := #[28, 28] })
    (base : Nat) (v : Value) (l : List UInt8) (hs : a.eval s = v) (hown : Own w base v l) (B : Nat) (A : Option Addr) (m c : Nat) (l' : List UInt8) (hx : a.eval x = .slice A m c) (hm : m = l'.length) (hr : Rd w B A l' c)
    (hlen : l.length + l'.length ≤ 1000000) (hbase : base ≤ w.heap.size)
    (h : ∀ v' w', Own w' base v' (l ++ l') → w.grownBy w' v.ownBlock → (v'.ownBlock = v.ownBlock ∨ v'.ownBlock = some w.heap.size) → K (a.put o.dst v') w') :
    if Region.wanted o (yielded ops a.tmps) = true then Oper.wp Tryd.prog o a w K Q else E := by
  have hw : Region.wanted o (yielded ops a.tmps) = true := by simp [Region.wanted, hgd]
  rw [if_pos hw]
  exact wp_app w s x ho base v l hs hown B A m c l' hx hm hr hlen hbase h

/-- Behind an append nothing below base has turned. -/
theorem grown_below {w w' : World} {base : Nat} {v : Value} {l : List UInt8} (hown : Own w base v l) (hg : w.grownBy w' v.ownBlock) (hbase : base ≤ w.heap.size) : Below base w w' :=
  (Below.refl _ _).grown hg hbase (fun k hk => (hown.ge k hk).1)

theorem one_rd (w : World) (z : Int) (B : Nat) (hB : w.heap.size < B) (h0 : 0 ≤ z) (h1 : z ≤ 255) : Rd (w.alloc (.cells #[.int .u8 z] 5)) B (some ⟨w.heap.size, 0, none⟩) [UInt8.ofNat z.toNat] 1 := by
  have hz : Value.int .u8 z = bv (UInt8.ofNat z.toNat) := by
    unfold bv
    have : ((UInt8.ofNat z.toNat).toNat : Int) = z := by
      rw [UInt8.toNat_ofNat']
      omega
    rw [this]
  have hb : Bk (w.alloc (.cells #[.int .u8 z] 5)) w.heap.size [UInt8.ofNat z.toNat] := by
    rw [hz]
    exact heap_alloc_new w _
  exact hb.rd hB (by simp) (by unfold maxLen; omega)

theorem one_bk2 (w : World) (o : Obj) (z : Int) (h0 : 0 ≤ z) (h1 : z ≤ 255) : Bk ((w.alloc o).alloc (.cells #[.int .u8 z] 5)) (w.heap.size + 1) [UInt8.ofNat z.toNat] := by
  have hz : Value.int .u8 z = bv (UInt8.ofNat z.toNat) := by
    unfold bv
    have : ((UInt8.ofNat z.toNat).toNat : Int) = z := by
      rw [UInt8.toNat_ofNat']
      omega
    rw [this]
  rw [hz]
  exact n3 w o _

theorem Bk.rdN {w : World} {g n : Nat} {l : List UInt8} (h : Bk w g l) (hn : l.length = n) (hl : n ≤ 100000) : Rd w w.heap.size (some ⟨g, 0, none⟩) l n := by
  subst hn
  exact h.rdS hl

/-- A struct's two cells, in every world that has w1's old memory. -/
theorem sOf2 {w1 W : World} {a : Nat} {u0 u1 : Value} (k0 : w1.cell? ⟨a, 0, none⟩ = some u0) (k1 : w1.cell? ⟨a, 1, none⟩ = some u1) (ha : a < w1.heap.size) (h : Below w1.heap.size w1 W) :
    W.cell? ⟨a, 0, none⟩ = some u0 ∧ W.cell? ⟨a, 1, none⟩ = some u1 ∧ Below w1.heap.size w1 W :=
  ⟨(h.cell (p := ⟨a, 0, none⟩) ha).trans k0, (h.cell (p := ⟨a, 1, none⟩) ha).trans k1, h⟩

theorem noDrew {W w9 : World} (h : Below W.drew.heap.size W.drew w9) : Below W.heap.size W w9 := ⟨h.os, h.tape, h.output, h.size, h.block⟩

theorem bSet {a w : World} {b i : Nat} (h : Below a.heap.size a w) (hb : a.heap.size ≤ b) (u : Value) : Below a.heap.size a (w.setCell ⟨b, i, none⟩ u) := h.setCell (p := ⟨b, i, none⟩) hb u

theorem empty_own (w : World) (base : Nat) (h : base ≤ w.heap.size) : Own (w.alloc (.cells #[] 5)) base (.slice (some ⟨w.heap.size, 0, none⟩) 0 0) [] :=
  ⟨by simp, .inr ⟨w.heap.size, 0, #[], rfl, h, heap_alloc_new w _, Nat.le_refl _, by simp, by simp, by simp⟩⟩

theorem app_start {w3 w' : World} (hg : (w3.alloc (.cells #[] 5)).drew.grownBy w' (Value.ownBlock (.slice (some ⟨w3.heap.size, 0, none⟩) 0 0))) : Below w3.heap.size w3 w' := by
  have h1 := grown_below (empty_own w3 _ (Nat.le_refl _)).drew hg (by show w3.heap.size ≤ (w3.alloc _).heap.size; simp)
  exact (bAlloc (Below.refl w3.heap.size w3) _).drew.trans h1

theorem app_start0 {w3 w' : World} (hg : (w3.alloc (.cells #[] 5)).grownBy w' (Value.ownBlock (.slice (some ⟨w3.heap.size, 0, none⟩) 0 0))) : Below w3.heap.size w3 w' := by
  have h1 := grown_below (empty_own w3 _ (Nat.le_refl _)) hg (by simp)
  exact (bAlloc (Below.refl w3.heap.size w3) _).trans h1

theorem n4 (w : World) (o o' o'' : Obj) : (((w.alloc o).alloc o').alloc o'').heap[w.heap.size + 1 + 1]? = some o'' := by
  have := heap_alloc_new ((w.alloc o).alloc o') o''
  rw [World.size_alloc, World.size_alloc] at this
  exact this

theorem empty_ii (w : World) (o : Obj) : Own ((w.alloc (.cells #[] 5)).alloc o).drew w.heap.size (.slice (some ⟨w.heap.size, 0, none⟩) 0 0) [] := ((empty_own w _ (Nat.le_refl _)).alloc o).drew

theorem empty_iii (w : World) (o : Obj) : Own ((w.alloc o).alloc (.cells #[] 5)).drew w.heap.size (.slice (some ⟨w.heap.size + 1, 0, none⟩) 0 0) [] := by
  have := empty_own (w.alloc o) w.heap.size (by simp)
  rw [World.size_alloc] at this
  exact this.drew

theorem app_below {w1 w w' : World} {v : Value} {l : List UInt8} (h : Below w1.heap.size w1 w) (hown : Own w w1.heap.size v l) (hg : w.grownBy w' v.ownBlock) : Below w1.heap.size w1 w' :=
  h.trans (grown_below hown hg h.size)

theorem Own.setOther {w : World} {base b : Nat} {v : Value} {l : List UInt8} (h : Own w base v l) (hb : v.ownBlock ≠ some b) (u u' : Value) : Own ((w.setCell ⟨b, 0, none⟩ u).setCell ⟨b, 1, none⟩ u') base v l :=
  h.kept (row := some b) ⟨rfl, rfl, rfl, by simp [World.setCell], fun k _ hk => (Below.heap_setCell _ ⟨b, 1, none⟩ _ k (fun e => hk (by rw [e]))).trans (Below.heap_setCell _ ⟨b, 0, none⟩ _ k (fun e => hk (by rw [e])))⟩ (.inr hb)

theorem Own.setOne {w : World} {base b i : Nat} {v : Value} {l : List UInt8} (h : Own w base v l) (hb : v.ownBlock ≠ some b) (u : Value) : Own (w.setCell ⟨b, i, none⟩ u) base v l :=
  h.kept (row := some b) ⟨rfl, rfl, rfl, by simp [World.setCell], fun k _ hk => Below.heap_setCell _ ⟨b, i, none⟩ _ k (fun e => hk (by rw [e]))⟩ (.inr hb)

theorem Rd.form {w : World} {B : Nat} {A : Option Addr} {l : List UInt8} {c k : Nat} (h : Rd w B A l c) (hk : k < l.length) :
    ∃ b off, A = some ⟨b, off, none⟩ ∧ b < B ∧ w.cell? ⟨b, off + k, none⟩ = some (.int .u8 (l[k].toNat : Int)) := by
  obtain ⟨ad, rfl, hb⟩ := h.2.2.1 (by rintro rfl; simp at hk)
  obtain ⟨b, off, spot⟩ := ad
  have hc := h.2.2.2 _ rfl k l[k] (List.getElem?_eq_getElem hk)
  have h00 : 0 < l.length := by omega
  have hc0 := h.2.2.2 _ rfl 0 l[0] (List.getElem?_eq_getElem h00)
  have hs : spot = none := by
    have := World.cell?_spot hc0
    simpa [Addr.add] using this
  subst hs
  rw [Addr.add_lit] at hc
  exact ⟨b, off, rfl, hb, hc⟩

theorem one_rdb (w : World) (u : UInt8) : Rd (w.alloc (.cells #[.int .u8 (u.toNat : Int)] 5)) (w.heap.size + 1) (some ⟨w.heap.size, 0, none⟩) [u] 1 := by
  have hb : Bk (w.alloc (.cells #[.int .u8 (u.toNat : Int)] 5)) w.heap.size [u] := heap_alloc_new w _
  exact hb.rd (by omega) (by simp) (by unfold maxLen; omega)

theorem Own.setLow {w : World} {base : Nat} {v : Value} {l : List UInt8} (h : Own w base v l) {b : Nat} (hb : b < base) (u u' : Value) : Own ((w.setCell ⟨b, 0, none⟩ u).setCell ⟨b, 1, none⟩ u') base v l :=
  ownsRow_setCell_below (a := ⟨b, 1, none⟩) (ownsRow_setCell_below (a := ⟨b, 0, none⟩) h hb u) hb u'

theorem Own.rdOf {w : World} {base n c : Nat} {A : Option Addr} {l : List UInt8} (h : Own w base (.slice A n c) l) : Rd w w.heap.size A l c := by
  obtain ⟨A', c', e, hr⟩ := h.rd
  injection e with e1 e2 e3
  subst e1 e3
  exact hr

/-- The length in a slot: for a loop's measure. -/
def lenOfV : Value → Nat | .slice _ n _ => n | _ => 0

/-- Two owned rows are apart. -/
def Apart (v v' : Value) : Prop := ∀ g, v.ownBlock = some g → v'.ownBlock ≠ some g

/-- A struct's two cells and one cell more, in every world that has w1's old memory. -/
theorem sOf3 {w1 W : World} {a b i : Nat} {u0 u1 u2 : Value} (k0 : w1.cell? ⟨a, 0, none⟩ = some u0) (k1 : w1.cell? ⟨a, 1, none⟩ = some u1) (k2 : w1.cell? ⟨b, i, none⟩ = some u2) (ha : a < w1.heap.size) (hb : b < w1.heap.size) (h : Below w1.heap.size w1 W) :
    W.cell? ⟨a, 0, none⟩ = some u0 ∧ W.cell? ⟨a, 1, none⟩ = some u1 ∧ W.cell? ⟨b, i, none⟩ = some u2 ∧ Below w1.heap.size w1 W :=
  ⟨(h.cell (p := ⟨a, 0, none⟩) ha).trans k0, (h.cell (p := ⟨a, 1, none⟩) ha).trans k1, (h.cell (p := ⟨b, i, none⟩) hb).trans k2, h⟩

/-- Two structs' cells, in every world that has w1's old memory. -/
theorem sOf4 {w1 W : World} {a b : Nat} {u0 u1 v0 v1 : Value} (k0 : w1.cell? ⟨a, 0, none⟩ = some u0) (k1 : w1.cell? ⟨a, 1, none⟩ = some u1) (k2 : w1.cell? ⟨b, 0, none⟩ = some v0) (k3 : w1.cell? ⟨b, 1, none⟩ = some v1) (ha : a < w1.heap.size) (hb : b < w1.heap.size) (h : Below w1.heap.size w1 W) :
    W.cell? ⟨a, 0, none⟩ = some u0 ∧ W.cell? ⟨a, 1, none⟩ = some u1 ∧ W.cell? ⟨b, 0, none⟩ = some v0 ∧ W.cell? ⟨b, 1, none⟩ = some v1 ∧ Below w1.heap.size w1 W :=
  ⟨(h.cell (p := ⟨a, 0, none⟩) ha).trans k0, (h.cell (p := ⟨a, 1, none⟩) ha).trans k1, (h.cell (p := ⟨b, 0, none⟩) hb).trans k2, (h.cell (p := ⟨b, 1, none⟩) hb).trans k3, h⟩

/-- Block b is a struct (type t) of one-cell fields cs. -/
def SR (t : TypeId) (w : World) (b : Nat) (cs : List Value) : Prop := w.heap[b]? = some (.cells cs.toArray t (0, 0))
theorem SR.lt {t : TypeId} {w : World} {b : Nat} {cs : List Value} (h : SR t w b cs) : b < w.heap.size := (Array.getElem?_eq_some_iff.1 h).1
theorem SR.new (t : TypeId) (w : World) (cs : List Value) : SR t (w.alloc (.cells cs.toArray t)) w.heap.size cs := heap_alloc_new w _
theorem SR.call {t : TypeId} {W W' : World} {b B : Nat} {cs : List Value} (h : SR t W b cs) (hb : Below B W W') (hB : b < B) : SR t W' b cs := (hb.block b hB).trans h
theorem SR.alloc {t : TypeId} {W : World} {b : Nat} {cs : List Value} (h : SR t W b cs) (o : Obj) : SR t (W.alloc o) b cs := row_alloc h
theorem SR.cell {t : TypeId} {W : World} {b : Nat} {cs : List Value} (h : SR t W b cs) (i : Nat) : W.cell? ⟨b, i, none⟩ = cs[i]? := by
  rw [cell_of_row W b i _ t (0, 0) h]
  simp
theorem SR.frozen {t : TypeId} {W : World} {b : Nat} {cs : List Value} (h : SR t W b cs) (i : Nat) : W.frozen? ⟨b, i, none⟩ = false := by
  unfold SR at h
  simp [World.frozen?, h]
theorem SR.set {t : TypeId} {W : World} {b : Nat} {cs : List Value} (h : SR t W b cs) (i : Nat) (u : Value) : SR t (W.setCell ⟨b, i, none⟩ u) b (cs.set i u) := by
  have := row_set W b i u _ t h
  unfold SR
  rw [this]
  simp
theorem SR.far {t : TypeId} {W : World} {b : Nat} {cs : List Value} (h : SR t W b cs) {p : Addr} (hp : b ≠ p.block) (u : Value) : SR t (W.setCell p u) b cs := (Below.heap_setCell W p u b hp).trans h

end Go.Proofs.YtlfmbfecajhffaaDoor
