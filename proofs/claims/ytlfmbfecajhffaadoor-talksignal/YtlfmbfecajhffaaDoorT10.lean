/-
  The functions of a line, as a map: the contract of doings. No conditions beyond those each theorem states.
-/
import Derived.Test.YtlfmbfecajhffaaDoorA1
namespace Go.Proofs.YtlfmbfecajhffaaDoor
open Go.RowKit
set_option maxRecDepth 100000

/-- The functions, each with what it captures: the line's block, the end's, the left place's, the right one's. -/
def fnv (f : Nat) (cap : List Nat) : Value := .func (.func f) #[] (cap.map fun b => Value.pointer (some ⟨b, 0, none⟩)).toArray
def fns (l e lf r : Nat) : List (Int × Value) :=
  [(10, fnv 87 [l, lf]), (27, fnv 89 [l, r]), (12, fnv 90 [l]), (28, fnv 92 [l]), (29, fnv 94 [l]), (30, fnv 95 [l, e]), (11, fnv 96 [l, e]), (19, fnv 97 [l, lf]), (20, fnv 98 [l, r]), (21, fnv 99 [l]), (22, fnv 100 [l]), (23, fnv 101 [l]), (24, fnv 102 [l, e])]

/-- Block b holds the number z. -/
def IR (V : World) (b : Nat) (z : Int) : Prop := V.heap[b]? = some (.cells #[.int .i64 z] 3 (0, 0))
theorem IR.cell {V : World} {b : Nat} {z : Int} (h : IR V b z) : V.cell? ⟨b, 0, none⟩ = some (.int .i64 z) := by
  rw [cell_of_row V b 0 _ 3 (0, 0) h]
  rfl
theorem IR.lt {V : World} {b : Nat} {z : Int} (h : IR V b z) : b < V.heap.size := (Array.getElem?_eq_some_iff.1 h).1
theorem IR.frozen {V : World} {b : Nat} {z : Int} (h : IR V b z) : V.frozen? ⟨b, 0, none⟩ = false := by
  unfold IR at h
  simp [World.frozen?, h]
theorem IR.at_ {V W : World} {b : Nat} {z : Int} (h : IR V b z) (hb : Below V.heap.size V W) : IR W b z := (hb.block b h.lt).trans h

theorem sD {V W : World} {g h : Nat} {x y : Value} (k0 : V.cell? ⟨g, 1, none⟩ = some x) (k1 : V.cell? ⟨h, 0, none⟩ = some y) (hg : g < V.heap.size) (hh : h < V.heap.size) (b : Below V.heap.size V W) : W.cell? ⟨g, 1, none⟩ = some x ∧ W.cell? ⟨h, 0, none⟩ = some y ∧ Below V.heap.size V W :=
  ⟨(b.cell (p := ⟨g, 1, none⟩) hg).trans k0, (b.cell (p := ⟨h, 0, none⟩) hh).trans k1, b⟩

theorem line_end (w : World) (x y : Value) (z : Int) (V : World) (hV : (w.alloc (.cells #[x, y] 30)).alloc (.cells #[.int .i64 z] 3) = V) : Hid (SR 30 V w.heap.size [x, y]) ∧ Hid (IR V (w.heap.size + 1) z) ∧ Hid (Below w.heap.size w V) := by
  subst hV
  refine ⟨row_alloc (heap_alloc_new w _), ?_, bAlloc (bAlloc (Below.refl _ _) _) _⟩
  have := heap_alloc_new (w.alloc (.cells #[x, y] 30)) (.cells #[.int .i64 z] 3)
  rw [World.size_alloc] at this
  exact this

/-- None of the keys is k. -/
def fresh (l : List (Int × Value)) (k : Int) : Prop := look l k = none
theorem fresh_nil (k : Int) : fresh [] k := rfl
theorem fresh_cons {a k : Int} {v : Value} {r : List (Int × Value)} (h : (a == k) = false) : fresh ((a, v) :: r) k ↔ fresh r k := by
  unfold fresh look
  rw [List.find?_cons]
  simp [h]
theorem run_insF (W : World) (l : List (Int × Value)) (k : Int) (v : Value) (h : fresh l k) :
    (Instr.mapUpdate 119 (.map (some W.heap.size)) (.int .i64 k) v).run Tryd.prog (W.alloc (mapO l)) = .ok () (W.alloc (mapO (l ++ [(k, v)]))) := run_ins W l k v h
attribute [local go_sem] fresh_nil fresh_cons List.cons_append List.nil_append
/-- The map of functions, and what they capture. -/
def GotM (w : World) (A : Option Addr) (n c t : Nat) (e : Ending) (w' : World) : Prop :=
  ∃ b gl ge p q, e = .returned (.map (some b)) ∧ w'.heap[b]? = some (mapO (fns gl ge p q)) ∧ SR 30 w' gl [.slice A n c, .int .i64 (t : Int)] ∧ IR w' ge (n : Int) ∧ IR w' p ((t - 1 : Nat) : Int) ∧ IR w' q ((min (t + 1) n : Nat) : Int) ∧ Below w.heap.size w w'

theorem two_a (V : World) (x y : Int) : IR ((V.alloc (.cells #[.int .i64 x] 3)).alloc (.cells #[.int .i64 y] 3)).drew V.heap.size x ∧ IR ((V.alloc (.cells #[.int .i64 x] 3)).alloc (.cells #[.int .i64 y] 3)).drew (V.heap.size + 1) y ∧ Below V.heap.size V ((V.alloc (.cells #[.int .i64 x] 3)).alloc (.cells #[.int .i64 y] 3)).drew :=
  ⟨n2 V _ _, n3 V _ _, (bAlloc (bAlloc (Below.refl _ _) _) _).drew⟩
theorem lf_eq (t : Nat) : (if (t : Int) - 1 < 0 then (0 : Int) else (t : Int) - 1) = ((t - 1 : Nat) : Int) := by split <;> omega
theorem rt_eq (t n : Nat) : (if (n : Int) < (t : Int) + 1 then (n : Int) else (t : Int) + 1) = ((min (t + 1) n : Nat) : Int) := by split <;> omega

set_option maxHeartbeats 4000000 in
theorem doings_any (A : Option Addr) (l : List UInt8) (n c t : Nat) (w : World) (hn : n = l.length) (hr : Rd w w.heap.size A l c) (hl : n ≤ 100000) (ht : t ≤ n) :
    Calls Tryd.prog 81 #[.agg #[.slice A n c, .int .i64 (t : Int)]] w (GotM w A n c t) := by
  have HN := keepd hn
  have HR0 := keepd hr
  have hmm := run_new
  have hmi := run_insF
  have hmf : ∀ (fn : Fn) (first cap : Array Value) (w : World), (Instr.makeFunc fn first cap).run Tryd.prog w = .ok (.func fn first cap) w := fun _ _ _ _ => rfl
  have w0 : IntKind.i64.wrap ((t : Int) - 1) = (t : Int) - 1 := by rw [IntKind.wrap_i64]; omega
  have w1 : IntKind.i64.wrap ((t : Int) + 1) = (t : Int) + 1 := by rw [IntKind.wrap_i64]; omega
  obtain ⟨x, hx⟩ : ∃ x : Int, (if (t : Int) - 1 < 0 then (0 : Int) else (t : Int) - 1) = x := ⟨_, rfl⟩
  obtain ⟨y, hy⟩ : ∃ y : Int, (if (n : Int) < (t : Int) + 1 then (n : Int) else (t : Int) + 1) = y := ⟨_, rfl⟩
  have HX := keepd (hx.symm.trans (lf_eq t))
  have HY := keepd (hy.symm.trans (rt_eq t n))
  clear hn hr
  go_enter Tryd.func81, Tryd.ntmps81
  go_upto_region 2 with fail
  generalize hV : (w.alloc (.cells #[.slice A n c, .int .i64 (t : Int)] 30)).alloc (.cells #[.int .i64 (n : Int)] 3) = V
  obtain ⟨H1, H2, HB⟩ := line_end _ _ _ _ _ hV
  have k0 := H1.out.cell 1
  have k1 := H2.out.cell
  simp only [List.getElem?_cons_zero, List.getElem?_cons_succ] at k0 
  have K0 := keepd k0
  have K1 := keepd k1
  have lt0 := H1.out.lt
  have lt1 := H2.out.lt
  clear hV
  go_cut [4, 5] from 9 to 18 (fun s4 s5 wx => ∃ p q, s4 = .pointer (some ⟨p, 0, none⟩) ∧ s5 = .pointer (some ⟨q, 0, none⟩) ∧ Hid (IR wx p x ∧ IR wx q y ∧ Below V.heap.size V wx))
  case first =>
    go_region_held3 (fun W => W.cell? ⟨w.heap.size, 1, none⟩ = some (.int .i64 (t : Int)) ∧ W.cell? ⟨w.heap.size + 1, 0, none⟩ = some (.int .i64 (n : Int)) ∧ Below V.heap.size V W)
      ((refine sD K0.out K1.out lt0 lt1 ?_; repeat (first | assumption | exact Below.refl _ _ | with_reducible refine bSet ?_ ?_ _ | with_reducible refine bAlloc ?_ _ | with_reducible refine Below.drew ?_ | omega)))
      (fail)
    all_goals go_wp2_with fail
    all_goals go_meet
    all_goals
      first
        | exact ⟨_, _, rfl, rfl, (two_a V _ _).1, (two_a V _ _).2.1, (two_a V _ _).2.2⟩
        | exact ⟨_, _, rfl, rfl, (two_a V _ _).2.1, (two_a V _ _).1, (two_a V _ _).2.2⟩
  case rest =>
    obtain ⟨p, q, rfl, rfl, HC⟩ := hcut
    obtain ⟨V3, hV3⟩ : ∃ V3, V3 = wc := ⟨_, rfl⟩
    subst hV3
    have hc := HC.out
    rw [HX.out, HY.out] at hc
    have hb3 := HC.out.2.2
    have HM := keepd (heap_alloc_new V3 (mapO (fns w.heap.size (w.heap.size + 1) p q)))
    have hX : Below V3.heap.size V3 (V3.alloc (mapO (fns w.heap.size (w.heap.size + 1) p q))) := bAlloc (Below.refl _ _) _
    have HL1 := keepd (SR.call (SR.call H1.out hb3 H1.out.lt) hX (Nat.lt_of_lt_of_le H1.out.lt hb3.size))
    have HL2 := keepd ((H2.out.at_ hb3).at_ hX)
    have HL3 := keepd (hc.1.at_ hX)
    have HL4 := keepd (hc.2.1.at_ hX)
    have HB5 := keepd (bCall (bCall HB.out hb3) hX)
    clear hc hb3 hX
    clear hx hy
    go_wp2_with fail
    go_ret
    exact ⟨_, _, _, _, _, rfl, HM.out, HL1.out, HL2.out, HL3.out, HL4.out, HB5.out⟩

end Go.Proofs.YtlfmbfecajhffaaDoor
