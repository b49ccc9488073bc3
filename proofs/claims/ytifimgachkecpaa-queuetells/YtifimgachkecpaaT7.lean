/-
  A contract over layer 1: awake returns true.
-/
import Derived.Test.YtifimgachkecpaaT6
namespace Go.Proofs.Ytifimgachkecpaa
open Go.RowKit

theorem put_at (cap : Int) (A A' : Option Addr) (l l' out : List UInt8) (n n' c c' : Nat) (m : Int) (w : World) (hn : n = l.length) (hn' : n' = l'.length)
    (hout : l ++ l'.take (min l'.length (cap.toNat - l.length)) = out) (hm : ((min l'.length (cap.toNat - l.length) : Nat) : Int) = m)
    (h : May cap l.length) (hr : Rd w w.heap.size A l c) (hr' : Rd w w.heap.size A' l' c') (hl' : l'.length ≤ 100000) :
    Calls Try.prog 16 #[.agg #[.int .i64 cap, .slice A n c], .slice A' n' c'] w (GotPut w cap out m 0) := by
  subst hn hn' hout hm
  exact put_yes cap A A' l l' c c' w h hr hr' hl'

theorem take_at (cap n : Int) (A : Option Addr) (l rest out : List UInt8) (ln c k : Nat) (w : World) (hn : ln = l.length) (hk : (k : Int) = max 0 (min n l.length)) (hrest : l.drop k = rest) (hout : l.take k = out)
    (h : May cap l.length) (hr : Rd w w.heap.size A l c) :
    Calls Try.prog 17 #[.agg #[.int .i64 cap, .slice A ln c], .int .i64 n] w (GotTake w cap rest out) := by
  subst hn hrest hout
  exact take_yes cap n A l c k w hk h hr

theorem Rd.nil (w : World) (B : Nat) : Rd w B none [] 0 := ⟨by simp, by simp, fun h => absurd rfl h, fun _ h => by cases h⟩

/-- Block b is a struct of two cells. -/
def QR (w : World) (b : Nat) (u v : Value) : Prop := w.heap[b]? = some (.cells #[u, v] 24 (0, 0))
theorem QR.lt {w : World} {b : Nat} {u v : Value} (h : QR w b u v) : b < w.heap.size := (Array.getElem?_eq_some_iff.1 h).1
theorem QR.new (w : World) (u v : Value) : QR (w.alloc (.cells #[u, v] 24)) w.heap.size u v := heap_alloc_new w _
theorem QR.call {W w3 : World} {b : Nat} {u v : Value} (h : QR W b u v) {B : Nat} (hb : Below B W w3) (hB : b < B) : QR w3 b u v := (hb.block b hB).trans h
theorem QR.alloc {W : World} {b : Nat} {u v : Value} (h : QR W b u v) (o : Obj) : QR (W.alloc o) b u v := row_alloc h
theorem QR.facts {W : World} {b : Nat} {u v : Value} (h : QR W b u v) :
    W.cell? ⟨b, 0, none⟩ = some u ∧ W.cell? ⟨b, 1, none⟩ = some v ∧ W.frozen? ⟨b, 0, none⟩ = false ∧ W.frozen? ⟨b, 1, none⟩ = false := by
  refine ⟨cell_of_row W b 0 _ 24 (0, 0) h, cell_of_row W b 1 _ 24 (0, 0) h, ?_, ?_⟩ <;> (unfold QR at h; simp [World.frozen?, h])
theorem row_set (w : World) (b i : Nat) (u : Value) (cs : Array Value) (t : TypeId) (h : w.heap[b]? = some (.cells cs t (0, 0))) : (w.setCell ⟨b, i, none⟩ u).heap[b]? = some (.cells (cs.setIfInBounds i u) t (0, 0)) := by
  simp [World.setCell, Array.getElem?_modify, h]
theorem QR.store {W : World} {b : Nat} {x y : Value} (h : QR W b x y) (u v : Value) : QR ((W.setCell ⟨b, 0, none⟩ u).setCell ⟨b, 1, none⟩ v) b u v := by
  have := row_set _ b 1 v _ 24 (row_set W b 0 u _ 24 h)
  exact this
theorem set2_below {a W : World} {B b : Nat} (h : Below B a W) (hb : B ≤ b) (u v : Value) : Below B a ((W.setCell ⟨b, 0, none⟩ u).setCell ⟨b, 1, none⟩ v) :=
  (h.setCell (p := ⟨b, 0, none⟩) hb u).setCell (p := ⟨b, 1, none⟩) hb v
theorem set2_bk {W : World} {b g : Nat} {l : List UInt8} (h : Bk W g l) (hb : g ≠ b) (u v : Value) : Bk ((W.setCell ⟨b, 0, none⟩ u).setCell ⟨b, 1, none⟩ v) g l :=
  (h.setCell (p := ⟨b, 0, none⟩) hb u).setCell (p := ⟨b, 1, none⟩) hb v
theorem set2_size (W : World) (b : Nat) (u v : Value) : ((W.setCell ⟨b, 0, none⟩ u).setCell ⟨b, 1, none⟩ v).heap.size = W.heap.size := by simp [World.setCell]

theorem Bk.alloc {w : World} {g : Nat} {l : List UInt8} (h : Bk w g l) (o : Obj) : Bk (w.alloc o) g l := row_alloc h
theorem Bk.rdS {w : World} {g : Nat} {l : List UInt8} (h : Bk w g l) (hl : l.length ≤ 100000) : Rd w w.heap.size (some ⟨g, 0, none⟩) l l.length := h.rd h.lt (Nat.le_refl _) (by unfold maxLen; omega)

set_option maxHeartbeats 800000 in
theorem awake_any (w : World) : Calls Try.prog 18 #[] w fun e w' => e = .returned (.bool true) ∧ Below w.heap.size w w' := by
  go_enter Try.func18, Try.ntmps18
  go_wp2_with fail
  with_reducible refine (new_yes 3 _ (by omega) (by omega)).mono ?_
  rintro e w1 ⟨rfl, hb1⟩
  go_wp2_with fail
  -- Put of four octets
  have hk1 : Bk ((w1.alloc (.cells #[.int .i64 3, .slice none 0 0] 24)).alloc (.cells #[.int .u8 1, .int .u8 2, .int .u8 3, .int .u8 4] 5)) (w1.heap.size + 1) [1, 2, 3, 4] := n3 w1 _ _
  with_reducible refine (put_at 3 none (some ⟨w1.heap.size + 1, 0, none⟩) [] [1, 2, 3, 4] [1, 2, 3] 0 4 0 4 3 _ rfl rfl rfl rfl (by unfold May; simp) (Rd.nil _ _) (hk1.rdS (by simp)) (by simp)).mono ?_
  rintro e w2 ⟨g2, rfl, hg2, hbk2, hb2⟩
  simp only [World.size_alloc] at hb2 hg2
  have q2 : QR w2 w1.heap.size (.int .i64 3) (.slice none 0 0) := ((QR.new w1 _ _).alloc _).call hb2 (by omega)
  have s2 : Below w.heap.size w w2 := (((hb1.alloc hb1.size _).alloc (by have := hb1.size; simp; omega) _).trans (hb2.mono (by have := hb1.size; omega)))
  have lt := hb1.size
  have e0 := q2.facts
  have HB2 := keepd hbk2
  have HQ2 := keepd q2
  clear hbk2 hk1 hb2 q2
  unfold qv
  go_wp2_with fail
  -- Take of two
  have hbk3 := set2_bk HB2.out (b := w1.heap.size) (by omega) (.int .i64 3) (.slice (some ⟨g2, 0, none⟩) 3 3)
  have hq3 := HQ2.out.store (.int .i64 3) (.slice (some ⟨g2, 0, none⟩) 3 3)
  have hs3 := set2_below s2 (b := w1.heap.size) (by omega) (.int .i64 3) (.slice (some ⟨g2, 0, none⟩) 3 3)
  have hz3 := set2_size w2 w1.heap.size (.int .i64 3) (.slice (some ⟨g2, 0, none⟩) 3 3)
  generalize (w2.setCell ⟨w1.heap.size, 0, none⟩ (.int .i64 3)).setCell ⟨w1.heap.size, 1, none⟩ (.slice (some ⟨g2, 0, none⟩) 3 3) = W3 at *
  with_reducible refine (take_at 3 2 (some ⟨g2, 0, none⟩) [1, 2, 3] [3] [1, 2] 3 3 2 _ rfl (by decide) rfl rfl (by unfold May; simp) (hbk3.rdS (by simp))).mono ?_
  rintro e w4 ⟨g4, o4, rfl, hg4, ho4, hne4, hbk4, hbo4, hb4⟩
  have l3 := hq3.lt
  have q4 := hq3.call hb4 l3
  have s4 : Below w.heap.size w w4 := hs3.trans (hb4.mono hs3.size)
  have l4 := hb4.size
  have e4 := q4.facts
  have HB4 := keepd hbk4
  have HO4 := keepd hbo4
  have HQ4 := keepd q4
  clear hbk4 hbo4 q4 hb4 e0 hbk3 hq3 HQ2 HB2 hz3
  unfold qv
  go_wp2_with fail
  -- Put of two
  have hbk5 := set2_bk HB4.out (b := w1.heap.size) (by omega) (.int .i64 3) (.slice (some ⟨g4, 0, none⟩) 1 1)
  have hbo5 := set2_bk HO4.out (b := w1.heap.size) (by omega) (.int .i64 3) (.slice (some ⟨g4, 0, none⟩) 1 1)
  have hq5 := HQ4.out.store (.int .i64 3) (.slice (some ⟨g4, 0, none⟩) 1 1)
  have hs5 := set2_below s4 (b := w1.heap.size) (by omega) (.int .i64 3) (.slice (some ⟨g4, 0, none⟩) 1 1)
  have hz5 := set2_size w4 w1.heap.size (.int .i64 3) (.slice (some ⟨g4, 0, none⟩) 1 1)
  generalize (w4.setCell ⟨w1.heap.size, 0, none⟩ (.int .i64 3)).setCell ⟨w1.heap.size, 1, none⟩ (.slice (some ⟨g4, 0, none⟩) 1 1) = W5 at *
  rw [← hz5]
  have hk5 : Bk (W5.alloc (.cells #[.int .u8 5, .int .u8 6] 5)) W5.heap.size [5, 6] := heap_alloc_new W5 _
  have hk6 : Bk (W5.alloc (.cells #[.int .u8 5, .int .u8 6] 5)) g4 [3] := row_alloc hbk5
  with_reducible refine (put_at 3 (some ⟨g4, 0, none⟩) (some ⟨W5.heap.size, 0, none⟩) [3] [5, 6] [3, 5, 6] 1 2 1 2 2 _ rfl rfl rfl rfl (by unfold May; simp) (hk6.rdS (by simp)) (hk5.rdS (by simp)) (by simp)).mono ?_
  rintro e w6 ⟨g6, rfl, hg6, hbk6, hb6⟩
  simp only [World.size_alloc] at hb6 hg6
  have q6 := (hq5.alloc _).call hb6 (by omega)
  have o6 := (hbo5.alloc _).below hb6 (by have := hbo5.lt; omega)
  have s6 : Below w.heap.size w w6 := (hs5.alloc hs5.size _).trans (hb6.mono (by have := hs5.size; omega))
  have l6 := hb6.size
  simp only [World.size_alloc] at l6
  have e6 := q6.facts
  have HB6 := keepd hbk6
  have HO6 := keepd o6
  have HQ6 := keepd q6
  have x5 := hbo5.lt
  clear hbk6 o6 q6 hb6 e4 hbk5 hbo5 hq5 HQ4 HB4 hz5 hk5 hk6 HO4
  unfold qv
  go_wp2_with fail
  -- Take of nine
  have hbk7 := set2_bk HB6.out (b := w1.heap.size) (by omega) (.int .i64 3) (.slice (some ⟨g6, 0, none⟩) 3 3)
  have hbo7 := set2_bk HO6.out (b := w1.heap.size) (by omega) (.int .i64 3) (.slice (some ⟨g6, 0, none⟩) 3 3)
  have hq7 := HQ6.out.store (.int .i64 3) (.slice (some ⟨g6, 0, none⟩) 3 3)
  have hs7 := set2_below s6 (b := w1.heap.size) (by omega) (.int .i64 3) (.slice (some ⟨g6, 0, none⟩) 3 3)
  have hz7 := set2_size w6 w1.heap.size (.int .i64 3) (.slice (some ⟨g6, 0, none⟩) 3 3)
  generalize (w6.setCell ⟨w1.heap.size, 0, none⟩ (.int .i64 3)).setCell ⟨w1.heap.size, 1, none⟩ (.slice (some ⟨g6, 0, none⟩) 3 3) = W7 at *
  with_reducible refine (take_at 3 9 (some ⟨g6, 0, none⟩) [3, 5, 6] [] [3, 5, 6] 3 3 3 _ rfl (by decide) rfl rfl (by unfold May; simp) (hbk7.rdS (by simp))).mono ?_
  rintro e w8 ⟨g8, o8, rfl, hg8, ho8, hne8, hbk8, hbo8, hb8⟩
  have q8 := hq7.call hb8 hq7.lt
  have p8 := hbo7.below hb8 hbo7.lt
  have s8 : Below w.heap.size w w8 := hs7.trans (hb8.mono hs7.size)
  have l7 := hbo7.lt
  have e8 := q8.facts
  have v1 := conv_str (set2_bk (p8) (b := w1.heap.size) (by omega) (.int .i64 3) (.slice (some ⟨g8, 0, none⟩) 0 0) |>.rdS (by simp))
  have v2 := conv_str (set2_bk (hbo8) (b := w1.heap.size) (by omega) (.int .i64 3) (.slice (some ⟨g8, 0, none⟩) 0 0) |>.rdS (by simp))
  simp only [List.length_cons, List.length_nil, Nat.zero_add, Nat.reduceAdd] at v1 v2
  clear hbk8 hbo8 q8 hb8 e6 hbk7 hbo7 hq7 HQ6 HB6 hz7 HO6 p8
  unfold qv
  go_wp2
  go_ret
  exact ⟨rfl, set2_below s8 (by omega) _ _⟩
end Go.Proofs.Ytifimgachkecpaa
