/-
  Few; a line anew, and moved. No conditions beyond those each theorem states.
-/
import Derived.Test.YtecihodifgjkoaaDoorT6
import Derived.Test.YtecihodifgjkoaaDoorT3
namespace Go.Proofs.YtecihodifgjkoaaDoor
open Go.RowKit
set_option maxRecDepth 100000

theorem Own.base {w : World} {b b' : Nat} {v : Value} {l : List UInt8} (h : Own w b v l) (hb : b' ≤ b) : Own w b' v l := by
  refine ⟨h.1, ?_⟩
  rcases h.2 with hn | ⟨g, cap, cur, rfl, hg, rest⟩
  · exact .inl hn
  · exact .inr ⟨g, cap, cur, rfl, Nat.le_trans hb hg, rest⟩
/-- A line of its own memory. -/
def GotN (w : World) (L : List UInt8) (m : Nat) (z : Int) (e : Ending) (w' : World) : Prop :=
  (∃ A c, e = .returned (.agg #[.slice A m c, .int .i64 z]) ∧ Own w' w.heap.size (.slice A m c) L) ∧ Below w.heap.size w w'

/-- No more than is looked at. -/
def fewL (l : List UInt8) : List UInt8 := if (200 < l.length ∧ l.length < 4000) ∨ 4100 < l.length then l.take 200 else l
theorem few_le (l : List UInt8) : (fewL l).length ≤ 4100 ∧ (fewL l).length ≤ l.length := by
  unfold fewL
  split
  · rw [List.length_take]; omega
  · omega

theorem line_facts {V : World} {g : Nat} {x y : Value} (H : SR 28 V g [x, y]) : V.cell? ⟨g, 0, none⟩ = some x ∧ V.cell? ⟨g, 1, none⟩ = some y ∧ V.frozen? ⟨g, 0, none⟩ = false ∧ V.frozen? ⟨g, 1, none⟩ = false ∧ g < V.heap.size :=
  ⟨H.cell 0, H.cell 1, H.frozen 0, H.frozen 1, H.lt⟩

theorem few_any (A : Option Addr) (l : List UInt8) (n c m : Nat) (z : Int) (w : World) (hn : n = l.length) (hr : Rd w w.heap.size A l c) (hm : (fewL l).length = m) :
    Calls Tryd.prog 22 #[.agg #[.slice A n c, .int .i64 z]] w fun e w' => e = .returned (.agg #[.slice A m c, .int .i64 z]) ∧ Below w.heap.size w w' := by
  have hc1 : n ≤ c := by rw [hn]; exact hr.1
  have hc2 := hr.2.1
  unfold maxLen at hc2
  have HM : Hid (m = if (200 < n ∧ n < 4000) ∨ 4100 < n then 200 else n) := by
    show _ = _
    rw [← hm, hn]
    unfold fewL
    split
    · rw [List.length_take]; omega
    · rfl
  clear hn hr hm
  go_enter Tryd.func22, Tryd.ntmps22
  go_upto_region 1 with fail
  generalize hV : (w.alloc (.cells #[.slice A n c, .int .i64 z] 28)).alloc (.cells #[.slice none 0 0, .int .i64 0] 28) = V
  obtain ⟨H1, H2, HB⟩ := line_new2 _ _ _ _ _ _ hV
  obtain ⟨k0, k1, k2, k3, kt⟩ := line_facts H1.out
  obtain ⟨j0, j1, j2, j3, lt⟩ := line_facts H2.out
  clear hV H1 H2
  by_cases h1 : 200 < n
  case neg =>
    have a0 : ¬ (n : Int) > 200 := by omega
    have a1 : ¬ (200 : Int) < n := by omega
    have a2 : ¬ 200 < n := by omega
    have b0 : ¬ (n : Int) > 4100 := by omega
    have b1 : ¬ (4100 : Int) < n := by omega
    have b2 : ¬ 4100 < n := by omega
    obtain rfl : m = n := by have := HM.out; rw [if_neg (by omega)] at this; exact this
    clear HM h1
    go_wp2_with fail
    refine bodyPost_ret (v := .agg #[.slice A m c, .int .i64 z]) (by simp [results, Tryd.results22, go_sem, j0, j1]) rfl ?_
    exact ⟨rfl, set2_below HB.out (Nat.le_succ _) _ _⟩
  have a0 : (n : Int) > 200 := by omega
  have a1 : (200 : Int) < n := by omega
  have s0 : (200 : Int) ≤ c := by omega
  have s1 : 200 ≤ c := by omega
  by_cases h2 : n < 4000
  case pos =>
    have b0 : (n : Int) < 4000 := by omega
    obtain rfl : m = 200 := by have := HM.out; rw [if_pos (by omega)] at this; exact this
    clear HM
    go_wp2_with fail
    refine bodyPost_ret (v := .agg #[.slice A 200 c, .int .i64 z]) (by simp [results, Tryd.results22, go_sem, j0, j1]) rfl ?_
    exact ⟨rfl, set2_below (HB.out.setCell (p := ⟨w.heap.size, 0, none⟩) (Nat.le_refl _) _) (Nat.le_succ _) _ _⟩
  have b0 : ¬ (n : Int) < 4000 := by omega
  by_cases h3 : 4100 < n
  case pos =>
    have c0 : (n : Int) > 4100 := by omega
    have c1 : (4100 : Int) < n := by omega
    obtain rfl : m = 200 := by have := HM.out; rw [if_pos (by omega)] at this; exact this
    clear HM
    go_wp2_with fail
    refine bodyPost_ret (v := .agg #[.slice A 200 c, .int .i64 z]) (by simp [results, Tryd.results22, go_sem, j0, j1]) rfl ?_
    exact ⟨rfl, set2_below (HB.out.setCell (p := ⟨w.heap.size, 0, none⟩) (Nat.le_refl _) _) (Nat.le_succ _) _ _⟩
  have c0 : ¬ (n : Int) > 4100 := by omega
  have c1 : ¬ (4100 : Int) < n := by omega
  obtain rfl : m = n := by have := HM.out; rw [if_neg (by omega)] at this; exact this
  clear HM
  go_wp2_with fail
  refine bodyPost_ret (v := .agg #[.slice A m c, .int .i64 z]) (by simp [results, Tryd.results22, go_sem, j0, j1]) rfl ?_
  exact ⟨rfl, set2_below HB.out (Nat.le_succ _) _ _⟩

theorem rdp1 (V : World) (A : Option Addr) (n c : Nat) (l : List UInt8) (hn : n = l.length) (h : Rd V V.heap.size A l c) : RdP (V.alloc (.cells #[.slice A n c] 26)) V.heap.size [⟨A, n, c, l⟩] :=
  ⟨heap_alloc_new V _, fun p hp => by
    simp only [List.mem_cons, List.not_mem_nil, or_false] at hp
    subst hp
    exact ⟨hn, h.alloc (Nat.le_refl _) (by simp) _⟩⟩

/-- What stands behind the call, once the answer is laid into its block. -/
theorem gotn_end {w w2 : World} {L : List UInt8} {m c : Nat} {A : Option Addr} {z : Int} {B : Nat} (hlt : w.heap.size + 1 < B) (ho : Own w2 B (.slice A m c) L) (hb : Below w.heap.size w w2) :
    Own ((w2.setCell ⟨w.heap.size + 1, 0, none⟩ (.slice A m c)).setCell ⟨w.heap.size + 1, 1, none⟩ (.int .i64 z)) w.heap.size (.slice A m c) L ∧ Below w.heap.size w ((w2.setCell ⟨w.heap.size + 1, 0, none⟩ (.slice A m c)).setCell ⟨w.heap.size + 1, 1, none⟩ (.int .i64 z)) :=
  ⟨(ho.setLow hlt _ _).base (by omega), set2_below hb (by omega) _ _⟩

theorem moved_any (A : Option Addr) (l : List UInt8) (n c : Nat) (z z' : Int) (w : World) (hn : n = l.length) (hr : Rd w w.heap.size A l c) (hl : n ≤ 1000000) :
    Calls Tryd.prog 63 #[.agg #[.slice A n c, .int .i64 z], .int .i64 z'] w (GotN w l n z') := by
  have HN := keepd hn
  have HR0 := keepd hr
  clear hn hr
  go_enter Tryd.func63, Tryd.ntmps63
  go_upto_region 1 with fail
  generalize hV : (w.alloc (.cells #[.slice A n c, .int .i64 z] 28)).alloc (.cells #[.slice none 0 0, .int .i64 0] 28) = V
  obtain ⟨H1, H2, HB⟩ := line_new2 _ _ _ _ _ _ hV
  have HS : Hid (V.heap.size = w.heap.size + 2) := by
    show _ = _
    rw [← hV, World.size_alloc, World.size_alloc]
  have k0 := H1.out.cell 0
  have k1 := H1.out.cell 1
  simp only [List.getElem?_cons_zero, List.getElem?_cons_succ] at k0 k1
  have C := concat_any V.heap.size 1 _ l _ (rdp1 V A n c l HN.out (HR0.out.at_ HB.out)) rfl (by omega) (by simp [flat]) (by rw [← HN.out]; exact hl)
  rw [← HN.out] at C
  replace C := keepd C
  clear hV
  go_wp2_with fail
  with_reducible refine C.out.mono ?_
  rintro e w2 ⟨⟨A2, c2, rfl, ho⟩, hb2⟩
  have hb3 := upA hb2
  have HO := keepd ho
  have HB2 := keepd (HB.out.trans (hb3.mono HB.out.size))
  obtain ⟨m0, m1, m2, m3, lt⟩ := line_facts (SR.call H2.out hb3 H2.out.lt)
  have HLT : Hid (w.heap.size + 1 < (V.alloc (.cells #[.slice A n c] 26)).heap.size) := by
    show _ < _
    rw [World.size_alloc, HS.out]
    omega
  clear hb2 hb3 C ho
  go_wp2_with fail
  refine bodyPost_ret (v := .agg #[.slice A2 n c2, .int .i64 z']) (by simp [results, Tryd.results63, go_sem, m0, m1]) rfl ?_
  obtain ⟨q1, q2⟩ := gotn_end (z := z') HLT.out HO.out HB2.out
  exact ⟨⟨A2, c2, rfl, q1⟩, q2⟩

/-- As moved: a line with memory of its own. -/
theorem anew_any (A : Option Addr) (l : List UInt8) (n c : Nat) (z : Int) (w : World) (hn : n = l.length) (hr : Rd w w.heap.size A l c) (hl : n ≤ 1000000) :
    Calls Tryd.prog 57 #[.agg #[.slice A n c, .int .i64 z]] w (GotN w l n z) := by
  have HN := keepd hn
  have HR0 := keepd hr
  clear hn hr
  go_enter Tryd.func57, Tryd.ntmps57
  go_upto_region 1 with fail
  generalize hV : (w.alloc (.cells #[.slice A n c, .int .i64 z] 28)).alloc (.cells #[.slice none 0 0, .int .i64 0] 28) = V
  obtain ⟨H1, H2, HB⟩ := line_new2 _ _ _ _ _ _ hV
  have HS : Hid (V.heap.size = w.heap.size + 2) := by
    show _ = _
    rw [← hV, World.size_alloc, World.size_alloc]
  obtain ⟨k0, k1, _, _, _⟩ := line_facts H1.out
  have C := keepd (moved_any A l n c z z V HN.out (HR0.out.at_ HB.out) hl)
  clear hV
  go_wp2_with fail
  with_reducible refine C.out.mono ?_
  rintro e w2 ⟨⟨A2, c2, rfl, ho⟩, hb2⟩
  have HO := keepd ho
  have HB2 := keepd (HB.out.trans (hb2.mono HB.out.size))
  obtain ⟨m0, m1, m2, m3, lt⟩ := line_facts (SR.call H2.out hb2 H2.out.lt)
  have HLT : Hid (w.heap.size + 1 < V.heap.size) := by
    show _ < _
    rw [HS.out]
    omega
  clear hb2 C ho
  go_wp2_with fail
  refine bodyPost_ret (v := .agg #[.slice A2 n c2, .int .i64 z]) (by simp [results, Tryd.results57, go_sem, m0, m1]) rfl ?_
  obtain ⟨q1, q2⟩ := gotn_end (z := z) HLT.out HO.out HB2.out
  exact ⟨⟨A2, c2, rfl, q1⟩, q2⟩

end Go.Proofs.YtecihodifgjkoaaDoor
