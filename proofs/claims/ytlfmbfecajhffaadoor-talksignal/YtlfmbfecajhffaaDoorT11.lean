/-
  What each function of the map does: the contracts of the closures. No conditions beyond those each theorem states.
-/
import Derived.Test.YtlfmbfecajhffaaDoorT10
namespace Go.Proofs.YtlfmbfecajhffaaDoor
open Go.RowKit
set_option maxRecDepth 100000

/-- What stands behind the call, once the answer is laid into its block. -/
theorem gotn_end1 {w w2 : World} {L : List UInt8} {m c : Nat} {A : Option Addr} {z : Int} {B : Nat} (hlt : w.heap.size < B) (ho : Own w2 B (.slice A m c) L) (hb : Below w.heap.size w w2) :
    Own ((w2.setCell ⟨w.heap.size, 0, none⟩ (.slice A m c)).setCell ⟨w.heap.size, 1, none⟩ (.int .i64 z)) w.heap.size (.slice A m c) L ∧ Below w.heap.size w ((w2.setCell ⟨w.heap.size, 0, none⟩ (.slice A m c)).setCell ⟨w.heap.size, 1, none⟩ (.int .i64 z)) :=
  ⟨(ho.setLow hlt _ _).base (by omega), set2_below hb (Nat.le_refl _) _ _⟩
theorem sG {V W : World} {g B : Nat} {x y : Value} (k0 : V.cell? ⟨g, 0, none⟩ = some x) (k1 : V.cell? ⟨g, 1, none⟩ = some y) (hg : g < B) (h : Below B V W) : W.cell? ⟨g, 0, none⟩ = some x ∧ W.cell? ⟨g, 1, none⟩ = some y ∧ Below B V W :=
  ⟨(h.cell (p := ⟨g, 0, none⟩) hg).trans k0, (h.cell (p := ⟨g, 1, none⟩) hg).trans k1, h⟩

set_option maxHeartbeats 1000000 in
theorem do35_any (A : Option Addr) (l : List UInt8) (n c t m g p : Nat) (V : World) (hn : n = l.length) (hr : Rd V V.heap.size A l c) (hl : n ≤ 4096) (ht : t ≤ n) (H1 : SR 30 V g [.slice A n c, .int .i64 (t : Int)]) (H2 : IR V p ((t - 1 : Nat) : Int)) (hm : (l.take (t - 1) ++ l.drop t).length = m) :
    Calls Tryd.prog 87 #[.pointer (some ⟨g, 0, none⟩), .pointer (some ⟨p, 0, none⟩)] V (GotN V (l.take (t - 1) ++ l.drop t) m ((t - 1 : Nat) : Int)) := by
  have HN := keepd hn
  have HR0 := keepd hr
  have HL1 := keepd H1
  have HL2 := keepd H2
  have HM := keepd hm
  clear hn hr H1 H2 hm
  go_enter Tryd.func87, Tryd.ntmps87
  go_upto_region 1 with fail
  generalize hW : V.alloc (.cells #[.slice none 0 0, .int .i64 0] 30) = W
  obtain ⟨H3, HB⟩ := line_new _ _ _ _ hW
  have HS : Hid (W.heap.size = V.heap.size + 1) := by
    show _ = _
    rw [← hW, World.size_alloc]
  have hg := HL1.out.lt
  obtain ⟨k0, k1, _, _, _⟩ := line_facts (SR.call HL1.out HB.out hg)
  have k2 := (HL2.out.at_ HB.out).cell
  clear hW
  have C := without_any A l n c (t - 1) t m (t : Int) W HN.out (HR0.out.at_ HB.out) (by omega) (by omega) (by omega) HM.out
  replace C := keepd C
  go_wp2_with fail
  with_reducible refine C.out.mono ?_
  rintro e w2 ⟨⟨A2, c2, rfl, ho⟩, hb2⟩
  have HO := keepd ho
  have HB2 := keepd (HB.out.trans (hb2.mono HB.out.size))
  obtain ⟨m0, m1, m2, m3, lt⟩ := line_facts (SR.call H3.out hb2 H3.out.lt)
  have HLT : Hid (V.heap.size < W.heap.size) := by
    show _ < _
    rw [HS.out]
    omega
  clear hb2 C ho
  go_wp2_with fail
  refine bodyPost_ret (v := .agg #[.slice A2 m c2, .int .i64 ((t - 1 : Nat) : Int)]) (by simp [results, Tryd.results87, go_sem, m0, m1]) rfl ?_
  obtain ⟨q1, q2⟩ := gotn_end1 (z := ((t - 1 : Nat) : Int)) HLT.out HO.out HB2.out
  exact ⟨⟨A2, c2, rfl, q1⟩, q2⟩

set_option maxHeartbeats 1000000 in
theorem do37_any (A : Option Addr) (l : List UInt8) (n c t m g p : Nat) (V : World) (hn : n = l.length) (hr : Rd V V.heap.size A l c) (hl : n ≤ 4096) (ht : t ≤ n) (H1 : SR 30 V g [.slice A n c, .int .i64 (t : Int)]) (H2 : IR V p ((min (t + 1) n : Nat) : Int)) (hm : (l.take t ++ l.drop (min (t + 1) n)).length = m) :
    Calls Tryd.prog 89 #[.pointer (some ⟨g, 0, none⟩), .pointer (some ⟨p, 0, none⟩)] V (GotN V (l.take t ++ l.drop (min (t + 1) n)) m (t : Int)) := by
  have HN := keepd hn
  have HR0 := keepd hr
  have HL1 := keepd H1
  have HL2 := keepd H2
  have HM := keepd hm
  clear hn hr H1 H2 hm
  go_enter Tryd.func89, Tryd.ntmps89
  go_upto_region 1 with fail
  generalize hW : V.alloc (.cells #[.slice none 0 0, .int .i64 0] 30) = W
  obtain ⟨H3, HB⟩ := line_new _ _ _ _ hW
  have HS : Hid (W.heap.size = V.heap.size + 1) := by
    show _ = _
    rw [← hW, World.size_alloc]
  have hg := HL1.out.lt
  obtain ⟨k0, k1, _, _, _⟩ := line_facts (SR.call HL1.out HB.out hg)
  have k2 := (HL2.out.at_ HB.out).cell
  clear hW
  have C := without_any A l n c t (min (t + 1) n) m (t : Int) W HN.out (HR0.out.at_ HB.out) (by omega) (by omega) (by omega) HM.out
  replace C := keepd C
  go_wp2_with fail
  with_reducible refine C.out.mono ?_
  rintro e w2 ⟨⟨A2, c2, rfl, ho⟩, hb2⟩
  have HO := keepd ho
  have HB2 := keepd (HB.out.trans (hb2.mono HB.out.size))
  obtain ⟨m0, m1, m2, m3, lt⟩ := line_facts (SR.call H3.out hb2 H3.out.lt)
  have HLT : Hid (V.heap.size < W.heap.size) := by
    show _ < _
    rw [HS.out]
    omega
  clear hb2 C ho
  go_wp2_with fail
  refine bodyPost_ret (v := .agg #[.slice A2 m c2, .int .i64 (t : Int)]) (by simp [results, Tryd.results89, go_sem, m0, m1]) rfl ?_
  obtain ⟨q1, q2⟩ := gotn_end1 (z := (t : Int)) HLT.out HO.out HB2.out
  exact ⟨⟨A2, c2, rfl, q1⟩, q2⟩

set_option maxHeartbeats 1000000 in
theorem do38_any (A : Option Addr) (l : List UInt8) (n c t b m g : Nat) (V : World) (hn : n = l.length) (hr : Rd V V.heap.size A l c) (hl : n ≤ 4096) (ht : t ≤ n) (H1 : SR 30 V g [.slice A n c, .int .i64 (t : Int)]) (hb : backL l t = b) (hm : (l.take b ++ l.drop t).length = m) :
    Calls Tryd.prog 90 #[.pointer (some ⟨g, 0, none⟩)] V (GotN V (l.take b ++ l.drop t) m (b : Int)) := by
  have hbn : b ≤ n := by
    rw [← hb]
    exact Nat.le_trans (back_le l t) ht
  have HN := keepd hn
  have HR0 := keepd hr
  have HL1 := keepd H1
  have HM := keepd hm
  have HBK := keepd hb
  clear hn hr H1 hm hb
  go_enter Tryd.func90, Tryd.ntmps90
  go_upto_region 1 with fail
  generalize hW : V.alloc (.cells #[.slice none 0 0, .int .i64 0] 30) = W
  obtain ⟨H3, HB⟩ := line_new _ _ _ _ hW
  have HS : Hid (W.heap.size = V.heap.size + 1) := by
    show _ = _
    rw [← hW, World.size_alloc]
  have hg := HL1.out.lt
  obtain ⟨k0, k1, _, _, _⟩ := line_facts (SR.call HL1.out HB.out hg)
  clear hW
  have CW := keepd (back_any A l n c t b W.drew HN.out (HR0.out.at_ HB.out.drew) hl ht HBK.out)
  have C := keepd fun (w3 : World) (hb3 : Below W.heap.size W w3) => without_any A l n c b t m (t : Int) w3 HN.out ((HR0.out.at_ HB.out).at_ hb3) (by omega) (by omega) (by omega) HM.out
  have K0 := keepd k0
  have K1 := keepd k1
  have xx : V.heap.size ≤ W.heap.size := by rw [HS.out]; omega
  go_region_held3 (fun X => X.cell? ⟨g, 0, none⟩ = some (.slice A n c) ∧ X.cell? ⟨g, 1, none⟩ = some (.int .i64 (t : Int)) ∧ Below V.heap.size W X)
    ((refine sG K0.out K1.out hg ?_; repeat (first | assumption | exact Below.refl _ _ | with_reducible refine Below.setCell ?_ (Nat.le_refl V.heap.size) _ | with_reducible refine bAl xx ?_ _ | with_reducible refine Below.drew ?_)))
    (first
      | (go_at_call 91; (with_reducible refine CW.out.mono ?_); rintro e w1 ⟨rfl, hb1⟩; have hbb : Below W.heap.size W w1 := noDrew hb1; have hbs := hbb.mono xx)
      | (go_at_call 88; (with_reducible refine (C.out _ hbb).mono ?_); rintro e w2 ⟨⟨A2, c2, rfl, ho⟩, hb2⟩; have hb4 : Below W.heap.size W w2 := bCall hbb hb2; have hb5 := hb4.mono xx; have HO := keepd ho; have HB2 := keepd (HB.out.trans hb5); obtain ⟨m0, m1, m2, m3, lt⟩ := line_facts (SR.call H3.out hb4 H3.out.lt); have HLT : Hid (V.heap.size < w1.heap.size) := (by show _ < _; exact Nat.lt_of_lt_of_le H3.out.lt hbb.size); clear hb2 ho))
  all_goals
    go_wp2_with fail
    refine bodyPost_ret (v := .agg #[.slice A2 m c2, .int .i64 (b : Int)]) (by simp [results, Tryd.results90, go_sem, m0, m1]) rfl ?_
    obtain ⟨q1, q2⟩ := gotn_end1 (z := (b : Int)) HLT.out HO.out HB2.out
    exact ⟨⟨A2, c2, rfl, q1⟩, q2⟩

set_option maxHeartbeats 1000000 in
theorem do39_any (A : Option Addr) (l : List UInt8) (n c t b m g : Nat) (V : World) (hn : n = l.length) (hr : Rd V V.heap.size A l c) (hl : n ≤ 4096) (ht : t ≤ n) (H1 : SR 30 V g [.slice A n c, .int .i64 (t : Int)]) (hb : onL l t = b) (hm : (l.take t ++ l.drop b).length = m) :
    Calls Tryd.prog 92 #[.pointer (some ⟨g, 0, none⟩)] V (GotN V (l.take t ++ l.drop b) m (t : Int)) := by
  have hbn : b ≤ n := by
    rw [← hb]
    rw [hn]; exact on_le l (by rw [← hn]; exact ht)
  have HN := keepd hn
  have HR0 := keepd hr
  have HL1 := keepd H1
  have HM := keepd hm
  have HBK := keepd hb
  clear hn hr H1 hm hb
  go_enter Tryd.func92, Tryd.ntmps92
  go_upto_region 1 with fail
  generalize hW : V.alloc (.cells #[.slice none 0 0, .int .i64 0] 30) = W
  obtain ⟨H3, HB⟩ := line_new _ _ _ _ hW
  have HS : Hid (W.heap.size = V.heap.size + 1) := by
    show _ = _
    rw [← hW, World.size_alloc]
  have hg := HL1.out.lt
  obtain ⟨k0, k1, _, _, _⟩ := line_facts (SR.call HL1.out HB.out hg)
  clear hW
  have CW := keepd (on_any A l n c t b W.drew HN.out (HR0.out.at_ HB.out.drew) hl ht HBK.out)
  have C := keepd fun (w3 : World) (hb3 : Below W.heap.size W w3) => without_any A l n c t b m (t : Int) w3 HN.out ((HR0.out.at_ HB.out).at_ hb3) (by omega) (by omega) (by omega) HM.out
  have K0 := keepd k0
  have K1 := keepd k1
  have xx : V.heap.size ≤ W.heap.size := by rw [HS.out]; omega
  go_region_held3 (fun X => X.cell? ⟨g, 0, none⟩ = some (.slice A n c) ∧ X.cell? ⟨g, 1, none⟩ = some (.int .i64 (t : Int)) ∧ Below V.heap.size W X)
    ((refine sG K0.out K1.out hg ?_; repeat (first | assumption | exact Below.refl _ _ | with_reducible refine Below.setCell ?_ (Nat.le_refl V.heap.size) _ | with_reducible refine bAl xx ?_ _ | with_reducible refine Below.drew ?_)))
    (first
      | (go_at_call 93; (with_reducible refine CW.out.mono ?_); rintro e w1 ⟨rfl, hb1⟩; have hbb : Below W.heap.size W w1 := noDrew hb1; have hbs := hbb.mono xx)
      | (go_at_call 88; (with_reducible refine (C.out _ hbb).mono ?_); rintro e w2 ⟨⟨A2, c2, rfl, ho⟩, hb2⟩; have hb4 : Below W.heap.size W w2 := bCall hbb hb2; have hb5 := hb4.mono xx; have HO := keepd ho; have HB2 := keepd (HB.out.trans hb5); obtain ⟨m0, m1, m2, m3, lt⟩ := line_facts (SR.call H3.out hb4 H3.out.lt); have HLT : Hid (V.heap.size < w1.heap.size) := (by show _ < _; exact Nat.lt_of_lt_of_le H3.out.lt hbb.size); clear hb2 ho))
  all_goals
    go_wp2_with fail
    refine bodyPost_ret (v := .agg #[.slice A2 m c2, .int .i64 (t : Int)]) (by simp [results, Tryd.results92, go_sem, m0, m1]) rfl ?_
    obtain ⟨q1, q2⟩ := gotn_end1 (z := (t : Int)) HLT.out HO.out HB2.out
    exact ⟨⟨A2, c2, rfl, q1⟩, q2⟩

set_option maxHeartbeats 1000000 in
theorem do40_any (A : Option Addr) (l : List UInt8) (n c t m g : Nat) (V : World) (hn : n = l.length) (hr : Rd V V.heap.size A l c) (hl : n ≤ 4096) (ht : t ≤ n) (H1 : SR 30 V g [.slice A n c, .int .i64 (t : Int)]) (hm : (l.take 0 ++ l.drop t).length = m) :
    Calls Tryd.prog 94 #[.pointer (some ⟨g, 0, none⟩)] V (GotN V (l.take 0 ++ l.drop t) m (0 : Int)) := by
  have HN := keepd hn
  have HR0 := keepd hr
  have HL1 := keepd H1
  have HM := keepd hm
  clear hn hr H1 hm
  go_enter Tryd.func94, Tryd.ntmps94
  go_upto_region 1 with fail
  generalize hW : V.alloc (.cells #[.slice none 0 0, .int .i64 0] 30) = W
  obtain ⟨H3, HB⟩ := line_new _ _ _ _ hW
  have HS : Hid (W.heap.size = V.heap.size + 1) := by
    show _ = _
    rw [← hW, World.size_alloc]
  have hg := HL1.out.lt
  obtain ⟨k0, k1, _, _, _⟩ := line_facts (SR.call HL1.out HB.out hg)
  clear hW
  have C := without_any A l n c 0 t m (t : Int) W HN.out (HR0.out.at_ HB.out) (by omega) (by omega) (by omega) HM.out
  rw [show ((0 : Nat) : Int) = 0 from rfl] at C
  replace C := keepd C
  go_wp2_with fail
  with_reducible refine C.out.mono ?_
  rintro e w2 ⟨⟨A2, c2, rfl, ho⟩, hb2⟩
  have HO := keepd ho
  have HB2 := keepd (HB.out.trans (hb2.mono HB.out.size))
  obtain ⟨m0, m1, m2, m3, lt⟩ := line_facts (SR.call H3.out hb2 H3.out.lt)
  have HLT : Hid (V.heap.size < W.heap.size) := by
    show _ < _
    rw [HS.out]
    omega
  clear hb2 C ho
  go_wp2_with fail
  refine bodyPost_ret (v := .agg #[.slice A2 m c2, .int .i64 (0 : Int)]) (by simp [results, Tryd.results94, go_sem, m0, m1]) rfl ?_
  obtain ⟨q1, q2⟩ := gotn_end1 (z := (0 : Int)) HLT.out HO.out HB2.out
  exact ⟨⟨A2, c2, rfl, q1⟩, q2⟩

set_option maxHeartbeats 1000000 in
theorem do41_any (A : Option Addr) (l : List UInt8) (n c t m g p : Nat) (V : World) (hn : n = l.length) (hr : Rd V V.heap.size A l c) (hl : n ≤ 4096) (ht : t ≤ n) (H1 : SR 30 V g [.slice A n c, .int .i64 (t : Int)]) (H2 : IR V p (n : Int)) (hm : (l.take t ++ l.drop n).length = m) :
    Calls Tryd.prog 95 #[.pointer (some ⟨g, 0, none⟩), .pointer (some ⟨p, 0, none⟩)] V (GotN V (l.take t ++ l.drop n) m (t : Int)) := by
  have HN := keepd hn
  have HR0 := keepd hr
  have HL1 := keepd H1
  have HL2 := keepd H2
  have HM := keepd hm
  clear hn hr H1 H2 hm
  go_enter Tryd.func95, Tryd.ntmps95
  go_upto_region 1 with fail
  generalize hW : V.alloc (.cells #[.slice none 0 0, .int .i64 0] 30) = W
  obtain ⟨H3, HB⟩ := line_new _ _ _ _ hW
  have HS : Hid (W.heap.size = V.heap.size + 1) := by
    show _ = _
    rw [← hW, World.size_alloc]
  have hg := HL1.out.lt
  obtain ⟨k0, k1, _, _, _⟩ := line_facts (SR.call HL1.out HB.out hg)
  have k2 := (HL2.out.at_ HB.out).cell
  clear hW
  have C := without_any A l n c t n m (t : Int) W HN.out (HR0.out.at_ HB.out) (by omega) (by omega) (by omega) HM.out
  replace C := keepd C
  go_wp2_with fail
  with_reducible refine C.out.mono ?_
  rintro e w2 ⟨⟨A2, c2, rfl, ho⟩, hb2⟩
  have HO := keepd ho
  have HB2 := keepd (HB.out.trans (hb2.mono HB.out.size))
  obtain ⟨m0, m1, m2, m3, lt⟩ := line_facts (SR.call H3.out hb2 H3.out.lt)
  have HLT : Hid (V.heap.size < W.heap.size) := by
    show _ < _
    rw [HS.out]
    omega
  clear hb2 C ho
  go_wp2_with fail
  refine bodyPost_ret (v := .agg #[.slice A2 m c2, .int .i64 (t : Int)]) (by simp [results, Tryd.results95, go_sem, m0, m1]) rfl ?_
  obtain ⟨q1, q2⟩ := gotn_end1 (z := (t : Int)) HLT.out HO.out HB2.out
  exact ⟨⟨A2, c2, rfl, q1⟩, q2⟩

set_option maxHeartbeats 1000000 in
theorem do42_any (A : Option Addr) (l : List UInt8) (n c t m g p : Nat) (V : World) (hn : n = l.length) (hr : Rd V V.heap.size A l c) (hl : n ≤ 4096) (_ : t ≤ n) (H1 : SR 30 V g [.slice A n c, .int .i64 (t : Int)]) (H2 : IR V p (n : Int)) (hm : (l.take 0 ++ l.drop n).length = m) :
    Calls Tryd.prog 96 #[.pointer (some ⟨g, 0, none⟩), .pointer (some ⟨p, 0, none⟩)] V (GotN V (l.take 0 ++ l.drop n) m (0 : Int)) := by
  have HN := keepd hn
  have HR0 := keepd hr
  have HL1 := keepd H1
  have HL2 := keepd H2
  have HM := keepd hm
  clear hn hr H1 H2 hm
  go_enter Tryd.func96, Tryd.ntmps96
  go_upto_region 1 with fail
  generalize hW : V.alloc (.cells #[.slice none 0 0, .int .i64 0] 30) = W
  obtain ⟨H3, HB⟩ := line_new _ _ _ _ hW
  have HS : Hid (W.heap.size = V.heap.size + 1) := by
    show _ = _
    rw [← hW, World.size_alloc]
  have hg := HL1.out.lt
  obtain ⟨k0, k1, _, _, _⟩ := line_facts (SR.call HL1.out HB.out hg)
  have k2 := (HL2.out.at_ HB.out).cell
  clear hW
  have C := without_any A l n c 0 n m (t : Int) W HN.out (HR0.out.at_ HB.out) (by omega) (by omega) (by omega) HM.out
  rw [show ((0 : Nat) : Int) = 0 from rfl] at C
  replace C := keepd C
  go_wp2_with fail
  with_reducible refine C.out.mono ?_
  rintro e w2 ⟨⟨A2, c2, rfl, ho⟩, hb2⟩
  have HO := keepd ho
  have HB2 := keepd (HB.out.trans (hb2.mono HB.out.size))
  obtain ⟨m0, m1, m2, m3, lt⟩ := line_facts (SR.call H3.out hb2 H3.out.lt)
  have HLT : Hid (V.heap.size < W.heap.size) := by
    show _ < _
    rw [HS.out]
    omega
  clear hb2 C ho
  go_wp2_with fail
  refine bodyPost_ret (v := .agg #[.slice A2 m c2, .int .i64 (0 : Int)]) (by simp [results, Tryd.results96, go_sem, m0, m1]) rfl ?_
  obtain ⟨q1, q2⟩ := gotn_end1 (z := (0 : Int)) HLT.out HO.out HB2.out
  exact ⟨⟨A2, c2, rfl, q1⟩, q2⟩

set_option maxHeartbeats 1000000 in
theorem do43_any (A : Option Addr) (l : List UInt8) (n c t m g p : Nat) (V : World) (hn : n = l.length) (hr : Rd V V.heap.size A l c) (hl : n ≤ 4096) (_ : t ≤ n) (H1 : SR 30 V g [.slice A n c, .int .i64 (t : Int)]) (H2 : IR V p ((t - 1 : Nat) : Int)) (hm : l.length = m) :
    Calls Tryd.prog 97 #[.pointer (some ⟨g, 0, none⟩), .pointer (some ⟨p, 0, none⟩)] V (GotN V l m ((t - 1 : Nat) : Int)) := by
  have HN := keepd hn
  have HR0 := keepd hr
  have HL1 := keepd H1
  have HL2 := keepd H2
  have HM := keepd hm
  clear hn hr H1 H2 hm
  go_enter Tryd.func97, Tryd.ntmps97
  go_upto_region 1 with fail
  generalize hW : V.alloc (.cells #[.slice none 0 0, .int .i64 0] 30) = W
  obtain ⟨H3, HB⟩ := line_new _ _ _ _ hW
  have HS : Hid (W.heap.size = V.heap.size + 1) := by
    show _ = _
    rw [← hW, World.size_alloc]
  have hg := HL1.out.lt
  obtain ⟨k0, k1, _, _, _⟩ := line_facts (SR.call HL1.out HB.out hg)
  have k2 := (HL2.out.at_ HB.out).cell
  clear hW
  obtain rfl : n = m := by rw [HN.out]; exact HM.out
  have C := moved_any A l n c (t : Int) ((t - 1 : Nat) : Int) W HN.out (HR0.out.at_ HB.out) (by omega)
  replace C := keepd C
  go_wp2_with fail
  with_reducible refine C.out.mono ?_
  rintro e w2 ⟨⟨A2, c2, rfl, ho⟩, hb2⟩
  have HO := keepd ho
  have HB2 := keepd (HB.out.trans (hb2.mono HB.out.size))
  obtain ⟨m0, m1, m2, m3, lt⟩ := line_facts (SR.call H3.out hb2 H3.out.lt)
  have HLT : Hid (V.heap.size < W.heap.size) := by
    show _ < _
    rw [HS.out]
    omega
  clear hb2 C ho
  go_wp2_with fail
  refine bodyPost_ret (v := .agg #[.slice A2 n c2, .int .i64 ((t - 1 : Nat) : Int)]) (by simp [results, Tryd.results97, go_sem, m0, m1]) rfl ?_
  obtain ⟨q1, q2⟩ := gotn_end1 (z := ((t - 1 : Nat) : Int)) HLT.out HO.out HB2.out
  exact ⟨⟨A2, c2, rfl, q1⟩, q2⟩

set_option maxHeartbeats 1000000 in
theorem do44_any (A : Option Addr) (l : List UInt8) (n c t m g p : Nat) (V : World) (hn : n = l.length) (hr : Rd V V.heap.size A l c) (hl : n ≤ 4096) (_ : t ≤ n) (H1 : SR 30 V g [.slice A n c, .int .i64 (t : Int)]) (H2 : IR V p ((min (t + 1) n : Nat) : Int)) (hm : l.length = m) :
    Calls Tryd.prog 98 #[.pointer (some ⟨g, 0, none⟩), .pointer (some ⟨p, 0, none⟩)] V (GotN V l m ((min (t + 1) n : Nat) : Int)) := by
  have HN := keepd hn
  have HR0 := keepd hr
  have HL1 := keepd H1
  have HL2 := keepd H2
  have HM := keepd hm
  clear hn hr H1 H2 hm
  go_enter Tryd.func98, Tryd.ntmps98
  go_upto_region 1 with fail
  generalize hW : V.alloc (.cells #[.slice none 0 0, .int .i64 0] 30) = W
  obtain ⟨H3, HB⟩ := line_new _ _ _ _ hW
  have HS : Hid (W.heap.size = V.heap.size + 1) := by
    show _ = _
    rw [← hW, World.size_alloc]
  have hg := HL1.out.lt
  obtain ⟨k0, k1, _, _, _⟩ := line_facts (SR.call HL1.out HB.out hg)
  have k2 := (HL2.out.at_ HB.out).cell
  clear hW
  obtain rfl : n = m := by rw [HN.out]; exact HM.out
  have C := moved_any A l n c (t : Int) ((min (t + 1) n : Nat) : Int) W HN.out (HR0.out.at_ HB.out) (by omega)
  replace C := keepd C
  go_wp2_with fail
  with_reducible refine C.out.mono ?_
  rintro e w2 ⟨⟨A2, c2, rfl, ho⟩, hb2⟩
  have HO := keepd ho
  have HB2 := keepd (HB.out.trans (hb2.mono HB.out.size))
  obtain ⟨m0, m1, m2, m3, lt⟩ := line_facts (SR.call H3.out hb2 H3.out.lt)
  have HLT : Hid (V.heap.size < W.heap.size) := by
    show _ < _
    rw [HS.out]
    omega
  clear hb2 C ho
  go_wp2_with fail
  refine bodyPost_ret (v := .agg #[.slice A2 n c2, .int .i64 ((min (t + 1) n : Nat) : Int)]) (by simp [results, Tryd.results98, go_sem, m0, m1]) rfl ?_
  obtain ⟨q1, q2⟩ := gotn_end1 (z := ((min (t + 1) n : Nat) : Int)) HLT.out HO.out HB2.out
  exact ⟨⟨A2, c2, rfl, q1⟩, q2⟩

set_option maxHeartbeats 1000000 in
theorem do45_any (A : Option Addr) (l : List UInt8) (n c t b m g : Nat) (V : World) (hn : n = l.length) (hr : Rd V V.heap.size A l c) (hl : n ≤ 4096) (ht : t ≤ n) (H1 : SR 30 V g [.slice A n c, .int .i64 (t : Int)]) (hb : backL l t = b) (hm : l.length = m) :
    Calls Tryd.prog 99 #[.pointer (some ⟨g, 0, none⟩)] V (GotN V l m (b : Int)) := by
  have hbn : b ≤ n := by
    rw [← hb]
    exact Nat.le_trans (back_le l t) ht
  have HN := keepd hn
  have HR0 := keepd hr
  have HL1 := keepd H1
  have HM := keepd hm
  have HBK := keepd hb
  clear hn hr H1 hm hb
  go_enter Tryd.func99, Tryd.ntmps99
  go_upto_region 1 with fail
  generalize hW : V.alloc (.cells #[.slice none 0 0, .int .i64 0] 30) = W
  obtain ⟨H3, HB⟩ := line_new _ _ _ _ hW
  have HS : Hid (W.heap.size = V.heap.size + 1) := by
    show _ = _
    rw [← hW, World.size_alloc]
  have hg := HL1.out.lt
  obtain ⟨k0, k1, _, _, _⟩ := line_facts (SR.call HL1.out HB.out hg)
  clear hW
  obtain rfl : n = m := by rw [HN.out]; exact HM.out
  have CW := keepd (back_any A l n c t b W.drew HN.out (HR0.out.at_ HB.out.drew) hl ht HBK.out)
  have C := keepd fun (w3 : World) (hb3 : Below W.heap.size W w3) => moved_any A l n c (t : Int) (b : Int) w3 HN.out ((HR0.out.at_ HB.out).at_ hb3) (by omega)
  have K0 := keepd k0
  have K1 := keepd k1
  have xx : V.heap.size ≤ W.heap.size := by rw [HS.out]; omega
  go_region_held3 (fun X => X.cell? ⟨g, 0, none⟩ = some (.slice A n c) ∧ X.cell? ⟨g, 1, none⟩ = some (.int .i64 (t : Int)) ∧ Below V.heap.size W X)
    ((refine sG K0.out K1.out hg ?_; repeat (first | assumption | exact Below.refl _ _ | with_reducible refine Below.setCell ?_ (Nat.le_refl V.heap.size) _ | with_reducible refine bAl xx ?_ _ | with_reducible refine Below.drew ?_)))
    (first
      | (go_at_call 91; (with_reducible refine CW.out.mono ?_); rintro e w1 ⟨rfl, hb1⟩; have hbb : Below W.heap.size W w1 := noDrew hb1; have hbs := hbb.mono xx)
      | (go_at_call 86; (with_reducible refine (C.out _ hbb).mono ?_); rintro e w2 ⟨⟨A2, c2, rfl, ho⟩, hb2⟩; have hb4 : Below W.heap.size W w2 := bCall hbb hb2; have hb5 := hb4.mono xx; have HO := keepd ho; have HB2 := keepd (HB.out.trans hb5); obtain ⟨m0, m1, m2, m3, lt⟩ := line_facts (SR.call H3.out hb4 H3.out.lt); have HLT : Hid (V.heap.size < w1.heap.size) := (by show _ < _; exact Nat.lt_of_lt_of_le H3.out.lt hbb.size); clear hb2 ho))
  all_goals
    go_wp2_with fail
    refine bodyPost_ret (v := .agg #[.slice A2 n c2, .int .i64 (b : Int)]) (by simp [results, Tryd.results99, go_sem, m0, m1]) rfl ?_
    obtain ⟨q1, q2⟩ := gotn_end1 (z := (b : Int)) HLT.out HO.out HB2.out
    exact ⟨⟨A2, c2, rfl, q1⟩, q2⟩

set_option maxHeartbeats 1000000 in
theorem do46_any (A : Option Addr) (l : List UInt8) (n c t b m g : Nat) (V : World) (hn : n = l.length) (hr : Rd V V.heap.size A l c) (hl : n ≤ 4096) (ht : t ≤ n) (H1 : SR 30 V g [.slice A n c, .int .i64 (t : Int)]) (hb : onL l t = b) (hm : l.length = m) :
    Calls Tryd.prog 100 #[.pointer (some ⟨g, 0, none⟩)] V (GotN V l m (b : Int)) := by
  have hbn : b ≤ n := by
    rw [← hb]
    rw [hn]; exact on_le l (by rw [← hn]; exact ht)
  have HN := keepd hn
  have HR0 := keepd hr
  have HL1 := keepd H1
  have HM := keepd hm
  have HBK := keepd hb
  clear hn hr H1 hm hb
  go_enter Tryd.func100, Tryd.ntmps100
  go_upto_region 1 with fail
  generalize hW : V.alloc (.cells #[.slice none 0 0, .int .i64 0] 30) = W
  obtain ⟨H3, HB⟩ := line_new _ _ _ _ hW
  have HS : Hid (W.heap.size = V.heap.size + 1) := by
    show _ = _
    rw [← hW, World.size_alloc]
  have hg := HL1.out.lt
  obtain ⟨k0, k1, _, _, _⟩ := line_facts (SR.call HL1.out HB.out hg)
  clear hW
  obtain rfl : n = m := by rw [HN.out]; exact HM.out
  have CW := keepd (on_any A l n c t b W.drew HN.out (HR0.out.at_ HB.out.drew) hl ht HBK.out)
  have C := keepd fun (w3 : World) (hb3 : Below W.heap.size W w3) => moved_any A l n c (t : Int) (b : Int) w3 HN.out ((HR0.out.at_ HB.out).at_ hb3) (by omega)
  have K0 := keepd k0
  have K1 := keepd k1
  have xx : V.heap.size ≤ W.heap.size := by rw [HS.out]; omega
  go_region_held3 (fun X => X.cell? ⟨g, 0, none⟩ = some (.slice A n c) ∧ X.cell? ⟨g, 1, none⟩ = some (.int .i64 (t : Int)) ∧ Below V.heap.size W X)
    ((refine sG K0.out K1.out hg ?_; repeat (first | assumption | exact Below.refl _ _ | with_reducible refine Below.setCell ?_ (Nat.le_refl V.heap.size) _ | with_reducible refine bAl xx ?_ _ | with_reducible refine Below.drew ?_)))
    (first
      | (go_at_call 93; (with_reducible refine CW.out.mono ?_); rintro e w1 ⟨rfl, hb1⟩; have hbb : Below W.heap.size W w1 := noDrew hb1; have hbs := hbb.mono xx)
      | (go_at_call 86; (with_reducible refine (C.out _ hbb).mono ?_); rintro e w2 ⟨⟨A2, c2, rfl, ho⟩, hb2⟩; have hb4 : Below W.heap.size W w2 := bCall hbb hb2; have hb5 := hb4.mono xx; have HO := keepd ho; have HB2 := keepd (HB.out.trans hb5); obtain ⟨m0, m1, m2, m3, lt⟩ := line_facts (SR.call H3.out hb4 H3.out.lt); have HLT : Hid (V.heap.size < w1.heap.size) := (by show _ < _; exact Nat.lt_of_lt_of_le H3.out.lt hbb.size); clear hb2 ho))
  all_goals
    go_wp2_with fail
    refine bodyPost_ret (v := .agg #[.slice A2 n c2, .int .i64 (b : Int)]) (by simp [results, Tryd.results100, go_sem, m0, m1]) rfl ?_
    obtain ⟨q1, q2⟩ := gotn_end1 (z := (b : Int)) HLT.out HO.out HB2.out
    exact ⟨⟨A2, c2, rfl, q1⟩, q2⟩

set_option maxHeartbeats 1000000 in
theorem do47_any (A : Option Addr) (l : List UInt8) (n c t m g : Nat) (V : World) (hn : n = l.length) (hr : Rd V V.heap.size A l c) (hl : n ≤ 4096) (_ : t ≤ n) (H1 : SR 30 V g [.slice A n c, .int .i64 (t : Int)]) (hm : l.length = m) :
    Calls Tryd.prog 101 #[.pointer (some ⟨g, 0, none⟩)] V (GotN V l m (0 : Int)) := by
  have HN := keepd hn
  have HR0 := keepd hr
  have HL1 := keepd H1
  have HM := keepd hm
  clear hn hr H1 hm
  go_enter Tryd.func101, Tryd.ntmps101
  go_upto_region 1 with fail
  generalize hW : V.alloc (.cells #[.slice none 0 0, .int .i64 0] 30) = W
  obtain ⟨H3, HB⟩ := line_new _ _ _ _ hW
  have HS : Hid (W.heap.size = V.heap.size + 1) := by
    show _ = _
    rw [← hW, World.size_alloc]
  have hg := HL1.out.lt
  obtain ⟨k0, k1, _, _, _⟩ := line_facts (SR.call HL1.out HB.out hg)
  clear hW
  obtain rfl : n = m := by rw [HN.out]; exact HM.out
  have C := moved_any A l n c (t : Int) (0 : Int) W HN.out (HR0.out.at_ HB.out) (by omega)
  replace C := keepd C
  go_wp2_with fail
  with_reducible refine C.out.mono ?_
  rintro e w2 ⟨⟨A2, c2, rfl, ho⟩, hb2⟩
  have HO := keepd ho
  have HB2 := keepd (HB.out.trans (hb2.mono HB.out.size))
  obtain ⟨m0, m1, m2, m3, lt⟩ := line_facts (SR.call H3.out hb2 H3.out.lt)
  have HLT : Hid (V.heap.size < W.heap.size) := by
    show _ < _
    rw [HS.out]
    omega
  clear hb2 C ho
  go_wp2_with fail
  refine bodyPost_ret (v := .agg #[.slice A2 n c2, .int .i64 (0 : Int)]) (by simp [results, Tryd.results101, go_sem, m0, m1]) rfl ?_
  obtain ⟨q1, q2⟩ := gotn_end1 (z := (0 : Int)) HLT.out HO.out HB2.out
  exact ⟨⟨A2, c2, rfl, q1⟩, q2⟩

set_option maxHeartbeats 1000000 in
theorem do48_any (A : Option Addr) (l : List UInt8) (n c t m g p : Nat) (V : World) (hn : n = l.length) (hr : Rd V V.heap.size A l c) (hl : n ≤ 4096) (_ : t ≤ n) (H1 : SR 30 V g [.slice A n c, .int .i64 (t : Int)]) (H2 : IR V p (n : Int)) (hm : l.length = m) :
    Calls Tryd.prog 102 #[.pointer (some ⟨g, 0, none⟩), .pointer (some ⟨p, 0, none⟩)] V (GotN V l m (n : Int)) := by
  have HN := keepd hn
  have HR0 := keepd hr
  have HL1 := keepd H1
  have HL2 := keepd H2
  have HM := keepd hm
  clear hn hr H1 H2 hm
  go_enter Tryd.func102, Tryd.ntmps102
  go_upto_region 1 with fail
  generalize hW : V.alloc (.cells #[.slice none 0 0, .int .i64 0] 30) = W
  obtain ⟨H3, HB⟩ := line_new _ _ _ _ hW
  have HS : Hid (W.heap.size = V.heap.size + 1) := by
    show _ = _
    rw [← hW, World.size_alloc]
  have hg := HL1.out.lt
  obtain ⟨k0, k1, _, _, _⟩ := line_facts (SR.call HL1.out HB.out hg)
  have k2 := (HL2.out.at_ HB.out).cell
  clear hW
  obtain rfl : n = m := by rw [HN.out]; exact HM.out
  have C := moved_any A l n c (t : Int) (n : Int) W HN.out (HR0.out.at_ HB.out) (by omega)
  replace C := keepd C
  go_wp2_with fail
  with_reducible refine C.out.mono ?_
  rintro e w2 ⟨⟨A2, c2, rfl, ho⟩, hb2⟩
  have HO := keepd ho
  have HB2 := keepd (HB.out.trans (hb2.mono HB.out.size))
  obtain ⟨m0, m1, m2, m3, lt⟩ := line_facts (SR.call H3.out hb2 H3.out.lt)
  have HLT : Hid (V.heap.size < W.heap.size) := by
    show _ < _
    rw [HS.out]
    omega
  clear hb2 C ho
  go_wp2_with fail
  refine bodyPost_ret (v := .agg #[.slice A2 n c2, .int .i64 (n : Int)]) (by simp [results, Tryd.results102, go_sem, m0, m1]) rfl ?_
  obtain ⟨q1, q2⟩ := gotn_end1 (z := (n : Int)) HLT.out HO.out HB2.out
  exact ⟨⟨A2, c2, rfl, q1⟩, q2⟩

end Go.Proofs.YtlfmbfecajhffaaDoor
