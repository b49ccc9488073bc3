/-
  Several texts in one: T13 T14 L0. No conditions beyond those each theorem states.
-/
import Derived.Test.YtlfmbfecajhffaaDoorT12
import Derived.Lib.SmallJoins
/-
  What a key does to a line: the contract of Type. No conditions beyond those each theorem states.
-/
namespace Go.Proofs.YtlfmbfecajhffaaDoor
open Go.RowKit
set_option maxRecDepth 100000

set_option maxHeartbeats 1000000 in
theorem ty_over (A : Option Addr) (l : List UInt8) (n c t m : Nat) (room : Int) (u : UInt8) (w : World) (hn : n = l.length) (hr : Rd w w.heap.size A l c) (hl : n ≤ 4096) (ht : t ≤ n) (hlt : t < n) (hm : (l.take t ++ ([u] ++ l.drop (t + 1))).length = m) :
    Calls Tryd.prog 79 #[.agg #[.slice A n c, .int .i64 (t : Int)], .int .i64 room, .bool true, .int .u8 (u.toNat : Int)] w (GotD w (l.take t ++ ([u] ++ l.drop (t + 1))) m ((t : Int) + 1) true) := by
  have HM := keepd hm
  have hw : IntKind.i64.wrap ((t : Int) + 1) = (t : Int) + 1 := by rw [IntKind.wrap_i64]; omega
  have i0 : (t : Int) < (n : Int) := by omega
  have i1 : (t : Int) ≤ 4096 := by omega
  have HN := keepd hn
  have HR0 := keepd hr
  clear hm
  clear hn hr
  go_enter Tryd.func79, Tryd.ntmps79
  go_upto_region 1 with fail
  generalize hV : (w.alloc (.cells #[.slice A n c, .int .i64 (t : Int)] 30)).alloc (.cells #[.slice none 0 0, .int .i64 0] 30) = V
  obtain ⟨H1, H2, HB⟩ := line_new2 _ _ _ _ _ _ hV
  obtain ⟨k0, k1, _, _, _⟩ := line_facts H1.out
  have CK := keepd (check_ok A n c t V hl ht)
  clear hV
  go_wp2_with fail
  with_reducible refine CK.out.mono ?_
  rintro e w2 ⟨rfl, hb2⟩
  have HB2 := keepd (HB.out.trans (hb2.mono HB.out.size))
  have HP2 := keepd (SR.call H2.out hb2 H2.out.lt)
  obtain ⟨k0, k1, _, _, _⟩ := line_facts (SR.call H1.out hb2 H1.out.lt)
  clear hb2 CK
  have C := typed_any A l n c t (t + 1) m u w2 HN.out (HR0.out.at_ HB2.out) (by omega) ht (by omega) HM.out
  rw [show ((t + 1 : Nat) : Int) = (t : Int) + 1 from rfl] at C
  replace C := keepd C
  go_wp2_with fail
  with_reducible refine C.out.mono ?_
  rintro e w4 ⟨⟨A2, c2, rfl, ho⟩, hb4⟩
  have HO := keepd ho
  have HB4 := keepd (HB2.out.trans (hb4.mono HB2.out.size))
  obtain ⟨m0, m1, m2, m3, lt⟩ := line_facts (SR.call HP2.out hb4 HP2.out.lt)
  have HLT := keepd HP2.out.lt
  clear hb4 ho C
  go_wp2_with fail
  refine bodyPost_ret (v := .tuple #[.agg #[.slice A2 m c2, .int .i64 ((t : Int) + 1)], .bool true]) (by simp [results, Tryd.results79, go_sem, m0, m1]) rfl ?_
  obtain ⟨q1, q2⟩ := gotn_end (z := ((t : Int) + 1)) HLT.out HO.out HB4.out
  exact ⟨⟨A2, c2, rfl, q1⟩, q2⟩

set_option maxHeartbeats 1000000 in
theorem ty_fullt (A : Option Addr) (l : List UInt8) (n c t : Nat) (room : Int) (u : UInt8) (w : World) (hn : n = l.length) (hr : Rd w w.heap.size A l c) (hl : n ≤ 4096) (ht : t ≤ n) (hge : ¬ t < n) (hf : min room 4096 ≤ (n : Int)) :
    Calls Tryd.prog 79 #[.agg #[.slice A n c, .int .i64 (t : Int)], .int .i64 room, .bool true, .int .u8 (u.toNat : Int)] w (GotD w l n (t : Int) false) := by
  obtain ⟨x, hx⟩ : ∃ x : Int, (if (4096 : Int) < room then (4096 : Int) else room) = x := ⟨_, rfl⟩
  have hxn : (n : Int) ≥ x := by rw [← hx]; split <;> omega
  have hxm : x ≤ (n : Int) := hxn
  have i0 : ¬ (t : Int) < (n : Int) := by omega
  have i00 : ¬ t < n := hge
  have HN := keepd hn
  have HR0 := keepd hr
  clear hf
  clear hn hr
  go_enter Tryd.func79, Tryd.ntmps79
  go_upto_region 1 with fail
  generalize hV : (w.alloc (.cells #[.slice A n c, .int .i64 (t : Int)] 30)).alloc (.cells #[.slice none 0 0, .int .i64 0] 30) = V
  obtain ⟨H1, H2, HB⟩ := line_new2 _ _ _ _ _ _ hV
  obtain ⟨k0, k1, _, _, _⟩ := line_facts H1.out
  have CK := keepd (check_ok A n c t V hl ht)
  clear hV
  go_wp2_with fail
  with_reducible refine CK.out.mono ?_
  rintro e w2 ⟨rfl, hb2⟩
  have HB2 := keepd (HB.out.trans (hb2.mono HB.out.size))
  have HP2 := keepd (SR.call H2.out hb2 H2.out.lt)
  obtain ⟨k0, k1, _, _, _⟩ := line_facts (SR.call H1.out hb2 H1.out.lt)
  clear hb2 CK
  have C := keepd (anew_any A l n c (t : Int) w2 HN.out (HR0.out.at_ HB2.out) (by omega))
  go_wp2_with fail
  with_reducible refine C.out.mono ?_
  rintro e w4 ⟨⟨A2, c2, rfl, ho⟩, hb4⟩
  have HO := keepd ho
  have HB4 := keepd (HB2.out.trans (hb4.mono HB2.out.size))
  obtain ⟨m0, m1, m2, m3, lt⟩ := line_facts (SR.call HP2.out hb4 HP2.out.lt)
  have HLT := keepd HP2.out.lt
  clear hb4 ho C
  go_wp2_with fail
  refine bodyPost_ret (v := .tuple #[.agg #[.slice A2 n c2, .int .i64 (t : Int)], .bool false]) (by simp [results, Tryd.results79, go_sem, m0, m1]) rfl ?_
  obtain ⟨q1, q2⟩ := gotn_end (z := (t : Int)) HLT.out HO.out HB4.out
  exact ⟨⟨A2, c2, rfl, q1⟩, q2⟩

set_option maxHeartbeats 1000000 in
theorem ty_roomt (A : Option Addr) (l : List UInt8) (n c t m : Nat) (room : Int) (u : UInt8) (w : World) (hn : n = l.length) (hr : Rd w w.heap.size A l c) (hl : n ≤ 4096) (ht : t ≤ n) (hge : ¬ t < n) (hf : ¬ min room 4096 ≤ (n : Int)) (hm : (l.take t ++ ([u] ++ l.drop t)).length = m) :
    Calls Tryd.prog 79 #[.agg #[.slice A n c, .int .i64 (t : Int)], .int .i64 room, .bool true, .int .u8 (u.toNat : Int)] w (GotD w (l.take t ++ ([u] ++ l.drop t)) m ((t : Int) + 1) true) := by
  obtain ⟨x, hx⟩ : ∃ x : Int, (if (4096 : Int) < room then (4096 : Int) else room) = x := ⟨_, rfl⟩
  have hxn : ¬ (n : Int) ≥ x := by rw [← hx]; split <;> omega
  have hxm : ¬ x ≤ (n : Int) := hxn
  have hxl : (n : Int) < x := by omega
  have HM := keepd hm
  have i0 : ¬ (t : Int) < (n : Int) := by omega
  have i00 : ¬ t < n := hge
  have HN := keepd hn
  have HR0 := keepd hr
  clear hf hm
  clear hn hr
  go_enter Tryd.func79, Tryd.ntmps79
  go_upto_region 1 with fail
  generalize hV : (w.alloc (.cells #[.slice A n c, .int .i64 (t : Int)] 30)).alloc (.cells #[.slice none 0 0, .int .i64 0] 30) = V
  obtain ⟨H1, H2, HB⟩ := line_new2 _ _ _ _ _ _ hV
  obtain ⟨k0, k1, _, _, _⟩ := line_facts H1.out
  have CK := keepd (check_ok A n c t V hl ht)
  clear hV
  go_wp2_with fail
  with_reducible refine CK.out.mono ?_
  rintro e w2 ⟨rfl, hb2⟩
  have HB2 := keepd (HB.out.trans (hb2.mono HB.out.size))
  have HP2 := keepd (SR.call H2.out hb2 H2.out.lt)
  obtain ⟨k0, k1, _, _, _⟩ := line_facts (SR.call H1.out hb2 H1.out.lt)
  clear hb2 CK
  have C := keepd (typed_any A l n c t t m u w2 HN.out (HR0.out.at_ HB2.out) (by omega) ht ht HM.out)
  go_wp2_with fail
  with_reducible refine C.out.mono ?_
  rintro e w4 ⟨⟨A2, c2, rfl, ho⟩, hb4⟩
  have HO := keepd ho
  have HB4 := keepd (HB2.out.trans (hb4.mono HB2.out.size))
  obtain ⟨m0, m1, m2, m3, lt⟩ := line_facts (SR.call HP2.out hb4 HP2.out.lt)
  have HLT := keepd HP2.out.lt
  clear hb4 ho C
  go_wp2_with fail
  refine bodyPost_ret (v := .tuple #[.agg #[.slice A2 m c2, .int .i64 ((t : Int) + 1)], .bool true]) (by simp [results, Tryd.results79, go_sem, m0, m1]) rfl ?_
  obtain ⟨q1, q2⟩ := gotn_end (z := ((t : Int) + 1)) HLT.out HO.out HB4.out
  exact ⟨⟨A2, c2, rfl, q1⟩, q2⟩

set_option maxHeartbeats 1000000 in
theorem ty_fullf (A : Option Addr) (l : List UInt8) (n c t : Nat) (room : Int) (u : UInt8) (w : World) (hn : n = l.length) (hr : Rd w w.heap.size A l c) (hl : n ≤ 4096) (ht : t ≤ n) (hf : min room 4096 ≤ (n : Int)) :
    Calls Tryd.prog 79 #[.agg #[.slice A n c, .int .i64 (t : Int)], .int .i64 room, .bool false, .int .u8 (u.toNat : Int)] w (GotD w l n (t : Int) false) := by
  obtain ⟨x, hx⟩ : ∃ x : Int, (if (4096 : Int) < room then (4096 : Int) else room) = x := ⟨_, rfl⟩
  have hxn : (n : Int) ≥ x := by rw [← hx]; split <;> omega
  have hxm : x ≤ (n : Int) := hxn
  have HN := keepd hn
  have HR0 := keepd hr
  clear hf
  clear hn hr
  go_enter Tryd.func79, Tryd.ntmps79
  go_upto_region 1 with fail
  generalize hV : (w.alloc (.cells #[.slice A n c, .int .i64 (t : Int)] 30)).alloc (.cells #[.slice none 0 0, .int .i64 0] 30) = V
  obtain ⟨H1, H2, HB⟩ := line_new2 _ _ _ _ _ _ hV
  obtain ⟨k0, k1, _, _, _⟩ := line_facts H1.out
  have CK := keepd (check_ok A n c t V hl ht)
  clear hV
  go_wp2_with fail
  with_reducible refine CK.out.mono ?_
  rintro e w2 ⟨rfl, hb2⟩
  have HB2 := keepd (HB.out.trans (hb2.mono HB.out.size))
  have HP2 := keepd (SR.call H2.out hb2 H2.out.lt)
  obtain ⟨k0, k1, _, _, _⟩ := line_facts (SR.call H1.out hb2 H1.out.lt)
  clear hb2 CK
  have C := keepd (anew_any A l n c (t : Int) w2 HN.out (HR0.out.at_ HB2.out) (by omega))
  go_wp2_with fail
  with_reducible refine C.out.mono ?_
  rintro e w4 ⟨⟨A2, c2, rfl, ho⟩, hb4⟩
  have HO := keepd ho
  have HB4 := keepd (HB2.out.trans (hb4.mono HB2.out.size))
  obtain ⟨m0, m1, m2, m3, lt⟩ := line_facts (SR.call HP2.out hb4 HP2.out.lt)
  have HLT := keepd HP2.out.lt
  clear hb4 ho C
  go_wp2_with fail
  refine bodyPost_ret (v := .tuple #[.agg #[.slice A2 n c2, .int .i64 (t : Int)], .bool false]) (by simp [results, Tryd.results79, go_sem, m0, m1]) rfl ?_
  obtain ⟨q1, q2⟩ := gotn_end (z := (t : Int)) HLT.out HO.out HB4.out
  exact ⟨⟨A2, c2, rfl, q1⟩, q2⟩

set_option maxHeartbeats 1000000 in
theorem ty_roomf (A : Option Addr) (l : List UInt8) (n c t m : Nat) (room : Int) (u : UInt8) (w : World) (hn : n = l.length) (hr : Rd w w.heap.size A l c) (hl : n ≤ 4096) (ht : t ≤ n) (hf : ¬ min room 4096 ≤ (n : Int)) (hm : (l.take t ++ ([u] ++ l.drop t)).length = m) :
    Calls Tryd.prog 79 #[.agg #[.slice A n c, .int .i64 (t : Int)], .int .i64 room, .bool false, .int .u8 (u.toNat : Int)] w (GotD w (l.take t ++ ([u] ++ l.drop t)) m ((t : Int) + 1) true) := by
  obtain ⟨x, hx⟩ : ∃ x : Int, (if (4096 : Int) < room then (4096 : Int) else room) = x := ⟨_, rfl⟩
  have hxn : ¬ (n : Int) ≥ x := by rw [← hx]; split <;> omega
  have hxm : ¬ x ≤ (n : Int) := hxn
  have hxl : (n : Int) < x := by omega
  have HM := keepd hm
  have HN := keepd hn
  have HR0 := keepd hr
  clear hf hm
  clear hn hr
  go_enter Tryd.func79, Tryd.ntmps79
  go_upto_region 1 with fail
  generalize hV : (w.alloc (.cells #[.slice A n c, .int .i64 (t : Int)] 30)).alloc (.cells #[.slice none 0 0, .int .i64 0] 30) = V
  obtain ⟨H1, H2, HB⟩ := line_new2 _ _ _ _ _ _ hV
  obtain ⟨k0, k1, _, _, _⟩ := line_facts H1.out
  have CK := keepd (check_ok A n c t V hl ht)
  clear hV
  go_wp2_with fail
  with_reducible refine CK.out.mono ?_
  rintro e w2 ⟨rfl, hb2⟩
  have HB2 := keepd (HB.out.trans (hb2.mono HB.out.size))
  have HP2 := keepd (SR.call H2.out hb2 H2.out.lt)
  obtain ⟨k0, k1, _, _, _⟩ := line_facts (SR.call H1.out hb2 H1.out.lt)
  clear hb2 CK
  have C := keepd (typed_any A l n c t t m u w2 HN.out (HR0.out.at_ HB2.out) (by omega) ht ht HM.out)
  go_wp2_with fail
  with_reducible refine C.out.mono ?_
  rintro e w4 ⟨⟨A2, c2, rfl, ho⟩, hb4⟩
  have HO := keepd ho
  have HB4 := keepd (HB2.out.trans (hb4.mono HB2.out.size))
  obtain ⟨m0, m1, m2, m3, lt⟩ := line_facts (SR.call HP2.out hb4 HP2.out.lt)
  have HLT := keepd HP2.out.lt
  clear hb4 ho C
  go_wp2_with fail
  refine bodyPost_ret (v := .tuple #[.agg #[.slice A2 m c2, .int .i64 ((t : Int) + 1)], .bool true]) (by simp [results, Tryd.results79, go_sem, m0, m1]) rfl ?_
  obtain ⟨q1, q2⟩ := gotn_end (z := ((t : Int) + 1)) HLT.out HO.out HB4.out
  exact ⟨⟨A2, c2, rfl, q1⟩, q2⟩

set_option maxHeartbeats 1000000 in
theorem ty_bad (A : Option Addr) (l : List UInt8) (n c : Nat) (z room : Int) (over : Bool) (u : UInt8) (w : World) (hn : n = l.length) (hr : Rd w w.heap.size A l c) (hl : n ≤ 100000) (hm : mayV n z = false) :
    Calls Tryd.prog 79 #[.agg #[.slice A n c, .int .i64 z], .int .i64 room, .bool over, .int .u8 (u.toNat : Int)] w (GotD w l n z false) := by
  have HN := keepd hn
  have HR0 := keepd hr
  clear hn hr
  go_enter Tryd.func79, Tryd.ntmps79
  go_upto_region 1 with fail
  generalize hV : (w.alloc (.cells #[.slice A n c, .int .i64 z] 30)).alloc (.cells #[.slice none 0 0, .int .i64 0] 30) = V
  obtain ⟨H1, H2, HB⟩ := line_new2 _ _ _ _ _ _ hV
  obtain ⟨k0, k1, _, _, _⟩ := line_facts H1.out
  have CK := keepd (check_bad A n c z V hm)
  clear hV
  go_wp2_with fail
  with_reducible refine CK.out.mono ?_
  rintro e w2 ⟨rfl, hb2⟩
  have HB2 := keepd (HB.out.trans (hb2.mono HB.out.size))
  have HP2 := keepd (SR.call H2.out hb2 H2.out.lt)
  obtain ⟨k0, k1, _, _, _⟩ := line_facts (SR.call H1.out hb2 H1.out.lt)
  clear hb2 CK
  have C := keepd (anew_any A l n c z w2 HN.out (HR0.out.at_ HB2.out) (by omega))
  go_wp2_with fail
  with_reducible refine C.out.mono ?_
  rintro e w4 ⟨⟨A2, c2, rfl, ho⟩, hb4⟩
  have HO := keepd ho
  have HB4 := keepd (HB2.out.trans (hb4.mono HB2.out.size))
  obtain ⟨m0, m1, m2, m3, lt⟩ := line_facts (SR.call HP2.out hb4 HP2.out.lt)
  have HLT := keepd HP2.out.lt
  clear hb4 ho C
  go_wp2_with fail
  refine bodyPost_ret (v := .tuple #[.agg #[.slice A2 n c2, .int .i64 z], .bool false]) (by simp [results, Tryd.results79, go_sem, m0, m1]) rfl ?_
  obtain ⟨q1, q2⟩ := gotn_end (z := z) HLT.out HO.out HB4.out
  exact ⟨⟨A2, c2, rfl, q1⟩, q2⟩

theorem ty_any (A : Option Addr) (l L : List UInt8) (n c t s m : Nat) (room : Int) (over : Bool) (u : UInt8) (w : World) (hn : n = l.length) (hr : Rd w w.heap.size A l c) (hl : n ≤ 4096) (ht : t ≤ n) (hf : tyL l t room over u = some (L, s)) (hm : L.length = m) :
    Calls Tryd.prog 79 #[.agg #[.slice A n c, .int .i64 (t : Int)], .int .i64 room, .bool over, .int .u8 (u.toNat : Int)] w (GotD w L m (s : Int) true) := by
  unfold tyL at hf
  rw [← hn] at hf
  cases over
  · rw [Bool.false_and, if_neg (by decide)] at hf
    by_cases h : min room 4096 ≤ (n : Int)
    · rw [if_pos h] at hf; cases hf
    · rw [if_neg h] at hf
      simp only [Option.some.injEq, Prod.mk.injEq] at hf
      obtain ⟨rfl, rfl⟩ := hf
      exact ty_roomf A l n c t m room u w hn hr hl ht h hm
  · by_cases hlt : t < n
    · rw [Bool.true_and, if_pos (by simp [hlt])] at hf
      simp only [Option.some.injEq, Prod.mk.injEq] at hf
      obtain ⟨rfl, rfl⟩ := hf
      exact ty_over A l n c t m room u w hn hr hl ht hlt hm
    · rw [Bool.true_and, if_neg (by simp; omega)] at hf
      by_cases h : min room 4096 ≤ (n : Int)
      · rw [if_pos h] at hf; cases hf
      · rw [if_neg h] at hf
        simp only [Option.some.injEq, Prod.mk.injEq] at hf
        obtain ⟨rfl, rfl⟩ := hf
        exact ty_roomt A l n c t m room u w hn hr hl ht hlt h hm
theorem ty_none (A : Option Addr) (l : List UInt8) (n c t : Nat) (room : Int) (over : Bool) (u : UInt8) (w : World) (hn : n = l.length) (hr : Rd w w.heap.size A l c) (hl : n ≤ 4096) (ht : t ≤ n) (hf : tyL l t room over u = none) :
    Calls Tryd.prog 79 #[.agg #[.slice A n c, .int .i64 (t : Int)], .int .i64 room, .bool over, .int .u8 (u.toNat : Int)] w (GotD w l n (t : Int) false) := by
  unfold tyL at hf
  rw [← hn] at hf
  cases over
  · rw [Bool.false_and, if_neg (by decide)] at hf
    by_cases h : min room 4096 ≤ (n : Int)
    · exact ty_fullf A l n c t room u w hn hr hl ht h
    · rw [if_neg h] at hf; cases hf
  · by_cases hlt : t < n
    · rw [Bool.true_and, if_pos (by simp [hlt])] at hf; cases hf
    · rw [Bool.true_and, if_neg (by simp; omega)] at hf
      by_cases h : min room 4096 ≤ (n : Int)
      · exact ty_fullt A l n c t room u w hn hr hl ht hlt h
      · rw [if_neg h] at hf; cases hf

end Go.Proofs.YtlfmbfecajhffaaDoor
/-
  The chapter's examples: the contract of awake. No conditions beyond those each theorem states.
-/
namespace Go.Proofs.YtlfmbfecajhffaaDoor
open Go.RowKit
set_option maxRecDepth 100000

open Go.Joins in
theorem lit_rd (w : World) (l : List UInt8) (cs : Array Value) (fr : Nat × Nat) (h : (l.map bv).toArray = cs) (hl : l.length ≤ 100) : Rd (w.alloc (.cells cs 5 fr)) (w.alloc (.cells cs 5 fr)).heap.size (some ⟨w.heap.size, 0, none⟩) l l.length := by
  subst h
  refine ⟨Nat.le_refl _, by unfold maxLen; omega, fun _ => ⟨_, rfl, by rw [World.size_alloc]; exact Nat.lt_succ_self _⟩, fun ad had j u hu => ?_⟩
  injection had with had
  subst had
  rw [add_lit0, cell_alloc_mark_at w _ 5 fr _ j rfl]
  simp [hu]
open Go.Joins in
theorem conv_lit (w : World) (C : Array Value) (n : Nat) (fr : Nat × Nat) (h : (C.size, C.size + 1) = fr) : (convert 28 28 (.slice (some ⟨w.heap.size, 0, none⟩) n n)).run Tryd.prog (w.alloc (.cells C 5)) = .ok (.slice (some ⟨w.heap.size, 0, none⟩) n n) (w.alloc (.cells C 5 fr)) := by
  subst h
  exact run_convert_bytes_const_at w 28 5 C n n _ rfl Tryd.underlying28 Tryd.underlying5

theorem aw1 (w : World) : Calls Tryd.prog 79 #[.agg #[.slice (some ⟨w.heap.size, 0, none⟩) 2 2, .int .i64 1], .int .i64 9, .bool false, .int .u8 99] (w.alloc (.cells #[.int .u8 97, .int .u8 98] 5 (2, 3)))
    (GotD (w.alloc (.cells #[.int .u8 97, .int .u8 98] 5 (2, 3))) [97, 99, 98] 3 2 true) :=
  ty_any (some ⟨w.heap.size, 0, none⟩) [97, 98] [97, 99, 98] 2 2 1 2 3 9 false 99 _ rfl (lit_rd w [97, 98] _ _ rfl (by decide)) (by decide) (by decide) (by decide +kernel) rfl

theorem aw2 (w : World) : Calls Tryd.prog 79 #[.agg #[.slice (some ⟨w.heap.size, 0, none⟩) 2 2, .int .i64 1], .int .i64 2, .bool true, .int .u8 99] (w.alloc (.cells #[.int .u8 97, .int .u8 98] 5 (2, 3)))
    (GotD (w.alloc (.cells #[.int .u8 97, .int .u8 98] 5 (2, 3))) [97, 99] 2 2 true) :=
  ty_any (some ⟨w.heap.size, 0, none⟩) [97, 98] [97, 99] 2 2 1 2 2 2 true 99 _ rfl (lit_rd w [97, 98] _ _ rfl (by decide)) (by decide) (by decide) (by decide +kernel) rfl

theorem aw3 (w : World) : Calls Tryd.prog 66 #[.agg #[.slice (some ⟨w.heap.size, 0, none⟩) 7 7, .int .i64 7], .int .i64 12] (w.alloc (.cells #[.int .u8 97, .int .u8 98, .int .u8 32, .int .u8 32, .int .u8 99, .int .u8 100, .int .u8 32] 5 (7, 8)))
    (GotD (w.alloc (.cells #[.int .u8 97, .int .u8 98, .int .u8 32, .int .u8 32, .int .u8 99, .int .u8 100, .int .u8 32] 5 (7, 8))) [97, 98, 32, 32] 4 4 true) :=
  do_any (some ⟨w.heap.size, 0, none⟩) [97, 98, 32, 32, 99, 100, 32] [97, 98, 32, 32] 7 7 7 4 4 12 _ rfl (lit_rd w [97, 98, 32, 32, 99, 100, 32] _ _ rfl (by decide)) (by decide) (by decide) (by decide +kernel) rfl

theorem aw4 (w : World) : Calls Tryd.prog 93 #[.agg #[.slice (some ⟨w.heap.size, 0, none⟩) 6 6, .int .i64 0]] (w.alloc (.cells #[.int .u8 97, .int .u8 98, .int .u8 32, .int .u8 32, .int .u8 99, .int .u8 100] 5 (6, 7)))
    (fun e w' => e = .returned (.int .i64 4) ∧ Below (w.alloc (.cells #[.int .u8 97, .int .u8 98, .int .u8 32, .int .u8 32, .int .u8 99, .int .u8 100] 5 (6, 7))).heap.size (w.alloc (.cells #[.int .u8 97, .int .u8 98, .int .u8 32, .int .u8 32, .int .u8 99, .int .u8 100] 5 (6, 7))) w') :=
  on_any (some ⟨w.heap.size, 0, none⟩) [97, 98, 32, 32, 99, 100] 6 6 0 4 _ rfl (lit_rd w [97, 98, 32, 32, 99, 100] _ _ rfl (by decide)) (by decide) (by decide) (by decide +kernel)

theorem line_new1 (w : World) (x y : Value) (V : World) (hV : w.alloc (.cells #[x, y] 30) = V) : Hid (SR 30 V w.heap.size [x, y]) ∧ Hid (Below w.heap.size w V) ∧ Hid (V.heap.size = w.heap.size + 1) := by
  subst hV
  exact ⟨heap_alloc_new w _, bAlloc (Below.refl _ _) _, World.size_alloc _ _⟩

end Go.Proofs.YtlfmbfecajhffaaDoor
/-
  What the laws begin with: a class of worlds for regions whose calls make new memory; a line cut down to what is looked at. No conditions beyond those each theorem states.
-/
namespace Go.Proofs.YtlfmbfecajhffaaDoor
open Go.RowKit
set_option maxRecDepth 100000

/-- The worlds that have w's memory. -/
structure Gr (w : World) where
  W : World
  h : Below w.heap.size w W
instance (w : World) : Nonempty (Gr w) := ⟨⟨w, Below.refl _ _⟩⟩
theorem Gr.call {w : World} {f : Nat} {args : Array Value} {v : Value} {x : Gr w} (h : Calls Tryd.prog f args x.W fun e w' => e = .returned v ∧ Below x.W.heap.size x.W w') :
    Calls Tryd.prog f args x.W fun e w' => e = .returned v ∧ ∃ y : Gr w, w' = y.W :=
  h.mono fun _ w' ⟨he, hb⟩ => ⟨he, ⟨w', bCall x.h hb⟩, rfl⟩
theorem Gr.same {w : World} {f : Nat} {args : Array Value} {v : Value} {x : Gr w} (h : Calls Tryd.prog f args x.W fun e w' => e = .returned v ∧ w' = x.W) :
    Calls Tryd.prog f args x.W fun e w' => e = .returned v ∧ ∃ y : Gr w, w' = y.W :=
  h.mono fun _ _ ⟨he, hb⟩ => ⟨he, x, hb⟩
theorem SR.gr {V : World} {g : Nat} {a b : Value} (h : SR 30 V g [a, b]) : (∀ x : Gr V, x.W.cell? ⟨g, 0, none⟩ = some a) ∧ (∀ x : Gr V, x.W.cell? ⟨g, 1, none⟩ = some b) :=
  ⟨fun x => (SR.call h x.h h.lt).cell 0, fun x => (SR.call h x.h h.lt).cell 1⟩

theorem wp_region_gr {id : Nat} {Q : Exit → Act → World → Prop} {a : Act} {V : World} {l : List Oper} (hm : Tryd.prog.follows .mixedOrders = true) (hB : Region.lexB .any l.toArray = true)
    (h : wpQuiet Tryd.prog l.toArray (fun w' => ∃ x : Gr V, w' = x.W) (fun a' => ∀ x : Gr V, Q .normal a' x.W) l a) : (Code.region id l.toArray true).wp Tryd.prog Q a V := by
  refine wp_region_quiet (C := fun w' => ∃ x : Gr V, w' = x.W) hm hB ⟨⟨{ V with drawn := V.drawn + 1 }, (Below.refl V.heap.size V).drew⟩, rfl⟩ ?_
  have e : (fun a' => ∀ w', (∃ x : Gr V, w' = x.W) → Q .normal a' w') = fun a' => ∀ x : Gr V, Q .normal a' x.W := by
    funext a'
    exact propext ⟨fun h x => h _ ⟨x, rfl⟩, fun h w' ⟨x, hx⟩ => hx ▸ h x⟩
  rw [e]
  exact h

theorem gr_want {K : Act → Prop} {a : Act} {V : World} {o : Oper} {ops : Array Oper} (hw : Region.wanted o (yielded ops a.tmps) = true) (h : ∃ v, (∀ x : Gr V, o.quietAt Tryd.prog a (fun w' => ∃ y : Gr V, w' = y.W) x.W v) ∧ K (a.put o.dst v)) :
    if Region.wanted o (yielded ops a.tmps) then o.quiet Tryd.prog a (fun w' => ∃ y : Gr V, w' = y.W) K else K (a.put o.dst undef) := by
  rw [if_pos hw]
  obtain ⟨v, h1, h2⟩ := h
  exact ⟨v, fun w' ⟨x, hx⟩ => hx ▸ h1 x, h2⟩
theorem gr_skip {K : Act → Prop} {a : Act} {V : World} {o : Oper} {ops : Array Oper} (hw : Region.wanted o (yielded ops a.tmps) = false) (h : K (a.put o.dst undef)) :
    if Region.wanted o (yielded ops a.tmps) then o.quiet Tryd.prog a (fun w' => ∃ y : Gr V, w' = y.W) K else K (a.put o.dst undef) := by
  rw [if_neg (by rw [hw]; decide)]
  exact h

theorem Rd.few {w : World} {B : Nat} {A : Option Addr} {l : List UInt8} {c : Nat} (h : Rd w B A l c) : Rd w B A (fewL l) c := by
  unfold fewL
  split
  · exact h.take 200
  · exact h
theorem Rd.cellk {w : World} {B b off c k : Nat} {l : List UInt8} (h : Rd w B (some ⟨b, off, none⟩) l c) (hk : k < l.length) : w.cell? ⟨b, off + k, none⟩ = some (.int .u8 ((l.getD k 0).toNat : Int)) := by
  have := h.2.2.2 _ rfl k l[k] (List.getElem?_eq_getElem hk)
  rw [Addr.add_lit] at this
  rw [getD_at hk]
  exact this
/-- The address of a slice that holds something. -/
theorem Rd.addr {w : World} {B c : Nat} {A : Option Addr} {l : List UInt8} (h : Rd w B A l c) (hk : 0 < l.length) : ∃ b off, A = some ⟨b, off, none⟩ ∧ b < B := by
  obtain ⟨b, off, hA, hb, _⟩ := h.form hk
  exact ⟨b, off, hA, hb⟩

theorem key_new (w : World) (x y k0 k1 k2 : Value) (V : World) (hV : (w.alloc (.cells #[x, y] 30)).alloc (.cells #[k0, k1, k2] 28) = V) : Hid (SR 30 V w.heap.size [x, y]) ∧ Hid (SR 28 V (w.heap.size + 1) [k0, k1, k2]) ∧ Hid (Below w.heap.size w V) := by
  subst hV
  refine ⟨row_alloc (heap_alloc_new w _), ?_, bAlloc (bAlloc (Below.refl _ _) _) _⟩
  have := heap_alloc_new (w.alloc (.cells #[x, y] 30)) (.cells #[k0, k1, k2] 28)
  rw [World.size_alloc] at this
  exact this
theorem key_far {w1 V : World} {b g : Nat} {ks : List Value} {x y : Value} (h : SR 28 w1 b ks) (hne : b ≠ g) (hV : (w1.setCell ⟨g, 0, none⟩ x).setCell ⟨g, 1, none⟩ y = V) : SR 28 V b ks := by
  subst hV
  exact (h.far (p := ⟨g, 0, none⟩) hne x).far (p := ⟨g, 1, none⟩) hne y

/-- The line's block behind the store of what Few answered. -/
theorem few_set {w w1 : World} {g : Nat} {x y x' y' : Value} (hg : w.heap.size ≤ g) (h : SR 30 w1 g [x, y]) (hb : Below w.heap.size w w1) (V : World) (hV : (w1.setCell ⟨g, 0, none⟩ x').setCell ⟨g, 1, none⟩ y' = V) :
    Hid (SR 30 V g [x', y']) ∧ Hid (Below w.heap.size w V) := by
  subst hV
  exact ⟨(h.set 0 x').set 1 y', set2_below hb hg _ _⟩

/-- A line of its own memory that a call has answered, laid into a block of its own. -/
def Mid (wr : World) (b : Nat) (A : Option Addr) (m c : Nat) (x : List UInt8) (z : Int) (wx : World) : Prop :=
  SR 30 wx b [.slice A m c, .int .i64 z] ∧ Own wx wr.heap.size (.slice A m c) x ∧ Below wr.heap.size wr wx
theorem mid_a {wr w2 : World} {B : Nat} {A : Option Addr} {m c : Nat} {x : List UInt8} {z : Int} (ho : Own w2 B (.slice A m c) x) (hB : wr.heap.size ≤ B) (hb : Below wr.heap.size wr w2) :
    Mid wr w2.heap.size A m c x z (w2.alloc (.cells #[.slice A m c, .int .i64 z] 30)) :=
  ⟨heap_alloc_new w2 _, (ho.base hB).alloc _, bAlloc hb _⟩
theorem mid_b {wr w2 : World} {A : Option Addr} {m c : Nat} {x : List UInt8} {z : Int} (ho : Own w2 (wr.alloc (.cells #[.slice none 0 0, .int .i64 0] 30)).drew.heap.size (.slice A m c) x) (hb : Below (wr.alloc (.cells #[.slice none 0 0, .int .i64 0] 30)).drew.heap.size (wr.alloc (.cells #[.slice none 0 0, .int .i64 0] 30)).drew w2) :
    Mid wr wr.heap.size A m c x z ((w2.setCell ⟨wr.heap.size, 0, none⟩ (.slice A m c)).setCell ⟨wr.heap.size, 1, none⟩ (.int .i64 z)) := by
  have hs : (wr.alloc (.cells #[.slice none 0 0, .int .i64 0] 30)).drew.heap.size = wr.heap.size + 1 := World.size_alloc _ _
  have h0 : SR 30 (wr.alloc (.cells #[.slice none 0 0, .int .i64 0] 30)).drew wr.heap.size [.slice none 0 0, .int .i64 0] := heap_alloc_new wr _
  have h1 := SR.call h0 hb h0.lt
  exact ⟨(h1.set 0 _).set 1 _, (ho.setLow (by rw [hs]; omega) _ _).base (by rw [hs]; omega), set2_below (upD hb) (Nat.le_refl _) _ _⟩
theorem rd_set {W : World} {g n c : Nat} {A : Option Addr} {l : List UInt8} {B : Nat} {x y : Value} (h : Own W B (.slice A n c) l) (hg : g < B) :
    Rd ((W.setCell ⟨g, 0, none⟩ x).setCell ⟨g, 1, none⟩ y) ((W.setCell ⟨g, 0, none⟩ x).setCell ⟨g, 1, none⟩ y).heap.size A l c := (h.setLow hg x y).rdOf
theorem z_of {wr w2 : World} (hb : Below (wr.alloc (.cells #[.slice none 0 0, .int .i64 0] 30)).drew.heap.size (wr.alloc (.cells #[.slice none 0 0, .int .i64 0] 30)).drew w2) :
    w2.cell? ⟨wr.heap.size, 0, none⟩ = some (.slice none 0 0) ∧ w2.cell? ⟨wr.heap.size, 1, none⟩ = some (.int .i64 0) ∧ w2.frozen? ⟨wr.heap.size, 0, none⟩ = false ∧ w2.frozen? ⟨wr.heap.size, 1, none⟩ = false ∧ wr.heap.size < w2.heap.size := by
  have h0 : SR 30 (wr.alloc (.cells #[.slice none 0 0, .int .i64 0] 30)).drew wr.heap.size [.slice none 0 0, .int .i64 0] := heap_alloc_new wr _
  exact line_facts (SR.call h0 hb h0.lt)
theorem Mid.rd {wr wx : World} {b : Nat} {A : Option Addr} {m c : Nat} {x : List UInt8} {z : Int} (h : Mid wr b A m c x z wx) : Rd wx wx.heap.size A x c := h.2.1.rdOf
theorem key_facts {V : World} {g : Nat} {x y z : Value} (H : SR 28 V g [x, y, z]) : V.cell? ⟨g, 0, none⟩ = some x ∧ V.cell? ⟨g, 1, none⟩ = some y ∧ V.cell? ⟨g, 2, none⟩ = some z :=
  ⟨H.cell 0, H.cell 1, H.cell 2⟩
theorem sR {V W : World} {g h o : Nat} {x y u : Value} (k0 : V.cell? ⟨g, 0, none⟩ = some x) (k1 : V.cell? ⟨g, 1, none⟩ = some y) (k2 : V.cell? ⟨h, o, none⟩ = some u) (hg : g < V.heap.size) (hh : h < V.heap.size) (b : Below V.heap.size V W) :
    W.cell? ⟨g, 0, none⟩ = some x ∧ W.cell? ⟨g, 1, none⟩ = some y ∧ W.cell? ⟨h, o, none⟩ = some u ∧ Below V.heap.size V W :=
  ⟨(b.cell (p := ⟨g, 0, none⟩) hg).trans k0, (b.cell (p := ⟨g, 1, none⟩) hg).trans k1, (b.cell (p := ⟨h, o, none⟩) hh).trans k2, b⟩

/-- Do and Type in one contract each. -/
def doR (l : List UInt8) (t : Nat) (f : Int) : List UInt8 × Nat := (doL l t f).getD (l, t)
def tyR (l : List UInt8) (t : Nat) (room : Int) (over : Bool) (u : UInt8) : List UInt8 × Nat := (tyL l t room over u).getD (l, t)
theorem do_go (A : Option Addr) (l L : List UInt8) (n c t s m : Nat) (f : Int) (d : Bool) (w : World) (hn : n = l.length) (hr : Rd w w.heap.size A l c) (hl : n ≤ 4096) (ht : t ≤ n) (hf : doR l t f = (L, s)) (hd : (doL l t f).isSome = d) (hm : L.length = m) :
    Calls Tryd.prog 66 #[.agg #[.slice A n c, .int .i64 (t : Int)], .int .i64 f] w (GotD w L m (s : Int) d) := by
  unfold doR at hf
  cases hq : doL l t f with
  | none =>
    rw [hq] at hf hd
    simp only [Option.getD_none, Prod.mk.injEq] at hf
    obtain ⟨rfl, rfl⟩ := hf
    subst hd
    have := do_none A l n c t f w hn hr hl ht hq
    rw [hn, hm] at this
    rw [hn, hm]
    exact this
  | some p =>
    rw [hq] at hf hd
    subst hd
    exact do_any A l L n c t s m f w hn hr hl ht (by rw [hq]; exact congrArg some hf) hm
theorem ty_go (A : Option Addr) (l L : List UInt8) (n c t s m : Nat) (room : Int) (over : Bool) (u : UInt8) (d : Bool) (w : World) (hn : n = l.length) (hr : Rd w w.heap.size A l c) (hl : n ≤ 4096) (ht : t ≤ n) (hf : tyR l t room over u = (L, s)) (hd : (tyL l t room over u).isSome = d) (hm : L.length = m) :
    Calls Tryd.prog 79 #[.agg #[.slice A n c, .int .i64 (t : Int)], .int .i64 room, .bool over, .int .u8 (u.toNat : Int)] w (GotD w L m (s : Int) d) := by
  unfold tyR at hf
  cases hq : tyL l t room over u with
  | none =>
    rw [hq] at hf hd
    simp only [Option.getD_none, Prod.mk.injEq] at hf
    obtain ⟨rfl, rfl⟩ := hf
    subst hd
    have := ty_none A l n c t room over u w hn hr hl ht hq
    rw [hn, hm] at this
    rw [hn, hm]
    exact this
  | some p =>
    rw [hq] at hf hd
    subst hd
    exact ty_any A l L n c t s m room over u w hn hr hl ht (by rw [hq]; exact congrArg some hf) hm
/-- What a function answers is a line, no longer; the same where nothing was done. -/
theorem doR_spec {l L : List UInt8} {t s : Nat} {f : Int} (ht : t ≤ l.length) (h : doR l t f = (L, s)) : s ≤ L.length ∧ L.length ≤ l.length ∧ ((doL l t f).isSome = false → L = l ∧ s = t) := by
  unfold doR at h
  cases hq : doL l t f with
  | none =>
    rw [hq] at h
    simp only [Option.getD_none, Prod.mk.injEq] at h
    obtain ⟨rfl, rfl⟩ := h
    exact ⟨ht, Nat.le_refl _, fun _ => ⟨rfl, rfl⟩⟩
  | some p =>
    rw [hq] at h
    obtain ⟨h1, h2⟩ := do_spec ht (hq.trans (congrArg some h))
    exact ⟨h1, h2, fun e => by cases e⟩
theorem tyR_spec {l L : List UInt8} {t s : Nat} {room : Int} {over : Bool} {u : UInt8} (ht : t ≤ l.length) (h : tyR l t room over u = (L, s)) :
    ((tyL l t room over u).isSome = false ∧ L = l ∧ s = t) ∨ ((tyL l t room over u).isSome = true ∧ s = t + 1 ∧ s ≤ L.length ∧ (L.length = l.length ∨ (L.length = l.length + 1 ∧ (L.length : Int) ≤ room ∧ L.length ≤ 4096))) := by
  unfold tyR at h
  cases hq : tyL l t room over u with
  | none =>
    rw [hq] at h
    simp only [Option.getD_none, Prod.mk.injEq] at h
    obtain ⟨rfl, rfl⟩ := h
    exact .inl ⟨rfl, rfl, rfl⟩
  | some p =>
    rw [hq] at h
    exact .inr ⟨rfl, ty_spec ht (hq.trans (congrArg some h))⟩

end Go.Proofs.YtlfmbfecajhffaaDoor
