/-
  What a key does to a line: the contract of Type. No conditions beyond those each theorem states.
-/
import Derived.Test.YtecihodifgjkoaaDoorT12
namespace Go.Proofs.YtecihodifgjkoaaDoor
open Go.RowKit
set_option maxRecDepth 100000

set_option maxHeartbeats 1000000 in
theorem ty_over (A : Option Addr) (l : List UInt8) (n c t m : Nat) (room : Int) (u : UInt8) (w : World) (hn : n = l.length) (hr : Rd w w.heap.size A l c) (hl : n ≤ 4096) (ht : t ≤ n) (hlt : t < n) (hm : (l.take t ++ ([u] ++ l.drop (t + 1))).length = m) :
    Calls Tryd.prog 55 #[.agg #[.slice A n c, .int .i64 (t : Int)], .int .i64 room, .bool true, .int .u8 (u.toNat : Int)] w (GotD w (l.take t ++ ([u] ++ l.drop (t + 1))) m ((t : Int) + 1) true) := by
  have HM := keepd hm
  have hw : IntKind.i64.wrap ((t : Int) + 1) = (t : Int) + 1 := by rw [IntKind.wrap_i64]; omega
  have i0 : (t : Int) < (n : Int) := by omega
  have i1 : (t : Int) ≤ 4096 := by omega
  have HN := keepd hn
  have HR0 := keepd hr
  clear hm
  clear hn hr
  go_enter Tryd.func55, Tryd.ntmps55
  go_upto_region 1 with fail
  generalize hV : (w.alloc (.cells #[.slice A n c, .int .i64 (t : Int)] 28)).alloc (.cells #[.slice none 0 0, .int .i64 0] 28) = V
  obtain ⟨H1, H2, HB⟩ := line_new2 _ _ _ _ _ _ hV
  obtain ⟨k0, k1, _, _, _⟩ := line_facts H1.out
  have CK := keepd (check_ok A n c t V hl ht)
  clear hV
  go_wp2_with fail
  with_reducible refine CK.out.mono ?_
  rintro e w2 ⟨rfl, hb2⟩
  have HB2 := keepd (HB.out.trans (hb2.mono HB.out.size))
  have HP2 := keepd (SR.call H2.out hb2 H2.out.lt)
  obtain ⟨k0, k1, _, _, _⟩ := line_facts (SR.call H1.out hb2 H1.out.lt)
  clear hb2 CK
  have C := typed_any A l n c t (t + 1) m u w2 HN.out (HR0.out.at_ HB2.out) (by omega) ht (by omega) HM.out
  rw [show ((t + 1 : Nat) : Int) = (t : Int) + 1 from rfl] at C
  replace C := keepd C
  go_wp2_with fail
  with_reducible refine C.out.mono ?_
  rintro e w4 ⟨⟨A2, c2, rfl, ho⟩, hb4⟩
  have HO := keepd ho
  have HB4 := keepd (HB2.out.trans (hb4.mono HB2.out.size))
  obtain ⟨m0, m1, m2, m3, lt⟩ := line_facts (SR.call HP2.out hb4 HP2.out.lt)
  have HLT := keepd HP2.out.lt
  clear hb4 ho C
  go_wp2_with fail
  refine bodyPost_ret (v := .tuple #[.agg #[.slice A2 m c2, .int .i64 ((t : Int) + 1)], .bool true]) (by simp [results, Tryd.results55, go_sem, m0, m1]) rfl ?_
  obtain ⟨q1, q2⟩ := gotn_end (z := ((t : Int) + 1)) HLT.out HO.out HB4.out
  exact ⟨⟨A2, c2, rfl, q1⟩, q2⟩

set_option maxHeartbeats 1000000 in
theorem ty_fullt (A : Option Addr) (l : List UInt8) (n c t : Nat) (room : Int) (u : UInt8) (w : World) (hn : n = l.length) (hr : Rd w w.heap.size A l c) (hl : n ≤ 4096) (ht : t ≤ n) (hge : ¬ t < n) (hf : min room 4096 ≤ (n : Int)) :
    Calls Tryd.prog 55 #[.agg #[.slice A n c, .int .i64 (t : Int)], .int .i64 room, .bool true, .int .u8 (u.toNat : Int)] w (GotD w l n (t : Int) false) := by
  obtain ⟨x, hx⟩ : ∃ x : Int, (if (4096 : Int) < room then (4096 : Int) else room) = x := ⟨_, rfl⟩
  have hxn : (n : Int) ≥ x := by rw [← hx]; split <;> omega
  have hxm : x ≤ (n : Int) := hxn
  have i0 : ¬ (t : Int) < (n : Int) := by omega
  have i00 : ¬ t < n := hge
  have HN := keepd hn
  have HR0 := keepd hr
  clear hf
  clear hn hr
  go_enter Tryd.func55, Tryd.ntmps55
  go_upto_region 1 with fail
  generalize hV : (w.alloc (.cells #[.slice A n c, .int .i64 (t : Int)] 28)).alloc (.cells #[.slice none 0 0, .int .i64 0] 28) = V
  obtain ⟨H1, H2, HB⟩ := line_new2 _ _ _ _ _ _ hV
  obtain ⟨k0, k1, _, _, _⟩ := line_facts H1.out
  have CK := keepd (check_ok A n c t V hl ht)
  clear hV
  go_wp2_with fail
  with_reducible refine CK.out.mono ?_
  rintro e w2 ⟨rfl, hb2⟩
  have HB2 := keepd (HB.out.trans (hb2.mono HB.out.size))
  have HP2 := keepd (SR.call H2.out hb2 H2.out.lt)
  obtain ⟨k0, k1, _, _, _⟩ := line_facts (SR.call H1.out hb2 H1.out.lt)
  clear hb2 CK
  have C := keepd (anew_any A l n c (t : Int) w2 HN.out (HR0.out.at_ HB2.out) (by omega))
  go_wp2_with fail
  with_reducible refine C.out.mono ?_
  rintro e w4 ⟨⟨A2, c2, rfl, ho⟩, hb4⟩
  have HO := keepd ho
  have HB4 := keepd (HB2.out.trans (hb4.mono HB2.out.size))
  obtain ⟨m0, m1, m2, m3, lt⟩ := line_facts (SR.call HP2.out hb4 HP2.out.lt)
  have HLT := keepd HP2.out.lt
  clear hb4 ho C
  go_wp2_with fail
  refine bodyPost_ret (v := .tuple #[.agg #[.slice A2 n c2, .int .i64 (t : Int)], .bool false]) (by simp [results, Tryd.results55, go_sem, m0, m1]) rfl ?_
  obtain ⟨q1, q2⟩ := gotn_end (z := (t : Int)) HLT.out HO.out HB4.out
  exact ⟨⟨A2, c2, rfl, q1⟩, q2⟩

set_option maxHeartbeats 1000000 in
theorem ty_roomt (A : Option Addr) (l : List UInt8) (n c t m : Nat) (room : Int) (u : UInt8) (w : World) (hn : n = l.length) (hr : Rd w w.heap.size A l c) (hl : n ≤ 4096) (ht : t ≤ n) (hge : ¬ t < n) (hf : ¬ min room 4096 ≤ (n : Int)) (hm : (l.take t ++ ([u] ++ l.drop t)).length = m) :
    Calls Tryd.prog 55 #[.agg #[.slice A n c, .int .i64 (t : Int)], .int .i64 room, .bool true, .int .u8 (u.toNat : Int)] w (GotD w (l.take t ++ ([u] ++ l.drop t)) m ((t : Int) + 1) true) := by
  obtain ⟨x, hx⟩ : ∃ x : Int, (if (4096 : Int) < room then (4096 : Int) else room) = x := ⟨_, rfl⟩
  have hxn : ¬ (n : Int) ≥ x := by rw [← hx]; split <;> omega
  have hxm : ¬ x ≤ (n : Int) := hxn
  have hxl : (n : Int) < x := by omega
  have HM := keepd hm
  have i0 : ¬ (t : Int) < (n : Int) := by omega
  have i00 : ¬ t < n := hge
  have HN := keepd hn
  have HR0 := keepd hr
  clear hf hm
  clear hn hr
  go_enter Tryd.func55, Tryd.ntmps55
  go_upto_region 1 with fail
  generalize hV : (w.alloc (.cells #[.slice A n c, .int .i64 (t : Int)] 28)).alloc (.cells #[.slice none 0 0, .int .i64 0] 28) = V
  obtain ⟨H1, H2, HB⟩ := line_new2 _ _ _ _ _ _ hV
  obtain ⟨k0, k1, _, _, _⟩ := line_facts H1.out
  have CK := keepd (check_ok A n c t V hl ht)
  clear hV
  go_wp2_with fail
  with_reducible refine CK.out.mono ?_
  rintro e w2 ⟨rfl, hb2⟩
  have HB2 := keepd (HB.out.trans (hb2.mono HB.out.size))
  have HP2 := keepd (SR.call H2.out hb2 H2.out.lt)
  obtain ⟨k0, k1, _, _, _⟩ := line_facts (SR.call H1.out hb2 H1.out.lt)
  clear hb2 CK
  have C := keepd (typed_any A l n c t t m u w2 HN.out (HR0.out.at_ HB2.out) (by omega) ht ht HM.out)
  go_wp2_with fail
  with_reducible refine C.out.mono ?_
  rintro e w4 ⟨⟨A2, c2, rfl, ho⟩, hb4⟩
  have HO := keepd ho
  have HB4 := keepd (HB2.out.trans (hb4.mono HB2.out.size))
  obtain ⟨m0, m1, m2, m3, lt⟩ := line_facts (SR.call HP2.out hb4 HP2.out.lt)
  have HLT := keepd HP2.out.lt
  clear hb4 ho C
  go_wp2_with fail
  refine bodyPost_ret (v := .tuple #[.agg #[.slice A2 m c2, .int .i64 ((t : Int) + 1)], .bool true]) (by simp [results, Tryd.results55, go_sem, m0, m1]) rfl ?_
  obtain ⟨q1, q2⟩ := gotn_end (z := ((t : Int) + 1)) HLT.out HO.out HB4.out
  exact ⟨⟨A2, c2, rfl, q1⟩, q2⟩

set_option maxHeartbeats 1000000 in
theorem ty_fullf (A : Option Addr) (l : List UInt8) (n c t : Nat) (room : Int) (u : UInt8) (w : World) (hn : n = l.length) (hr : Rd w w.heap.size A l c) (hl : n ≤ 4096) (ht : t ≤ n) (hf : min room 4096 ≤ (n : Int)) :
    Calls Tryd.prog 55 #[.agg #[.slice A n c, .int .i64 (t : Int)], .int .i64 room, .bool false, .int .u8 (u.toNat : Int)] w (GotD w l n (t : Int) false) := by
  obtain ⟨x, hx⟩ : ∃ x : Int, (if (4096 : Int) < room then (4096 : Int) else room) = x := ⟨_, rfl⟩
  have hxn : (n : Int) ≥ x := by rw [← hx]; split <;> omega
  have hxm : x ≤ (n : Int) := hxn
  have HN := keepd hn
  have HR0 := keepd hr
  clear hf
  clear hn hr
  go_enter Tryd.func55, Tryd.ntmps55
  go_upto_region 1 with fail
  generalize hV : (w.alloc (.cells #[.slice A n c, .int .i64 (t : Int)] 28)).alloc (.cells #[.slice none 0 0, .int .i64 0] 28) = V
  obtain ⟨H1, H2, HB⟩ := line_new2 _ _ _ _ _ _ hV
  obtain ⟨k0, k1, _, _, _⟩ := line_facts H1.out
  have CK := keepd (check_ok A n c t V hl ht)
  clear hV
  go_wp2_with fail
  with_reducible refine CK.out.mono ?_
  rintro e w2 ⟨rfl, hb2⟩
  have HB2 := keepd (HB.out.trans (hb2.mono HB.out.size))
  have HP2 := keepd (SR.call H2.out hb2 H2.out.lt)
  obtain ⟨k0, k1, _, _, _⟩ := line_facts (SR.call H1.out hb2 H1.out.lt)
  clear hb2 CK
  have C := keepd (anew_any A l n c (t : Int) w2 HN.out (HR0.out.at_ HB2.out) (by omega))
  go_wp2_with fail
  with_reducible refine C.out.mono ?_
  rintro e w4 ⟨⟨A2, c2, rfl, ho⟩, hb4⟩
  have HO := keepd ho
  have HB4 := keepd (HB2.out.trans (hb4.mono HB2.out.size))
  obtain ⟨m0, m1, m2, m3, lt⟩ := line_facts (SR.call HP2.out hb4 HP2.out.lt)
  have HLT := keepd HP2.out.lt
  clear hb4 ho C
  go_wp2_with fail
  refine bodyPost_ret (v := .tuple #[.agg #[.slice A2 n c2, .int .i64 (t : Int)], .bool false]) (by simp [results, Tryd.results55, go_sem, m0, m1]) rfl ?_
  obtain ⟨q1, q2⟩ := gotn_end (z := (t : Int)) HLT.out HO.out HB4.out
  exact ⟨⟨A2, c2, rfl, q1⟩, q2⟩

set_option maxHeartbeats 1000000 in
theorem ty_roomf (A : Option Addr) (l : List UInt8) (n c t m : Nat) (room : Int) (u : UInt8) (w : World) (hn : n = l.length) (hr : Rd w w.heap.size A l c) (hl : n ≤ 4096) (ht : t ≤ n) (hf : ¬ min room 4096 ≤ (n : Int)) (hm : (l.take t ++ ([u] ++ l.drop t)).length = m) :
    Calls Tryd.prog 55 #[.agg #[.slice A n c, .int .i64 (t : Int)], .int .i64 room, .bool false, .int .u8 (u.toNat : Int)] w (GotD w (l.take t ++ ([u] ++ l.drop t)) m ((t : Int) + 1) true) := by
  obtain ⟨x, hx⟩ : ∃ x : Int, (if (4096 : Int) < room then (4096 : Int) else room) = x := ⟨_, rfl⟩
  have hxn : ¬ (n : Int) ≥ x := by rw [← hx]; split <;> omega
  have hxm : ¬ x ≤ (n : Int) := hxn
  have hxl : (n : Int) < x := by omega
  have HM := keepd hm
  have HN := keepd hn
  have HR0 := keepd hr
  clear hf hm
  clear hn hr
  go_enter Tryd.func55, Tryd.ntmps55
  go_upto_region 1 with fail
  generalize hV : (w.alloc (.cells #[.slice A n c, .int .i64 (t : Int)] 28)).alloc (.cells #[.slice none 0 0, .int .i64 0] 28) = V
  obtain ⟨H1, H2, HB⟩ := line_new2 _ _ _ _ _ _ hV
  obtain ⟨k0, k1, _, _, _⟩ := line_facts H1.out
  have CK := keepd (check_ok A n c t V hl ht)
  clear hV
  go_wp2_with fail
  with_reducible refine CK.out.mono ?_
  rintro e w2 ⟨rfl, hb2⟩
  have HB2 := keepd (HB.out.trans (hb2.mono HB.out.size))
  have HP2 := keepd (SR.call H2.out hb2 H2.out.lt)
  obtain ⟨k0, k1, _, _, _⟩ := line_facts (SR.call H1.out hb2 H1.out.lt)
  clear hb2 CK
  have C := keepd (typed_any A l n c t t m u w2 HN.out (HR0.out.at_ HB2.out) (by omega) ht ht HM.out)
  go_wp2_with fail
  with_reducible refine C.out.mono ?_
  rintro e w4 ⟨⟨A2, c2, rfl, ho⟩, hb4⟩
  have HO := keepd ho
  have HB4 := keepd (HB2.out.trans (hb4.mono HB2.out.size))
  obtain ⟨m0, m1, m2, m3, lt⟩ := line_facts (SR.call HP2.out hb4 HP2.out.lt)
  have HLT := keepd HP2.out.lt
  clear hb4 ho C
  go_wp2_with fail
  refine bodyPost_ret (v := .tuple #[.agg #[.slice A2 m c2, .int .i64 ((t : Int) + 1)], .bool true]) (by simp [results, Tryd.results55, go_sem, m0, m1]) rfl ?_
  obtain ⟨q1, q2⟩ := gotn_end (z := ((t : Int) + 1)) HLT.out HO.out HB4.out
  exact ⟨⟨A2, c2, rfl, q1⟩, q2⟩

set_option maxHeartbeats 1000000 in
theorem ty_bad (A : Option Addr) (l : List UInt8) (n c : Nat) (z room : Int) (over : Bool) (u : UInt8) (w : World) (hn : n = l.length) (hr : Rd w w.heap.size A l c) (hl : n ≤ 100000) (hm : mayV n z = false) :
    Calls Tryd.prog 55 #[.agg #[.slice A n c, .int .i64 z], .int .i64 room, .bool over, .int .u8 (u.toNat : Int)] w (GotD w l n z false) := by
  have HN := keepd hn
  have HR0 := keepd hr
  clear hn hr
  go_enter Tryd.func55, Tryd.ntmps55
  go_upto_region 1 with fail
  generalize hV : (w.alloc (.cells #[.slice A n c, .int .i64 z] 28)).alloc (.cells #[.slice none 0 0, .int .i64 0] 28) = V
  obtain ⟨H1, H2, HB⟩ := line_new2 _ _ _ _ _ _ hV
  obtain ⟨k0, k1, _, _, _⟩ := line_facts H1.out
  have CK := keepd (check_bad A n c z V hm)
  clear hV
  go_wp2_with fail
  with_reducible refine CK.out.mono ?_
  rintro e w2 ⟨rfl, hb2⟩
  have HB2 := keepd (HB.out.trans (hb2.mono HB.out.size))
  have HP2 := keepd (SR.call H2.out hb2 H2.out.lt)
  obtain ⟨k0, k1, _, _, _⟩ := line_facts (SR.call H1.out hb2 H1.out.lt)
  clear hb2 CK
  have C := keepd (anew_any A l n c z w2 HN.out (HR0.out.at_ HB2.out) (by omega))
  go_wp2_with fail
  with_reducible refine C.out.mono ?_
  rintro e w4 ⟨⟨A2, c2, rfl, ho⟩, hb4⟩
  have HO := keepd ho
  have HB4 := keepd (HB2.out.trans (hb4.mono HB2.out.size))
  obtain ⟨m0, m1, m2, m3, lt⟩ := line_facts (SR.call HP2.out hb4 HP2.out.lt)
  have HLT := keepd HP2.out.lt
  clear hb4 ho C
  go_wp2_with fail
  refine bodyPost_ret (v := .tuple #[.agg #[.slice A2 n c2, .int .i64 z], .bool false]) (by simp [results, Tryd.results55, go_sem, m0, m1]) rfl ?_
  obtain ⟨q1, q2⟩ := gotn_end (z := z) HLT.out HO.out HB4.out
  exact ⟨⟨A2, c2, rfl, q1⟩, q2⟩

theorem ty_any (A : Option Addr) (l L : List UInt8) (n c t s m : Nat) (room : Int) (over : Bool) (u : UInt8) (w : World) (hn : n = l.length) (hr : Rd w w.heap.size A l c) (hl : n ≤ 4096) (ht : t ≤ n) (hf : tyL l t room over u = some (L, s)) (hm : L.length = m) :
    Calls Tryd.prog 55 #[.agg #[.slice A n c, .int .i64 (t : Int)], .int .i64 room, .bool over, .int .u8 (u.toNat : Int)] w (GotD w L m (s : Int) true) := by
  unfold tyL at hf
  rw [← hn] at hf
  cases over
  · rw [Bool.false_and, if_neg (by decide)] at hf
    by_cases h : min room 4096 ≤ (n : Int)
    · rw [if_pos h] at hf; cases hf
    · rw [if_neg h] at hf
      simp only [Option.some.injEq, Prod.mk.injEq] at hf
      obtain ⟨rfl, rfl⟩ := hf
      exact ty_roomf A l n c t m room u w hn hr hl ht h hm
  · by_cases hlt : t < n
    · rw [Bool.true_and, if_pos (by simp [hlt])] at hf
      simp only [Option.some.injEq, Prod.mk.injEq] at hf
      obtain ⟨rfl, rfl⟩ := hf
      exact ty_over A l n c t m room u w hn hr hl ht hlt hm
    · rw [Bool.true_and, if_neg (by simp; omega)] at hf
      by_cases h : min room 4096 ≤ (n : Int)
      · rw [if_pos h] at hf; cases hf
      · rw [if_neg h] at hf
        simp only [Option.some.injEq, Prod.mk.injEq] at hf
        obtain ⟨rfl, rfl⟩ := hf
        exact ty_roomt A l n c t m room u w hn hr hl ht hlt h hm
theorem ty_none (A : Option Addr) (l : List UInt8) (n c t : Nat) (room : Int) (over : Bool) (u : UInt8) (w : World) (hn : n = l.length) (hr : Rd w w.heap.size A l c) (hl : n ≤ 4096) (ht : t ≤ n) (hf : tyL l t room over u = none) :
    Calls Tryd.prog 55 #[.agg #[.slice A n c, .int .i64 (t : Int)], .int .i64 room, .bool over, .int .u8 (u.toNat : Int)] w (GotD w l n (t : Int) false) := by
  unfold tyL at hf
  rw [← hn] at hf
  cases over
  · rw [Bool.false_and, if_neg (by decide)] at hf
    by_cases h : min room 4096 ≤ (n : Int)
    · exact ty_fullf A l n c t room u w hn hr hl ht h
    · rw [if_neg h] at hf; cases hf
  · by_cases hlt : t < n
    · rw [Bool.true_and, if_pos (by simp [hlt])] at hf; cases hf
    · rw [Bool.true_and, if_neg (by simp; omega)] at hf
      by_cases h : min room 4096 ≤ (n : Int)
      · exact ty_fullt A l n c t room u w hn hr hl ht hlt h
      · rw [if_neg h] at hf; cases hf

end Go.Proofs.YtecihodifgjkoaaDoor
