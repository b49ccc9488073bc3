/-
  What a function does to a line: the contract of Do. No conditions beyond those each theorem states.
-/
import Derived.Test.YtlfmbfecajhffaaDoorT11
namespace Go.Proofs.YtlfmbfecajhffaaDoor
open Go.RowKit
set_option maxRecDepth 100000

/-- A line of its own memory, and whether it was done. -/
def GotD (w : World) (L : List UInt8) (m : Nat) (z : Int) (d : Bool) (e : Ending) (w' : World) : Prop :=
  (∃ A c, e = .returned (.tuple #[.agg #[.slice A m c, .int .i64 z], .bool d]) ∧ Own w' w.heap.size (.slice A m c) L) ∧ Below w.heap.size w w'
theorem look_none {l : List UInt8} {t : Nat} {f : Int} {g ge p q : Nat} (h : doL l t f = none) : look (fns g ge p q) f = none := by
  unfold doL at h
  by_cases h10 : f = 10
  · rw [if_pos h10] at h
    cases h
  rw [if_neg h10] at h
  by_cases h27 : f = 27
  · rw [if_pos h27] at h
    cases h
  rw [if_neg h27] at h
  by_cases h12 : f = 12
  · rw [if_pos h12] at h
    cases h
  rw [if_neg h12] at h
  by_cases h28 : f = 28
  · rw [if_pos h28] at h
    cases h
  rw [if_neg h28] at h
  by_cases h29 : f = 29
  · rw [if_pos h29] at h
    cases h
  rw [if_neg h29] at h
  by_cases h30 : f = 30
  · rw [if_pos h30] at h
    cases h
  rw [if_neg h30] at h
  by_cases h11 : f = 11
  · rw [if_pos h11] at h
    cases h
  rw [if_neg h11] at h
  by_cases h19 : f = 19
  · rw [if_pos h19] at h
    cases h
  rw [if_neg h19] at h
  by_cases h20 : f = 20
  · rw [if_pos h20] at h
    cases h
  rw [if_neg h20] at h
  by_cases h21 : f = 21
  · rw [if_pos h21] at h
    cases h
  rw [if_neg h21] at h
  by_cases h22 : f = 22
  · rw [if_pos h22] at h
    cases h
  rw [if_neg h22] at h
  by_cases h23 : f = 23
  · rw [if_pos h23] at h
    cases h
  rw [if_neg h23] at h
  by_cases h24 : f = 24
  · rw [if_pos h24] at h
    cases h
  rw [if_neg h24] at h
  unfold look fns
  simp only [Option.map_eq_none_iff, List.find?_eq_none]
  intro x hx
  simp only [List.mem_cons, List.not_mem_nil, or_false] at hx
  rcases hx with rfl | rfl | rfl | rfl | rfl | rfl | rfl | rfl | rfl | rfl | rfl | rfl | rfl
  all_goals
    simp only [beq_iff_eq]
    omega

theorem look10 (g ge p q : Nat) : look (fns g ge p q) 10 = some (.func (.func 87) #[] #[.pointer (some ⟨g, 0, none⟩), .pointer (some ⟨p, 0, none⟩)]) := rfl

set_option maxHeartbeats 1000000 in
theorem fn10_any (A : Option Addr) (l : List UInt8) (n c t m : Nat) (w : World) (hn : n = l.length) (hr : Rd w w.heap.size A l c) (hl : n ≤ 4096) (ht : t ≤ n) (hm : (l.take (t - 1) ++ l.drop t).length = m) :
    Calls Tryd.prog 66 #[.agg #[.slice A n c, .int .i64 (t : Int)], .int .i64 10] w (GotD w (l.take (t - 1) ++ l.drop t) m ((t - 1 : Nat) : Int) true) := by
  have HM := keepd hm
  have HN := keepd hn
  have HR0 := keepd hr
  clear hm
  clear hn hr
  go_enter Tryd.func66, Tryd.ntmps66
  go_upto_region 1 with fail
  generalize hV : (w.alloc (.cells #[.slice A n c, .int .i64 (t : Int)] 30)).alloc (.cells #[.slice none 0 0, .int .i64 0] 30) = V
  obtain ⟨H1, H2, HB⟩ := line_new2 _ _ _ _ _ _ hV
  obtain ⟨k0, k1, _, _, _⟩ := line_facts H1.out
  have CK := keepd (check_ok A n c t V hl ht)
  clear hV
  go_wp2_with fail
  with_reducible refine CK.out.mono ?_
  rintro e w2 ⟨rfl, hb2⟩
  have HB2 := keepd (HB.out.trans (hb2.mono HB.out.size))
  have HP2 := keepd (SR.call H2.out hb2 H2.out.lt)
  obtain ⟨k0, k1, _, _, _⟩ := line_facts (SR.call H1.out hb2 H1.out.lt)
  have HL2 := keepd (SR.call H1.out hb2 H1.out.lt)
  clear hb2 CK
  have CD := keepd (doings_any A l n c t w2 HN.out (HR0.out.at_ HB2.out) (by omega) ht)
  go_wp2_with fail
  with_reducible refine CD.out.mono ?_
  rintro e w3 ⟨b, gl, ge, p, q, rfl, hM, h1, h2, h3, h4, hb3⟩
  have HB3 := keepd (HB2.out.trans (hb3.mono HB2.out.size))
  have HP3 := keepd (SR.call HP2.out hb3 HP2.out.lt)
  obtain ⟨k0, k1, _, _, _⟩ := line_facts (SR.call HL2.out hb3 HL2.out.lt)
  have hk := run_look w3 b (fns gl ge p q) 10 hM
  rw [look10] at hk
  simp only [Option.getD_some, Option.isSome_some] at hk
  have C := keepd (do35_any A l n c t m gl p w3 HN.out (HR0.out.at_ HB3.out) hl ht h1 h3 HM.out)
  clear hb3 hM h1 h2 h3 h4 CD
  go_wp2_with fail
  with_reducible refine C.out.mono ?_
  rintro e w4 ⟨⟨A2, c2, rfl, ho⟩, hb4⟩
  have HO := keepd ho
  have HB4 := keepd (HB3.out.trans (hb4.mono HB3.out.size))
  obtain ⟨m0, m1, m2, m3, lt⟩ := line_facts (SR.call HP3.out hb4 HP3.out.lt)
  have HLT := keepd HP3.out.lt
  clear hb4 ho hk C
  go_wp2_with fail
  refine bodyPost_ret (v := .tuple #[.agg #[.slice A2 m c2, .int .i64 ((t - 1 : Nat) : Int)], .bool true]) (by simp [results, Tryd.results66, go_sem, m0, m1]) rfl ?_
  obtain ⟨q1, q2⟩ := gotn_end (z := ((t - 1 : Nat) : Int)) HLT.out HO.out HB4.out
  exact ⟨⟨A2, c2, rfl, q1⟩, q2⟩

theorem look27 (g ge p q : Nat) : look (fns g ge p q) 27 = some (.func (.func 89) #[] #[.pointer (some ⟨g, 0, none⟩), .pointer (some ⟨q, 0, none⟩)]) := rfl

set_option maxHeartbeats 1000000 in
theorem fn27_any (A : Option Addr) (l : List UInt8) (n c t m : Nat) (w : World) (hn : n = l.length) (hr : Rd w w.heap.size A l c) (hl : n ≤ 4096) (ht : t ≤ n) (hm : (l.take t ++ l.drop (min (t + 1) n)).length = m) :
    Calls Tryd.prog 66 #[.agg #[.slice A n c, .int .i64 (t : Int)], .int .i64 27] w (GotD w (l.take t ++ l.drop (min (t + 1) n)) m (t : Int) true) := by
  have HM := keepd hm
  have HN := keepd hn
  have HR0 := keepd hr
  clear hm
  clear hn hr
  go_enter Tryd.func66, Tryd.ntmps66
  go_upto_region 1 with fail
  generalize hV : (w.alloc (.cells #[.slice A n c, .int .i64 (t : Int)] 30)).alloc (.cells #[.slice none 0 0, .int .i64 0] 30) = V
  obtain ⟨H1, H2, HB⟩ := line_new2 _ _ _ _ _ _ hV
  obtain ⟨k0, k1, _, _, _⟩ := line_facts H1.out
  have CK := keepd (check_ok A n c t V hl ht)
  clear hV
  go_wp2_with fail
  with_reducible refine CK.out.mono ?_
  rintro e w2 ⟨rfl, hb2⟩
  have HB2 := keepd (HB.out.trans (hb2.mono HB.out.size))
  have HP2 := keepd (SR.call H2.out hb2 H2.out.lt)
  obtain ⟨k0, k1, _, _, _⟩ := line_facts (SR.call H1.out hb2 H1.out.lt)
  have HL2 := keepd (SR.call H1.out hb2 H1.out.lt)
  clear hb2 CK
  have CD := keepd (doings_any A l n c t w2 HN.out (HR0.out.at_ HB2.out) (by omega) ht)
  go_wp2_with fail
  with_reducible refine CD.out.mono ?_
  rintro e w3 ⟨b, gl, ge, p, q, rfl, hM, h1, h2, h3, h4, hb3⟩
  have HB3 := keepd (HB2.out.trans (hb3.mono HB2.out.size))
  have HP3 := keepd (SR.call HP2.out hb3 HP2.out.lt)
  obtain ⟨k0, k1, _, _, _⟩ := line_facts (SR.call HL2.out hb3 HL2.out.lt)
  have hk := run_look w3 b (fns gl ge p q) 27 hM
  rw [look27] at hk
  simp only [Option.getD_some, Option.isSome_some] at hk
  have C := keepd (do37_any A l n c t m gl q w3 HN.out (HR0.out.at_ HB3.out) hl ht h1 h4 HM.out)
  clear hb3 hM h1 h2 h3 h4 CD
  go_wp2_with fail
  with_reducible refine C.out.mono ?_
  rintro e w4 ⟨⟨A2, c2, rfl, ho⟩, hb4⟩
  have HO := keepd ho
  have HB4 := keepd (HB3.out.trans (hb4.mono HB3.out.size))
  obtain ⟨m0, m1, m2, m3, lt⟩ := line_facts (SR.call HP3.out hb4 HP3.out.lt)
  have HLT := keepd HP3.out.lt
  clear hb4 ho hk C
  go_wp2_with fail
  refine bodyPost_ret (v := .tuple #[.agg #[.slice A2 m c2, .int .i64 (t : Int)], .bool true]) (by simp [results, Tryd.results66, go_sem, m0, m1]) rfl ?_
  obtain ⟨q1, q2⟩ := gotn_end (z := (t : Int)) HLT.out HO.out HB4.out
  exact ⟨⟨A2, c2, rfl, q1⟩, q2⟩

theorem look12 (g ge p q : Nat) : look (fns g ge p q) 12 = some (.func (.func 90) #[] #[.pointer (some ⟨g, 0, none⟩)]) := rfl

set_option maxHeartbeats 1000000 in
theorem fn12_any (A : Option Addr) (l : List UInt8) (n c t m : Nat) (w : World) (hn : n = l.length) (hr : Rd w w.heap.size A l c) (hl : n ≤ 4096) (ht : t ≤ n) (hm : (l.take (backL l t) ++ l.drop t).length = m) :
    Calls Tryd.prog 66 #[.agg #[.slice A n c, .int .i64 (t : Int)], .int .i64 12] w (GotD w (l.take (backL l t) ++ l.drop t) m ((backL l t : Nat) : Int) true) := by
  have HM := keepd hm
  have HN := keepd hn
  have HR0 := keepd hr
  clear hm
  clear hn hr
  go_enter Tryd.func66, Tryd.ntmps66
  go_upto_region 1 with fail
  generalize hV : (w.alloc (.cells #[.slice A n c, .int .i64 (t : Int)] 30)).alloc (.cells #[.slice none 0 0, .int .i64 0] 30) = V
  obtain ⟨H1, H2, HB⟩ := line_new2 _ _ _ _ _ _ hV
  obtain ⟨k0, k1, _, _, _⟩ := line_facts H1.out
  have CK := keepd (check_ok A n c t V hl ht)
  clear hV
  go_wp2_with fail
  with_reducible refine CK.out.mono ?_
  rintro e w2 ⟨rfl, hb2⟩
  have HB2 := keepd (HB.out.trans (hb2.mono HB.out.size))
  have HP2 := keepd (SR.call H2.out hb2 H2.out.lt)
  obtain ⟨k0, k1, _, _, _⟩ := line_facts (SR.call H1.out hb2 H1.out.lt)
  have HL2 := keepd (SR.call H1.out hb2 H1.out.lt)
  clear hb2 CK
  have CD := keepd (doings_any A l n c t w2 HN.out (HR0.out.at_ HB2.out) (by omega) ht)
  go_wp2_with fail
  with_reducible refine CD.out.mono ?_
  rintro e w3 ⟨b, gl, ge, p, q, rfl, hM, h1, h2, h3, h4, hb3⟩
  have HB3 := keepd (HB2.out.trans (hb3.mono HB2.out.size))
  have HP3 := keepd (SR.call HP2.out hb3 HP2.out.lt)
  obtain ⟨k0, k1, _, _, _⟩ := line_facts (SR.call HL2.out hb3 HL2.out.lt)
  have hk := run_look w3 b (fns gl ge p q) 12 hM
  rw [look12] at hk
  simp only [Option.getD_some, Option.isSome_some] at hk
  have C := keepd (do38_any A l n c t _ m gl w3 HN.out (HR0.out.at_ HB3.out) hl ht h1 rfl HM.out)
  clear hb3 hM h1 h2 h3 h4 CD
  go_wp2_with fail
  with_reducible refine C.out.mono ?_
  rintro e w4 ⟨⟨A2, c2, rfl, ho⟩, hb4⟩
  have HO := keepd ho
  have HB4 := keepd (HB3.out.trans (hb4.mono HB3.out.size))
  obtain ⟨m0, m1, m2, m3, lt⟩ := line_facts (SR.call HP3.out hb4 HP3.out.lt)
  have HLT := keepd HP3.out.lt
  clear hb4 ho hk C
  go_wp2_with fail
  refine bodyPost_ret (v := .tuple #[.agg #[.slice A2 m c2, .int .i64 ((backL l t : Nat) : Int)], .bool true]) (by simp [results, Tryd.results66, go_sem, m0, m1]) rfl ?_
  obtain ⟨q1, q2⟩ := gotn_end (z := ((backL l t : Nat) : Int)) HLT.out HO.out HB4.out
  exact ⟨⟨A2, c2, rfl, q1⟩, q2⟩

theorem look28 (g ge p q : Nat) : look (fns g ge p q) 28 = some (.func (.func 92) #[] #[.pointer (some ⟨g, 0, none⟩)]) := rfl

set_option maxHeartbeats 1000000 in
theorem fn28_any (A : Option Addr) (l : List UInt8) (n c t m : Nat) (w : World) (hn : n = l.length) (hr : Rd w w.heap.size A l c) (hl : n ≤ 4096) (ht : t ≤ n) (hm : (l.take t ++ l.drop (onL l t)).length = m) :
    Calls Tryd.prog 66 #[.agg #[.slice A n c, .int .i64 (t : Int)], .int .i64 28] w (GotD w (l.take t ++ l.drop (onL l t)) m (t : Int) true) := by
  have HM := keepd hm
  have HN := keepd hn
  have HR0 := keepd hr
  clear hm
  clear hn hr
  go_enter Tryd.func66, Tryd.ntmps66
  go_upto_region 1 with fail
  generalize hV : (w.alloc (.cells #[.slice A n c, .int .i64 (t : Int)] 30)).alloc (.cells #[.slice none 0 0, .int .i64 0] 30) = V
  obtain ⟨H1, H2, HB⟩ := line_new2 _ _ _ _ _ _ hV
  obtain ⟨k0, k1, _, _, _⟩ := line_facts H1.out
  have CK := keepd (check_ok A n c t V hl ht)
  clear hV
  go_wp2_with fail
  with_reducible refine CK.out.mono ?_
  rintro e w2 ⟨rfl, hb2⟩
  have HB2 := keepd (HB.out.trans (hb2.mono HB.out.size))
  have HP2 := keepd (SR.call H2.out hb2 H2.out.lt)
  obtain ⟨k0, k1, _, _, _⟩ := line_facts (SR.call H1.out hb2 H1.out.lt)
  have HL2 := keepd (SR.call H1.out hb2 H1.out.lt)
  clear hb2 CK
  have CD := keepd (doings_any A l n c t w2 HN.out (HR0.out.at_ HB2.out) (by omega) ht)
  go_wp2_with fail
  with_reducible refine CD.out.mono ?_
  rintro e w3 ⟨b, gl, ge, p, q, rfl, hM, h1, h2, h3, h4, hb3⟩
  have HB3 := keepd (HB2.out.trans (hb3.mono HB2.out.size))
  have HP3 := keepd (SR.call HP2.out hb3 HP2.out.lt)
  obtain ⟨k0, k1, _, _, _⟩ := line_facts (SR.call HL2.out hb3 HL2.out.lt)
  have hk := run_look w3 b (fns gl ge p q) 28 hM
  rw [look28] at hk
  simp only [Option.getD_some, Option.isSome_some] at hk
  have C := keepd (do39_any A l n c t _ m gl w3 HN.out (HR0.out.at_ HB3.out) hl ht h1 rfl HM.out)
  clear hb3 hM h1 h2 h3 h4 CD
  go_wp2_with fail
  with_reducible refine C.out.mono ?_
  rintro e w4 ⟨⟨A2, c2, rfl, ho⟩, hb4⟩
  have HO := keepd ho
  have HB4 := keepd (HB3.out.trans (hb4.mono HB3.out.size))
  obtain ⟨m0, m1, m2, m3, lt⟩ := line_facts (SR.call HP3.out hb4 HP3.out.lt)
  have HLT := keepd HP3.out.lt
  clear hb4 ho hk C
  go_wp2_with fail
  refine bodyPost_ret (v := .tuple #[.agg #[.slice A2 m c2, .int .i64 (t : Int)], .bool true]) (by simp [results, Tryd.results66, go_sem, m0, m1]) rfl ?_
  obtain ⟨q1, q2⟩ := gotn_end (z := (t : Int)) HLT.out HO.out HB4.out
  exact ⟨⟨A2, c2, rfl, q1⟩, q2⟩

theorem look29 (g ge p q : Nat) : look (fns g ge p q) 29 = some (.func (.func 94) #[] #[.pointer (some ⟨g, 0, none⟩)]) := rfl

set_option maxHeartbeats 1000000 in
theorem fn29_any (A : Option Addr) (l : List UInt8) (n c t m : Nat) (w : World) (hn : n = l.length) (hr : Rd w w.heap.size A l c) (hl : n ≤ 4096) (ht : t ≤ n) (hm : (l.take 0 ++ l.drop t).length = m) :
    Calls Tryd.prog 66 #[.agg #[.slice A n c, .int .i64 (t : Int)], .int .i64 29] w (GotD w (l.take 0 ++ l.drop t) m (0 : Int) true) := by
  have HM := keepd hm
  have HN := keepd hn
  have HR0 := keepd hr
  clear hm
  clear hn hr
  go_enter Tryd.func66, Tryd.ntmps66
  go_upto_region 1 with fail
  generalize hV : (w.alloc (.cells #[.slice A n c, .int .i64 (t : Int)] 30)).alloc (.cells #[.slice none 0 0, .int .i64 0] 30) = V
  obtain ⟨H1, H2, HB⟩ := line_new2 _ _ _ _ _ _ hV
  obtain ⟨k0, k1, _, _, _⟩ := line_facts H1.out
  have CK := keepd (check_ok A n c t V hl ht)
  clear hV
  go_wp2_with fail
  with_reducible refine CK.out.mono ?_
  rintro e w2 ⟨rfl, hb2⟩
  have HB2 := keepd (HB.out.trans (hb2.mono HB.out.size))
  have HP2 := keepd (SR.call H2.out hb2 H2.out.lt)
  obtain ⟨k0, k1, _, _, _⟩ := line_facts (SR.call H1.out hb2 H1.out.lt)
  have HL2 := keepd (SR.call H1.out hb2 H1.out.lt)
  clear hb2 CK
  have CD := keepd (doings_any A l n c t w2 HN.out (HR0.out.at_ HB2.out) (by omega) ht)
  go_wp2_with fail
  with_reducible refine CD.out.mono ?_
  rintro e w3 ⟨b, gl, ge, p, q, rfl, hM, h1, h2, h3, h4, hb3⟩
  have HB3 := keepd (HB2.out.trans (hb3.mono HB2.out.size))
  have HP3 := keepd (SR.call HP2.out hb3 HP2.out.lt)
  obtain ⟨k0, k1, _, _, _⟩ := line_facts (SR.call HL2.out hb3 HL2.out.lt)
  have hk := run_look w3 b (fns gl ge p q) 29 hM
  rw [look29] at hk
  simp only [Option.getD_some, Option.isSome_some] at hk
  have C := keepd (do40_any A l n c t m gl w3 HN.out (HR0.out.at_ HB3.out) hl ht h1 HM.out)
  clear hb3 hM h1 h2 h3 h4 CD
  go_wp2_with fail
  with_reducible refine C.out.mono ?_
  rintro e w4 ⟨⟨A2, c2, rfl, ho⟩, hb4⟩
  have HO := keepd ho
  have HB4 := keepd (HB3.out.trans (hb4.mono HB3.out.size))
  obtain ⟨m0, m1, m2, m3, lt⟩ := line_facts (SR.call HP3.out hb4 HP3.out.lt)
  have HLT := keepd HP3.out.lt
  clear hb4 ho hk C
  go_wp2_with fail
  refine bodyPost_ret (v := .tuple #[.agg #[.slice A2 m c2, .int .i64 (0 : Int)], .bool true]) (by simp [results, Tryd.results66, go_sem, m0, m1]) rfl ?_
  obtain ⟨q1, q2⟩ := gotn_end (z := (0 : Int)) HLT.out HO.out HB4.out
  exact ⟨⟨A2, c2, rfl, q1⟩, q2⟩

theorem look30 (g ge p q : Nat) : look (fns g ge p q) 30 = some (.func (.func 95) #[] #[.pointer (some ⟨g, 0, none⟩), .pointer (some ⟨ge, 0, none⟩)]) := rfl

set_option maxHeartbeats 1000000 in
theorem fn30_any (A : Option Addr) (l : List UInt8) (n c t m : Nat) (w : World) (hn : n = l.length) (hr : Rd w w.heap.size A l c) (hl : n ≤ 4096) (ht : t ≤ n) (hm : (l.take t ++ l.drop n).length = m) :
    Calls Tryd.prog 66 #[.agg #[.slice A n c, .int .i64 (t : Int)], .int .i64 30] w (GotD w (l.take t ++ l.drop n) m (t : Int) true) := by
  have HM := keepd hm
  have HN := keepd hn
  have HR0 := keepd hr
  clear hm
  clear hn hr
  go_enter Tryd.func66, Tryd.ntmps66
  go_upto_region 1 with fail
  generalize hV : (w.alloc (.cells #[.slice A n c, .int .i64 (t : Int)] 30)).alloc (.cells #[.slice none 0 0, .int .i64 0] 30) = V
  obtain ⟨H1, H2, HB⟩ := line_new2 _ _ _ _ _ _ hV
  obtain ⟨k0, k1, _, _, _⟩ := line_facts H1.out
  have CK := keepd (check_ok A n c t V hl ht)
  clear hV
  go_wp2_with fail
  with_reducible refine CK.out.mono ?_
  rintro e w2 ⟨rfl, hb2⟩
  have HB2 := keepd (HB.out.trans (hb2.mono HB.out.size))
  have HP2 := keepd (SR.call H2.out hb2 H2.out.lt)
  obtain ⟨k0, k1, _, _, _⟩ := line_facts (SR.call H1.out hb2 H1.out.lt)
  have HL2 := keepd (SR.call H1.out hb2 H1.out.lt)
  clear hb2 CK
  have CD := keepd (doings_any A l n c t w2 HN.out (HR0.out.at_ HB2.out) (by omega) ht)
  go_wp2_with fail
  with_reducible refine CD.out.mono ?_
  rintro e w3 ⟨b, gl, ge, p, q, rfl, hM, h1, h2, h3, h4, hb3⟩
  have HB3 := keepd (HB2.out.trans (hb3.mono HB2.out.size))
  have HP3 := keepd (SR.call HP2.out hb3 HP2.out.lt)
  obtain ⟨k0, k1, _, _, _⟩ := line_facts (SR.call HL2.out hb3 HL2.out.lt)
  have hk := run_look w3 b (fns gl ge p q) 30 hM
  rw [look30] at hk
  simp only [Option.getD_some, Option.isSome_some] at hk
  have C := keepd (do41_any A l n c t m gl ge w3 HN.out (HR0.out.at_ HB3.out) hl ht h1 h2 HM.out)
  clear hb3 hM h1 h2 h3 h4 CD
  go_wp2_with fail
  with_reducible refine C.out.mono ?_
  rintro e w4 ⟨⟨A2, c2, rfl, ho⟩, hb4⟩
  have HO := keepd ho
  have HB4 := keepd (HB3.out.trans (hb4.mono HB3.out.size))
  obtain ⟨m0, m1, m2, m3, lt⟩ := line_facts (SR.call HP3.out hb4 HP3.out.lt)
  have HLT := keepd HP3.out.lt
  clear hb4 ho hk C
  go_wp2_with fail
  refine bodyPost_ret (v := .tuple #[.agg #[.slice A2 m c2, .int .i64 (t : Int)], .bool true]) (by simp [results, Tryd.results66, go_sem, m0, m1]) rfl ?_
  obtain ⟨q1, q2⟩ := gotn_end (z := (t : Int)) HLT.out HO.out HB4.out
  exact ⟨⟨A2, c2, rfl, q1⟩, q2⟩

theorem look11 (g ge p q : Nat) : look (fns g ge p q) 11 = some (.func (.func 96) #[] #[.pointer (some ⟨g, 0, none⟩), .pointer (some ⟨ge, 0, none⟩)]) := rfl

set_option maxHeartbeats 1000000 in
theorem fn11_any (A : Option Addr) (l : List UInt8) (n c t m : Nat) (w : World) (hn : n = l.length) (hr : Rd w w.heap.size A l c) (hl : n ≤ 4096) (ht : t ≤ n) (hm : (l.take 0 ++ l.drop n).length = m) :
    Calls Tryd.prog 66 #[.agg #[.slice A n c, .int .i64 (t : Int)], .int .i64 11] w (GotD w (l.take 0 ++ l.drop n) m (0 : Int) true) := by
  have HM := keepd hm
  have HN := keepd hn
  have HR0 := keepd hr
  clear hm
  clear hn hr
  go_enter Tryd.func66, Tryd.ntmps66
  go_upto_region 1 with fail
  generalize hV : (w.alloc (.cells #[.slice A n c, .int .i64 (t : Int)] 30)).alloc (.cells #[.slice none 0 0, .int .i64 0] 30) = V
  obtain ⟨H1, H2, HB⟩ := line_new2 _ _ _ _ _ _ hV
  obtain ⟨k0, k1, _, _, _⟩ := line_facts H1.out
  have CK := keepd (check_ok A n c t V hl ht)
  clear hV
  go_wp2_with fail
  with_reducible refine CK.out.mono ?_
  rintro e w2 ⟨rfl, hb2⟩
  have HB2 := keepd (HB.out.trans (hb2.mono HB.out.size))
  have HP2 := keepd (SR.call H2.out hb2 H2.out.lt)
  obtain ⟨k0, k1, _, _, _⟩ := line_facts (SR.call H1.out hb2 H1.out.lt)
  have HL2 := keepd (SR.call H1.out hb2 H1.out.lt)
  clear hb2 CK
  have CD := keepd (doings_any A l n c t w2 HN.out (HR0.out.at_ HB2.out) (by omega) ht)
  go_wp2_with fail
  with_reducible refine CD.out.mono ?_
  rintro e w3 ⟨b, gl, ge, p, q, rfl, hM, h1, h2, h3, h4, hb3⟩
  have HB3 := keepd (HB2.out.trans (hb3.mono HB2.out.size))
  have HP3 := keepd (SR.call HP2.out hb3 HP2.out.lt)
  obtain ⟨k0, k1, _, _, _⟩ := line_facts (SR.call HL2.out hb3 HL2.out.lt)
  have hk := run_look w3 b (fns gl ge p q) 11 hM
  rw [look11] at hk
  simp only [Option.getD_some, Option.isSome_some] at hk
  have C := keepd (do42_any A l n c t m gl ge w3 HN.out (HR0.out.at_ HB3.out) hl ht h1 h2 HM.out)
  clear hb3 hM h1 h2 h3 h4 CD
  go_wp2_with fail
  with_reducible refine C.out.mono ?_
  rintro e w4 ⟨⟨A2, c2, rfl, ho⟩, hb4⟩
  have HO := keepd ho
  have HB4 := keepd (HB3.out.trans (hb4.mono HB3.out.size))
  obtain ⟨m0, m1, m2, m3, lt⟩ := line_facts (SR.call HP3.out hb4 HP3.out.lt)
  have HLT := keepd HP3.out.lt
  clear hb4 ho hk C
  go_wp2_with fail
  refine bodyPost_ret (v := .tuple #[.agg #[.slice A2 m c2, .int .i64 (0 : Int)], .bool true]) (by simp [results, Tryd.results66, go_sem, m0, m1]) rfl ?_
  obtain ⟨q1, q2⟩ := gotn_end (z := (0 : Int)) HLT.out HO.out HB4.out
  exact ⟨⟨A2, c2, rfl, q1⟩, q2⟩

theorem look19 (g ge p q : Nat) : look (fns g ge p q) 19 = some (.func (.func 97) #[] #[.pointer (some ⟨g, 0, none⟩), .pointer (some ⟨p, 0, none⟩)]) := rfl

set_option maxHeartbeats 1000000 in
theorem fn19_any (A : Option Addr) (l : List UInt8) (n c t m : Nat) (w : World) (hn : n = l.length) (hr : Rd w w.heap.size A l c) (hl : n ≤ 4096) (ht : t ≤ n) (hm : l.length = m) :
    Calls Tryd.prog 66 #[.agg #[.slice A n c, .int .i64 (t : Int)], .int .i64 19] w (GotD w l m ((t - 1 : Nat) : Int) true) := by
  have HM := keepd hm
  have HN := keepd hn
  have HR0 := keepd hr
  clear hm
  clear hn hr
  go_enter Tryd.func66, Tryd.ntmps66
  go_upto_region 1 with fail
  generalize hV : (w.alloc (.cells #[.slice A n c, .int .i64 (t : Int)] 30)).alloc (.cells #[.slice none 0 0, .int .i64 0] 30) = V
  obtain ⟨H1, H2, HB⟩ := line_new2 _ _ _ _ _ _ hV
  obtain ⟨k0, k1, _, _, _⟩ := line_facts H1.out
  have CK := keepd (check_ok A n c t V hl ht)
  clear hV
  go_wp2_with fail
  with_reducible refine CK.out.mono ?_
  rintro e w2 ⟨rfl, hb2⟩
  have HB2 := keepd (HB.out.trans (hb2.mono HB.out.size))
  have HP2 := keepd (SR.call H2.out hb2 H2.out.lt)
  obtain ⟨k0, k1, _, _, _⟩ := line_facts (SR.call H1.out hb2 H1.out.lt)
  have HL2 := keepd (SR.call H1.out hb2 H1.out.lt)
  clear hb2 CK
  have CD := keepd (doings_any A l n c t w2 HN.out (HR0.out.at_ HB2.out) (by omega) ht)
  go_wp2_with fail
  with_reducible refine CD.out.mono ?_
  rintro e w3 ⟨b, gl, ge, p, q, rfl, hM, h1, h2, h3, h4, hb3⟩
  have HB3 := keepd (HB2.out.trans (hb3.mono HB2.out.size))
  have HP3 := keepd (SR.call HP2.out hb3 HP2.out.lt)
  obtain ⟨k0, k1, _, _, _⟩ := line_facts (SR.call HL2.out hb3 HL2.out.lt)
  have hk := run_look w3 b (fns gl ge p q) 19 hM
  rw [look19] at hk
  simp only [Option.getD_some, Option.isSome_some] at hk
  have C := keepd (do43_any A l n c t m gl p w3 HN.out (HR0.out.at_ HB3.out) hl ht h1 h3 HM.out)
  clear hb3 hM h1 h2 h3 h4 CD
  go_wp2_with fail
  with_reducible refine C.out.mono ?_
  rintro e w4 ⟨⟨A2, c2, rfl, ho⟩, hb4⟩
  have HO := keepd ho
  have HB4 := keepd (HB3.out.trans (hb4.mono HB3.out.size))
  obtain ⟨m0, m1, m2, m3, lt⟩ := line_facts (SR.call HP3.out hb4 HP3.out.lt)
  have HLT := keepd HP3.out.lt
  clear hb4 ho hk C
  go_wp2_with fail
  refine bodyPost_ret (v := .tuple #[.agg #[.slice A2 m c2, .int .i64 ((t - 1 : Nat) : Int)], .bool true]) (by simp [results, Tryd.results66, go_sem, m0, m1]) rfl ?_
  obtain ⟨q1, q2⟩ := gotn_end (z := ((t - 1 : Nat) : Int)) HLT.out HO.out HB4.out
  exact ⟨⟨A2, c2, rfl, q1⟩, q2⟩

theorem look20 (g ge p q : Nat) : look (fns g ge p q) 20 = some (.func (.func 98) #[] #[.pointer (some ⟨g, 0, none⟩), .pointer (some ⟨q, 0, none⟩)]) := rfl

set_option maxHeartbeats 1000000 in
theorem fn20_any (A : Option Addr) (l : List UInt8) (n c t m : Nat) (w : World) (hn : n = l.length) (hr : Rd w w.heap.size A l c) (hl : n ≤ 4096) (ht : t ≤ n) (hm : l.length = m) :
    Calls Tryd.prog 66 #[.agg #[.slice A n c, .int .i64 (t : Int)], .int .i64 20] w (GotD w l m ((min (t + 1) n : Nat) : Int) true) := by
  have HM := keepd hm
  have HN := keepd hn
  have HR0 := keepd hr
  clear hm
  clear hn hr
  go_enter Tryd.func66, Tryd.ntmps66
  go_upto_region 1 with fail
  generalize hV : (w.alloc (.cells #[.slice A n c, .int .i64 (t : Int)] 30)).alloc (.cells #[.slice none 0 0, .int .i64 0] 30) = V
  obtain ⟨H1, H2, HB⟩ := line_new2 _ _ _ _ _ _ hV
  obtain ⟨k0, k1, _, _, _⟩ := line_facts H1.out
  have CK := keepd (check_ok A n c t V hl ht)
  clear hV
  go_wp2_with fail
  with_reducible refine CK.out.mono ?_
  rintro e w2 ⟨rfl, hb2⟩
  have HB2 := keepd (HB.out.trans (hb2.mono HB.out.size))
  have HP2 := keepd (SR.call H2.out hb2 H2.out.lt)
  obtain ⟨k0, k1, _, _, _⟩ := line_facts (SR.call H1.out hb2 H1.out.lt)
  have HL2 := keepd (SR.call H1.out hb2 H1.out.lt)
  clear hb2 CK
  have CD := keepd (doings_any A l n c t w2 HN.out (HR0.out.at_ HB2.out) (by omega) ht)
  go_wp2_with fail
  with_reducible refine CD.out.mono ?_
  rintro e w3 ⟨b, gl, ge, p, q, rfl, hM, h1, h2, h3, h4, hb3⟩
  have HB3 := keepd (HB2.out.trans (hb3.mono HB2.out.size))
  have HP3 := keepd (SR.call HP2.out hb3 HP2.out.lt)
  obtain ⟨k0, k1, _, _, _⟩ := line_facts (SR.call HL2.out hb3 HL2.out.lt)
  have hk := run_look w3 b (fns gl ge p q) 20 hM
  rw [look20] at hk
  simp only [Option.getD_some, Option.isSome_some] at hk
  have C := keepd (do44_any A l n c t m gl q w3 HN.out (HR0.out.at_ HB3.out) hl ht h1 h4 HM.out)
  clear hb3 hM h1 h2 h3 h4 CD
  go_wp2_with fail
  with_reducible refine C.out.mono ?_
  rintro e w4 ⟨⟨A2, c2, rfl, ho⟩, hb4⟩
  have HO := keepd ho
  have HB4 := keepd (HB3.out.trans (hb4.mono HB3.out.size))
  obtain ⟨m0, m1, m2, m3, lt⟩ := line_facts (SR.call HP3.out hb4 HP3.out.lt)
  have HLT := keepd HP3.out.lt
  clear hb4 ho hk C
  go_wp2_with fail
  refine bodyPost_ret (v := .tuple #[.agg #[.slice A2 m c2, .int .i64 ((min (t + 1) n : Nat) : Int)], .bool true]) (by simp [results, Tryd.results66, go_sem, m0, m1]) rfl ?_
  obtain ⟨q1, q2⟩ := gotn_end (z := ((min (t + 1) n : Nat) : Int)) HLT.out HO.out HB4.out
  exact ⟨⟨A2, c2, rfl, q1⟩, q2⟩

theorem look21 (g ge p q : Nat) : look (fns g ge p q) 21 = some (.func (.func 99) #[] #[.pointer (some ⟨g, 0, none⟩)]) := rfl

set_option maxHeartbeats 1000000 in
theorem fn21_any (A : Option Addr) (l : List UInt8) (n c t m : Nat) (w : World) (hn : n = l.length) (hr : Rd w w.heap.size A l c) (hl : n ≤ 4096) (ht : t ≤ n) (hm : l.length = m) :
    Calls Tryd.prog 66 #[.agg #[.slice A n c, .int .i64 (t : Int)], .int .i64 21] w (GotD w l m ((backL l t : Nat) : Int) true) := by
  have HM := keepd hm
  have HN := keepd hn
  have HR0 := keepd hr
  clear hm
  clear hn hr
  go_enter Tryd.func66, Tryd.ntmps66
  go_upto_region 1 with fail
  generalize hV : (w.alloc (.cells #[.slice A n c, .int .i64 (t : Int)] 30)).alloc (.cells #[.slice none 0 0, .int .i64 0] 30) = V
  obtain ⟨H1, H2, HB⟩ := line_new2 _ _ _ _ _ _ hV
  obtain ⟨k0, k1, _, _, _⟩ := line_facts H1.out
  have CK := keepd (check_ok A n c t V hl ht)
  clear hV
  go_wp2_with fail
  with_reducible refine CK.out.mono ?_
  rintro e w2 ⟨rfl, hb2⟩
  have HB2 := keepd (HB.out.trans (hb2.mono HB.out.size))
  have HP2 := keepd (SR.call H2.out hb2 H2.out.lt)
  obtain ⟨k0, k1, _, _, _⟩ := line_facts (SR.call H1.out hb2 H1.out.lt)
  have HL2 := keepd (SR.call H1.out hb2 H1.out.lt)
  clear hb2 CK
  have CD := keepd (doings_any A l n c t w2 HN.out (HR0.out.at_ HB2.out) (by omega) ht)
  go_wp2_with fail
  with_reducible refine CD.out.mono ?_
  rintro e w3 ⟨b, gl, ge, p, q, rfl, hM, h1, h2, h3, h4, hb3⟩
  have HB3 := keepd (HB2.out.trans (hb3.mono HB2.out.size))
  have HP3 := keepd (SR.call HP2.out hb3 HP2.out.lt)
  obtain ⟨k0, k1, _, _, _⟩ := line_facts (SR.call HL2.out hb3 HL2.out.lt)
  have hk := run_look w3 b (fns gl ge p q) 21 hM
  rw [look21] at hk
  simp only [Option.getD_some, Option.isSome_some] at hk
  have C := keepd (do45_any A l n c t _ m gl w3 HN.out (HR0.out.at_ HB3.out) hl ht h1 rfl HM.out)
  clear hb3 hM h1 h2 h3 h4 CD
  go_wp2_with fail
  with_reducible refine C.out.mono ?_
  rintro e w4 ⟨⟨A2, c2, rfl, ho⟩, hb4⟩
  have HO := keepd ho
  have HB4 := keepd (HB3.out.trans (hb4.mono HB3.out.size))
  obtain ⟨m0, m1, m2, m3, lt⟩ := line_facts (SR.call HP3.out hb4 HP3.out.lt)
  have HLT := keepd HP3.out.lt
  clear hb4 ho hk C
  go_wp2_with fail
  refine bodyPost_ret (v := .tuple #[.agg #[.slice A2 m c2, .int .i64 ((backL l t : Nat) : Int)], .bool true]) (by simp [results, Tryd.results66, go_sem, m0, m1]) rfl ?_
  obtain ⟨q1, q2⟩ := gotn_end (z := ((backL l t : Nat) : Int)) HLT.out HO.out HB4.out
  exact ⟨⟨A2, c2, rfl, q1⟩, q2⟩

theorem look22 (g ge p q : Nat) : look (fns g ge p q) 22 = some (.func (.func 100) #[] #[.pointer (some ⟨g, 0, none⟩)]) := rfl

set_option maxHeartbeats 1000000 in
theorem fn22_any (A : Option Addr) (l : List UInt8) (n c t m : Nat) (w : World) (hn : n = l.length) (hr : Rd w w.heap.size A l c) (hl : n ≤ 4096) (ht : t ≤ n) (hm : l.length = m) :
    Calls Tryd.prog 66 #[.agg #[.slice A n c, .int .i64 (t : Int)], .int .i64 22] w (GotD w l m ((onL l t : Nat) : Int) true) := by
  have HM := keepd hm
  have HN := keepd hn
  have HR0 := keepd hr
  clear hm
  clear hn hr
  go_enter Tryd.func66, Tryd.ntmps66
  go_upto_region 1 with fail
  generalize hV : (w.alloc (.cells #[.slice A n c, .int .i64 (t : Int)] 30)).alloc (.cells #[.slice none 0 0, .int .i64 0] 30) = V
  obtain ⟨H1, H2, HB⟩ := line_new2 _ _ _ _ _ _ hV
  obtain ⟨k0, k1, _, _, _⟩ := line_facts H1.out
  have CK := keepd (check_ok A n c t V hl ht)
  clear hV
  go_wp2_with fail
  with_reducible refine CK.out.mono ?_
  rintro e w2 ⟨rfl, hb2⟩
  have HB2 := keepd (HB.out.trans (hb2.mono HB.out.size))
  have HP2 := keepd (SR.call H2.out hb2 H2.out.lt)
  obtain ⟨k0, k1, _, _, _⟩ := line_facts (SR.call H1.out hb2 H1.out.lt)
  have HL2 := keepd (SR.call H1.out hb2 H1.out.lt)
  clear hb2 CK
  have CD := keepd (doings_any A l n c t w2 HN.out (HR0.out.at_ HB2.out) (by omega) ht)
  go_wp2_with fail
  with_reducible refine CD.out.mono ?_
  rintro e w3 ⟨b, gl, ge, p, q, rfl, hM, h1, h2, h3, h4, hb3⟩
  have HB3 := keepd (HB2.out.trans (hb3.mono HB2.out.size))
  have HP3 := keepd (SR.call HP2.out hb3 HP2.out.lt)
  obtain ⟨k0, k1, _, _, _⟩ := line_facts (SR.call HL2.out hb3 HL2.out.lt)
  have hk := run_look w3 b (fns gl ge p q) 22 hM
  rw [look22] at hk
  simp only [Option.getD_some, Option.isSome_some] at hk
  have C := keepd (do46_any A l n c t _ m gl w3 HN.out (HR0.out.at_ HB3.out) hl ht h1 rfl HM.out)
  clear hb3 hM h1 h2 h3 h4 CD
  go_wp2_with fail
  with_reducible refine C.out.mono ?_
  rintro e w4 ⟨⟨A2, c2, rfl, ho⟩, hb4⟩
  have HO := keepd ho
  have HB4 := keepd (HB3.out.trans (hb4.mono HB3.out.size))
  obtain ⟨m0, m1, m2, m3, lt⟩ := line_facts (SR.call HP3.out hb4 HP3.out.lt)
  have HLT := keepd HP3.out.lt
  clear hb4 ho hk C
  go_wp2_with fail
  refine bodyPost_ret (v := .tuple #[.agg #[.slice A2 m c2, .int .i64 ((onL l t : Nat) : Int)], .bool true]) (by simp [results, Tryd.results66, go_sem, m0, m1]) rfl ?_
  obtain ⟨q1, q2⟩ := gotn_end (z := ((onL l t : Nat) : Int)) HLT.out HO.out HB4.out
  exact ⟨⟨A2, c2, rfl, q1⟩, q2⟩

theorem look23 (g ge p q : Nat) : look (fns g ge p q) 23 = some (.func (.func 101) #[] #[.pointer (some ⟨g, 0, none⟩)]) := rfl

set_option maxHeartbeats 1000000 in
theorem fn23_any (A : Option Addr) (l : List UInt8) (n c t m : Nat) (w : World) (hn : n = l.length) (hr : Rd w w.heap.size A l c) (hl : n ≤ 4096) (ht : t ≤ n) (hm : l.length = m) :
    Calls Tryd.prog 66 #[.agg #[.slice A n c, .int .i64 (t : Int)], .int .i64 23] w (GotD w l m (0 : Int) true) := by
  have HM := keepd hm
  have HN := keepd hn
  have HR0 := keepd hr
  clear hm
  clear hn hr
  go_enter Tryd.func66, Tryd.ntmps66
  go_upto_region 1 with fail
  generalize hV : (w.alloc (.cells #[.slice A n c, .int .i64 (t : Int)] 30)).alloc (.cells #[.slice none 0 0, .int .i64 0] 30) = V
  obtain ⟨H1, H2, HB⟩ := line_new2 _ _ _ _ _ _ hV
  obtain ⟨k0, k1, _, _, _⟩ := line_facts H1.out
  have CK := keepd (check_ok A n c t V hl ht)
  clear hV
  go_wp2_with fail
  with_reducible refine CK.out.mono ?_
  rintro e w2 ⟨rfl, hb2⟩
  have HB2 := keepd (HB.out.trans (hb2.mono HB.out.size))
  have HP2 := keepd (SR.call H2.out hb2 H2.out.lt)
  obtain ⟨k0, k1, _, _, _⟩ := line_facts (SR.call H1.out hb2 H1.out.lt)
  have HL2 := keepd (SR.call H1.out hb2 H1.out.lt)
  clear hb2 CK
  have CD := keepd (doings_any A l n c t w2 HN.out (HR0.out.at_ HB2.out) (by omega) ht)
  go_wp2_with fail
  with_reducible refine CD.out.mono ?_
  rintro e w3 ⟨b, gl, ge, p, q, rfl, hM, h1, h2, h3, h4, hb3⟩
  have HB3 := keepd (HB2.out.trans (hb3.mono HB2.out.size))
  have HP3 := keepd (SR.call HP2.out hb3 HP2.out.lt)
  obtain ⟨k0, k1, _, _, _⟩ := line_facts (SR.call HL2.out hb3 HL2.out.lt)
  have hk := run_look w3 b (fns gl ge p q) 23 hM
  rw [look23] at hk
  simp only [Option.getD_some, Option.isSome_some] at hk
  have C := keepd (do47_any A l n c t m gl w3 HN.out (HR0.out.at_ HB3.out) hl ht h1 HM.out)
  clear hb3 hM h1 h2 h3 h4 CD
  go_wp2_with fail
  with_reducible refine C.out.mono ?_
  rintro e w4 ⟨⟨A2, c2, rfl, ho⟩, hb4⟩
  have HO := keepd ho
  have HB4 := keepd (HB3.out.trans (hb4.mono HB3.out.size))
  obtain ⟨m0, m1, m2, m3, lt⟩ := line_facts (SR.call HP3.out hb4 HP3.out.lt)
  have HLT := keepd HP3.out.lt
  clear hb4 ho hk C
  go_wp2_with fail
  refine bodyPost_ret (v := .tuple #[.agg #[.slice A2 m c2, .int .i64 (0 : Int)], .bool true]) (by simp [results, Tryd.results66, go_sem, m0, m1]) rfl ?_
  obtain ⟨q1, q2⟩ := gotn_end (z := (0 : Int)) HLT.out HO.out HB4.out
  exact ⟨⟨A2, c2, rfl, q1⟩, q2⟩

theorem look24 (g ge p q : Nat) : look (fns g ge p q) 24 = some (.func (.func 102) #[] #[.pointer (some ⟨g, 0, none⟩), .pointer (some ⟨ge, 0, none⟩)]) := rfl

set_option maxHeartbeats 1000000 in
theorem fn24_any (A : Option Addr) (l : List UInt8) (n c t m : Nat) (w : World) (hn : n = l.length) (hr : Rd w w.heap.size A l c) (hl : n ≤ 4096) (ht : t ≤ n) (hm : l.length = m) :
    Calls Tryd.prog 66 #[.agg #[.slice A n c, .int .i64 (t : Int)], .int .i64 24] w (GotD w l m (n : Int) true) := by
  have HM := keepd hm
  have HN := keepd hn
  have HR0 := keepd hr
  clear hm
  clear hn hr
  go_enter Tryd.func66, Tryd.ntmps66
  go_upto_region 1 with fail
  generalize hV : (w.alloc (.cells #[.slice A n c, .int .i64 (t : Int)] 30)).alloc (.cells #[.slice none 0 0, .int .i64 0] 30) = V
  obtain ⟨H1, H2, HB⟩ := line_new2 _ _ _ _ _ _ hV
  obtain ⟨k0, k1, _, _, _⟩ := line_facts H1.out
  have CK := keepd (check_ok A n c t V hl ht)
  clear hV
  go_wp2_with fail
  with_reducible refine CK.out.mono ?_
  rintro e w2 ⟨rfl, hb2⟩
  have HB2 := keepd (HB.out.trans (hb2.mono HB.out.size))
  have HP2 := keepd (SR.call H2.out hb2 H2.out.lt)
  obtain ⟨k0, k1, _, _, _⟩ := line_facts (SR.call H1.out hb2 H1.out.lt)
  have HL2 := keepd (SR.call H1.out hb2 H1.out.lt)
  clear hb2 CK
  have CD := keepd (doings_any A l n c t w2 HN.out (HR0.out.at_ HB2.out) (by omega) ht)
  go_wp2_with fail
  with_reducible refine CD.out.mono ?_
  rintro e w3 ⟨b, gl, ge, p, q, rfl, hM, h1, h2, h3, h4, hb3⟩
  have HB3 := keepd (HB2.out.trans (hb3.mono HB2.out.size))
  have HP3 := keepd (SR.call HP2.out hb3 HP2.out.lt)
  obtain ⟨k0, k1, _, _, _⟩ := line_facts (SR.call HL2.out hb3 HL2.out.lt)
  have hk := run_look w3 b (fns gl ge p q) 24 hM
  rw [look24] at hk
  simp only [Option.getD_some, Option.isSome_some] at hk
  have C := keepd (do48_any A l n c t m gl ge w3 HN.out (HR0.out.at_ HB3.out) hl ht h1 h2 HM.out)
  clear hb3 hM h1 h2 h3 h4 CD
  go_wp2_with fail
  with_reducible refine C.out.mono ?_
  rintro e w4 ⟨⟨A2, c2, rfl, ho⟩, hb4⟩
  have HO := keepd ho
  have HB4 := keepd (HB3.out.trans (hb4.mono HB3.out.size))
  obtain ⟨m0, m1, m2, m3, lt⟩ := line_facts (SR.call HP3.out hb4 HP3.out.lt)
  have HLT := keepd HP3.out.lt
  clear hb4 ho hk C
  go_wp2_with fail
  refine bodyPost_ret (v := .tuple #[.agg #[.slice A2 m c2, .int .i64 (n : Int)], .bool true]) (by simp [results, Tryd.results66, go_sem, m0, m1]) rfl ?_
  obtain ⟨q1, q2⟩ := gotn_end (z := (n : Int)) HLT.out HO.out HB4.out
  exact ⟨⟨A2, c2, rfl, q1⟩, q2⟩

set_option maxHeartbeats 1000000 in
theorem do_none (A : Option Addr) (l : List UInt8) (n c t : Nat) (f : Int) (w : World) (hn : n = l.length) (hr : Rd w w.heap.size A l c) (hl : n ≤ 4096) (ht : t ≤ n) (hf : doL l t f = none) :
    Calls Tryd.prog 66 #[.agg #[.slice A n c, .int .i64 (t : Int)], .int .i64 f] w (GotD w l n (t : Int) false) := by
  have HF := keepd fun g ge p q => look_none (g := g) (ge := ge) (p := p) (q := q) hf
  have HN := keepd hn
  have HR0 := keepd hr
  clear hf
  clear hn hr
  go_enter Tryd.func66, Tryd.ntmps66
  go_upto_region 1 with fail
  generalize hV : (w.alloc (.cells #[.slice A n c, .int .i64 (t : Int)] 30)).alloc (.cells #[.slice none 0 0, .int .i64 0] 30) = V
  obtain ⟨H1, H2, HB⟩ := line_new2 _ _ _ _ _ _ hV
  obtain ⟨k0, k1, _, _, _⟩ := line_facts H1.out
  have CK := keepd (check_ok A n c t V hl ht)
  clear hV
  go_wp2_with fail
  with_reducible refine CK.out.mono ?_
  rintro e w2 ⟨rfl, hb2⟩
  have HB2 := keepd (HB.out.trans (hb2.mono HB.out.size))
  have HP2 := keepd (SR.call H2.out hb2 H2.out.lt)
  obtain ⟨k0, k1, _, _, _⟩ := line_facts (SR.call H1.out hb2 H1.out.lt)
  have HL2 := keepd (SR.call H1.out hb2 H1.out.lt)
  clear hb2 CK
  have CD := keepd (doings_any A l n c t w2 HN.out (HR0.out.at_ HB2.out) (by omega) ht)
  go_wp2_with fail
  with_reducible refine CD.out.mono ?_
  rintro e w3 ⟨b, gl, ge, p, q, rfl, hM, h1, h2, h3, h4, hb3⟩
  have HB3 := keepd (HB2.out.trans (hb3.mono HB2.out.size))
  have HP3 := keepd (SR.call HP2.out hb3 HP2.out.lt)
  obtain ⟨k0, k1, _, _, _⟩ := line_facts (SR.call HL2.out hb3 HL2.out.lt)
  have hk := run_look w3 b (fns gl ge p q) f hM
  rw [HF.out] at hk
  simp only [Option.getD_none, Option.isSome_none] at hk
  have C := keepd (anew_any A l n c (t : Int) w3 HN.out (HR0.out.at_ HB3.out) (by omega))
  clear hb3 hM h1 h2 h3 h4 CD
  go_wp2_with fail
  with_reducible refine C.out.mono ?_
  rintro e w4 ⟨⟨A2, c2, rfl, ho⟩, hb4⟩
  have HO := keepd ho
  have HB4 := keepd (HB3.out.trans (hb4.mono HB3.out.size))
  obtain ⟨m0, m1, m2, m3, lt⟩ := line_facts (SR.call HP3.out hb4 HP3.out.lt)
  have HLT := keepd HP3.out.lt
  clear hb4 ho hk C
  go_wp2_with fail
  refine bodyPost_ret (v := .tuple #[.agg #[.slice A2 n c2, .int .i64 (t : Int)], .bool false]) (by simp [results, Tryd.results66, go_sem, m0, m1]) rfl ?_
  obtain ⟨q1, q2⟩ := gotn_end (z := (t : Int)) HLT.out HO.out HB4.out
  exact ⟨⟨A2, c2, rfl, q1⟩, q2⟩

set_option maxHeartbeats 1000000 in
theorem do_bad (A : Option Addr) (l : List UInt8) (n c : Nat) (z f : Int) (w : World) (hn : n = l.length) (hr : Rd w w.heap.size A l c) (hl : n ≤ 100000) (hm : mayV n z = false) :
    Calls Tryd.prog 66 #[.agg #[.slice A n c, .int .i64 z], .int .i64 f] w (GotD w l n z false) := by
  have HN := keepd hn
  have HR0 := keepd hr
  clear hn hr
  go_enter Tryd.func66, Tryd.ntmps66
  go_upto_region 1 with fail
  generalize hV : (w.alloc (.cells #[.slice A n c, .int .i64 z] 30)).alloc (.cells #[.slice none 0 0, .int .i64 0] 30) = V
  obtain ⟨H1, H2, HB⟩ := line_new2 _ _ _ _ _ _ hV
  obtain ⟨k0, k1, _, _, _⟩ := line_facts H1.out
  have CK := keepd (check_bad A n c z V hm)
  clear hV
  go_wp2_with fail
  with_reducible refine CK.out.mono ?_
  rintro e w2 ⟨rfl, hb2⟩
  have HB2 := keepd (HB.out.trans (hb2.mono HB.out.size))
  have HP2 := keepd (SR.call H2.out hb2 H2.out.lt)
  obtain ⟨k0, k1, _, _, _⟩ := line_facts (SR.call H1.out hb2 H1.out.lt)
  have HL2 := keepd (SR.call H1.out hb2 H1.out.lt)
  clear hb2 CK
  have C := keepd (anew_any A l n c z w2 HN.out (HR0.out.at_ HB2.out) (by omega))
  have HB3 := HB2
  have HP3 := HP2
  go_wp2_with fail
  with_reducible refine C.out.mono ?_
  rintro e w4 ⟨⟨A2, c2, rfl, ho⟩, hb4⟩
  have HO := keepd ho
  have HB4 := keepd (HB3.out.trans (hb4.mono HB3.out.size))
  obtain ⟨m0, m1, m2, m3, lt⟩ := line_facts (SR.call HP3.out hb4 HP3.out.lt)
  have HLT := keepd HP3.out.lt
  clear hb4 ho C
  go_wp2_with fail
  refine bodyPost_ret (v := .tuple #[.agg #[.slice A2 n c2, .int .i64 z], .bool false]) (by simp [results, Tryd.results66, go_sem, m0, m1]) rfl ?_
  obtain ⟨q1, q2⟩ := gotn_end (z := z) HLT.out HO.out HB4.out
  exact ⟨⟨A2, c2, rfl, q1⟩, q2⟩

theorem do_any (A : Option Addr) (l L : List UInt8) (n c t s m : Nat) (f : Int) (w : World) (hn : n = l.length) (hr : Rd w w.heap.size A l c) (hl : n ≤ 4096) (ht : t ≤ n) (hf : doL l t f = some (L, s)) (hm : L.length = m) :
    Calls Tryd.prog 66 #[.agg #[.slice A n c, .int .i64 (t : Int)], .int .i64 f] w (GotD w L m (s : Int) true) := by
  unfold doL at hf
  rw [← hn] at hf
  by_cases h9 : f = 10
  · rw [if_pos h9] at hf
    simp only [Option.some.injEq, Prod.mk.injEq] at hf
    obtain ⟨rfl, rfl⟩ := hf
    subst h9
    subst hm
    exact fn10_any A l n c t _ w hn hr hl ht rfl
  rw [if_neg h9] at hf
  clear h9
  by_cases h9 : f = 27
  · rw [if_pos h9] at hf
    simp only [Option.some.injEq, Prod.mk.injEq] at hf
    obtain ⟨rfl, rfl⟩ := hf
    subst h9
    subst hm
    exact fn27_any A l n c t _ w hn hr hl ht rfl
  rw [if_neg h9] at hf
  clear h9
  by_cases h9 : f = 12
  · rw [if_pos h9] at hf
    simp only [Option.some.injEq, Prod.mk.injEq] at hf
    obtain ⟨rfl, rfl⟩ := hf
    subst h9
    subst hm
    exact fn12_any A l n c t _ w hn hr hl ht rfl
  rw [if_neg h9] at hf
  clear h9
  by_cases h9 : f = 28
  · rw [if_pos h9] at hf
    simp only [Option.some.injEq, Prod.mk.injEq] at hf
    obtain ⟨rfl, rfl⟩ := hf
    subst h9
    subst hm
    exact fn28_any A l n c t _ w hn hr hl ht rfl
  rw [if_neg h9] at hf
  clear h9
  by_cases h9 : f = 29
  · rw [if_pos h9] at hf
    simp only [Option.some.injEq, Prod.mk.injEq] at hf
    obtain ⟨rfl, rfl⟩ := hf
    subst h9
    subst hm
    have hz := fn29_any A l n c t (l.drop t).length w hn hr hl ht (by simp)
    rw [List.take_zero, List.nil_append] at hz
    exact hz
  rw [if_neg h9] at hf
  clear h9
  by_cases h9 : f = 30
  · rw [if_pos h9] at hf
    simp only [Option.some.injEq, Prod.mk.injEq] at hf
    obtain ⟨rfl, rfl⟩ := hf
    subst h9
    subst hm
    have hz := fn30_any A l n c t (l.take t).length w hn hr hl ht (by simp [hn])
    rw [hn, List.drop_length, List.append_nil] at hz
    exact hn ▸ hz
  rw [if_neg h9] at hf
  clear h9
  by_cases h9 : f = 11
  · rw [if_pos h9] at hf
    simp only [Option.some.injEq, Prod.mk.injEq] at hf
    obtain ⟨rfl, rfl⟩ := hf
    subst h9
    subst hm
    have hz := fn11_any A l n c t 0 w hn hr hl ht (by simp [hn])
    rw [hn, List.drop_length, List.take_zero, List.append_nil] at hz
    exact hn ▸ hz
  rw [if_neg h9] at hf
  clear h9
  by_cases h9 : f = 19
  · rw [if_pos h9] at hf
    simp only [Option.some.injEq, Prod.mk.injEq] at hf
    obtain ⟨rfl, rfl⟩ := hf
    subst h9
    subst hm
    rw [← hn]
    exact fn19_any A l n c t n w hn hr hl ht hn.symm
  rw [if_neg h9] at hf
  clear h9
  by_cases h9 : f = 20
  · rw [if_pos h9] at hf
    simp only [Option.some.injEq, Prod.mk.injEq] at hf
    obtain ⟨rfl, rfl⟩ := hf
    subst h9
    subst hm
    rw [← hn]
    exact fn20_any A l n c t n w hn hr hl ht hn.symm
  rw [if_neg h9] at hf
  clear h9
  by_cases h9 : f = 21
  · rw [if_pos h9] at hf
    simp only [Option.some.injEq, Prod.mk.injEq] at hf
    obtain ⟨rfl, rfl⟩ := hf
    subst h9
    subst hm
    rw [← hn]
    exact fn21_any A l n c t n w hn hr hl ht hn.symm
  rw [if_neg h9] at hf
  clear h9
  by_cases h9 : f = 22
  · rw [if_pos h9] at hf
    simp only [Option.some.injEq, Prod.mk.injEq] at hf
    obtain ⟨rfl, rfl⟩ := hf
    subst h9
    subst hm
    rw [← hn]
    exact fn22_any A l n c t n w hn hr hl ht hn.symm
  rw [if_neg h9] at hf
  clear h9
  by_cases h9 : f = 23
  · rw [if_pos h9] at hf
    simp only [Option.some.injEq, Prod.mk.injEq] at hf
    obtain ⟨rfl, rfl⟩ := hf
    subst h9
    subst hm
    rw [← hn]
    exact fn23_any A l n c t n w hn hr hl ht hn.symm
  rw [if_neg h9] at hf
  clear h9
  by_cases h9 : f = 24
  · rw [if_pos h9] at hf
    simp only [Option.some.injEq, Prod.mk.injEq] at hf
    obtain ⟨rfl, rfl⟩ := hf
    subst h9
    subst hm
    rw [← hn]
    exact fn24_any A l n c t n w hn hr hl ht hn.symm
  rw [if_neg h9] at hf
  clear h9
  cases hf

end Go.Proofs.YtlfmbfecajhffaaDoor
