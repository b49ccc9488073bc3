/-
  Several texts in one: R3 R4. No conditions beyond those each theorem states.
-/
import Derived.Test.YtlfmbfecajhffaaDoorA13
/-
  The document's own Do, function by function. No conditions beyond those each theorem states.
-/
namespace Go.Proofs.YtlfmbfecajhffaaDoor
open Go.RowKit
set_option maxRecDepth 100000

theorem nil_of {w : World} {LL : List UInt8} {m : Nat} {A A' : Option Addr} {n c c' : Nat} (h : Calls Tryd.prog 76 #[.slice A 0 c, .slice A' n c'] w (GotN w LL m ((0 : Nat) : Int))) : Calls Tryd.prog 76 #[.slice A 0 c, .slice A' n c'] w (GotN w LL m 0) := h

set_option maxHeartbeats 4000000 in
theorem rdo10 (A : Option Addr) (l LL : List UInt8) (n c t m : Nat) (w : World) (hn : n = l.length) (hr : Rd w w.heap.size A l c) (hl : n ≤ 4096) (ht : t ≤ n) (hLL : l.take (t - 1) ++ l.drop t = LL) (hm : LL.length = m) :
    Calls Tryd.prog 60 #[.agg #[.slice A n c, .int .i64 (t : Int)], .int .i64 10] w (GotRZ w LL m ((t - 1 : Nat) : Int) true) := by
  have HLL := keepd hLL
  have HM := keepd hm
  have HN := keepd hn
  have HR0 := keepd hr
  obtain ⟨xt, hxt⟩ : ∃ xt, l.take t = xt := ⟨_, rfl⟩
  have HXT : Hid (t = xt.length) := by show _ = _; rw [← hxt, List.length_take]; omega
  have HXR : Hid (Rd w w.heap.size A xt c) := hxt ▸ hr.take t
  obtain ⟨A2, k, d, hk, hr2, hsl⟩ := tail_of hn hr ht
  have hkn : k = n - t := by rw [hk, List.length_drop, hn]
  have hk4 : k ≤ 100000 := by omega
  have hc1 : n ≤ c := by rw [hn]; exact hr.1
  have hc2 := hr.2.1
  unfold maxLen at hc2
  have s0 : (t : Int) ≤ c := by omega
  have s1 : t ≤ c := by omega
  have s2 : (0 : Int) ≤ (t : Int) := by omega
  have s3 : (t : Int) ≤ (n : Int) := by omega
  have HK := keepd hk
  have HR2 := keepd hr2
  have HXE := keepd hxt
  have w0 : IntKind.i64.wrap ((t : Int) - 1) = (t : Int) - 1 := by rw [IntKind.wrap_i64]; omega
  obtain ⟨q, hq⟩ : ∃ q : Nat, t - 1 = q := ⟨_, rfl⟩
  have hx : (if (t : Int) - 1 < 0 then (0 : Int) else (t : Int) - 1) = (q : Int) := by split <;> omega
  have hqt : q ≤ t := by omega
  have hq1 : q ≤ c := by omega
  have hq2 : (q : Int) ≤ (c : Int) := by omega
  have hq3 : (0 : Int) ≤ (q : Int) := by omega
  rw [hq]
  have HQL : Hid (l.take q ++ l.drop t = LL) := by show _ = _; rw [← hq]; exact hLL
  clear hLL hm
  clear hn hr hr2 hk hxt hkn
  go_enter Tryd.func60, Tryd.ntmps60
  go_upto_region 1 with fail
  generalize hV : (w.alloc (.cells #[.slice A n c, .int .i64 (t : Int)] 30)).alloc (.cells #[.slice none 0 0, .int .i64 0] 30) = V0
  obtain ⟨H1, H2, HB⟩ := line_new2 _ _ _ _ _ _ hV
  obtain ⟨g0, g1⟩ := H1.out.gr
  clear hV
  refine wp_region_gr (by kernel_rfl) (by kernel_rfl) ?_
  repeat
    refine wpQuiet_step (fun K hK => ?_)
    first
      | (refine gr_want (by rfl) ?_
         go_simp
         first
           | (refine hK _ ?_; clear hK K)
           | (apply Exists.intro
              refine ⟨fun _ => ?_, hK _ ?_⟩
              (fail)
              clear hK K))
      | (refine gr_skip (by rfl) ?_
         go_simp
         refine hK _ ?_
         clear hK K)
  refine wpQuiet_nil ?_
  intro y9
  have HB2 := keepd (bCall HB.out y9.h)
  have H1b := keepd (SR.call H1.out y9.h H1.out.lt)
  have H2b := keepd (SR.call H2.out y9.h H2.out.lt)
  obtain ⟨V, hw3⟩ : ∃ V, y9.W = V := ⟨_, rfl⟩
  rw [hw3] at HB2 H1b H2b
  rw [hw3]
  clear hw3 g0 g1 H1 H2 HB hsl
  obtain ⟨k0, k1, _, _, _⟩ := line_facts H1b.out
  have HLT := keepd H2b.out.lt
  have CF := keepd fun (W : World) (hb : Below V.heap.size V W) => HQL.out ▸ of_any A A2 (l.take q) (l.drop t) q k c d m W (by rw [List.length_take, ← HN.out]; omega) HK.out (((HR0.out.take q).at_ HB2.out).at_ hb) ((HR2.out.at_ HB2.out).at_ hb) (by omega) hk4 (by rw [HQL.out]; exact HM.out)
  clear hq hqt
  go_wp2_with fail
  with_reducible refine (CF.out _ (Below.refl _ _)).mono ?_
  rintro e w4 ⟨⟨A4, c4, rfl, ho⟩, hb4⟩
  have HO4 := keepd ho
  have HB4 := keepd (bCall HB2.out hb4)
  have HLT4 : w.heap.size + 1 < V.heap.size := HLT.out
  obtain ⟨m0, m1, m2, m3, lt⟩ := line_facts (SR.call H2b.out hb4 HLT.out)
  clear ho hb4
  go_wp2_with fail
  refine bodyPost_ret (v := .tuple #[.agg #[.slice A4 m c4, .int .i64 (q : Int)], .bool true]) (by simp [results, Tryd.results60, go_sem, m0, m1]) rfl ?_
  obtain ⟨q1, q2⟩ := gotn_end (z := (q : Int)) HLT4 HO4.out HB4.out
  exact ⟨⟨A4, c4, rfl, q1.rdOf⟩, q2⟩

set_option maxHeartbeats 4000000 in
theorem rdo11 (A : Option Addr) (l : List UInt8) (n c t : Nat) (w : World) (hn : n = l.length) (hr : Rd w w.heap.size A l c) (hl : n ≤ 4096) (ht : t ≤ n) :
    Calls Tryd.prog 60 #[.agg #[.slice A n c, .int .i64 (t : Int)], .int .i64 11] w (GotRZ w [] 0 0 true) := by
  have HN := keepd hn
  have HR0 := keepd hr
  obtain ⟨xt, hxt⟩ : ∃ xt, l.take t = xt := ⟨_, rfl⟩
  have HXT : Hid (t = xt.length) := by show _ = _; rw [← hxt, List.length_take]; omega
  have HXR : Hid (Rd w w.heap.size A xt c) := hxt ▸ hr.take t
  obtain ⟨A2, k, d, hk, hr2, hsl⟩ := tail_of hn hr ht
  have hkn : k = n - t := by rw [hk, List.length_drop, hn]
  have hk4 : k ≤ 100000 := by omega
  have hc1 : n ≤ c := by rw [hn]; exact hr.1
  have hc2 := hr.2.1
  unfold maxLen at hc2
  have s0 : (t : Int) ≤ c := by omega
  have s1 : t ≤ c := by omega
  have s2 : (0 : Int) ≤ (t : Int) := by omega
  have s3 : (t : Int) ≤ (n : Int) := by omega
  have HK := keepd hk
  have HR2 := keepd hr2
  have HXE := keepd hxt
  clear hn hr hr2 hk hxt hkn
  go_enter Tryd.func60, Tryd.ntmps60
  go_upto_region 1 with fail
  generalize hV : (w.alloc (.cells #[.slice A n c, .int .i64 (t : Int)] 30)).alloc (.cells #[.slice none 0 0, .int .i64 0] 30) = V0
  obtain ⟨H1, H2, HB⟩ := line_new2 _ _ _ _ _ _ hV
  obtain ⟨g0, g1⟩ := H1.out.gr
  clear hV
  refine wp_region_gr (by kernel_rfl) (by kernel_rfl) ?_
  repeat
    refine wpQuiet_step (fun K hK => ?_)
    first
      | (refine gr_want (by rfl) ?_
         go_simp
         first
           | (refine hK _ ?_; clear hK K)
           | (apply Exists.intro
              refine ⟨fun _ => ?_, hK _ ?_⟩
              (fail)
              clear hK K))
      | (refine gr_skip (by rfl) ?_
         go_simp
         refine hK _ ?_
         clear hK K)
  refine wpQuiet_nil ?_
  intro y9
  have HB2 := keepd (bCall HB.out y9.h)
  have H1b := keepd (SR.call H1.out y9.h H1.out.lt)
  have H2b := keepd (SR.call H2.out y9.h H2.out.lt)
  obtain ⟨V, hw3⟩ : ∃ V, y9.W = V := ⟨_, rfl⟩
  rw [hw3] at HB2 H1b H2b
  rw [hw3]
  clear hw3 g0 g1 H1 H2 HB hsl
  obtain ⟨k0, k1, _, _, _⟩ := line_facts H1b.out
  have HLT := keepd H2b.out.lt
  obtain ⟨m0, m1, m2, m3, lt⟩ := line_facts H2b.out
  go_wp2_with fail
  refine bodyPost_ret (v := .tuple #[.agg #[.slice none 0 0, .int .i64 0], .bool true]) (by simp [results, Tryd.results60, go_sem, m0, m1]) rfl ?_
  have hb := set2_below HB2.out (Nat.le_succ w.heap.size) (.slice none 0 0) (.int .i64 0)
  exact ⟨⟨none, 0, rfl, Rd.nil _ _⟩, hb⟩

set_option maxHeartbeats 4000000 in
theorem rdo12 (A : Option Addr) (l LL : List UInt8) (n c t m : Nat) (w : World) (hn : n = l.length) (hr : Rd w w.heap.size A l c) (hl : n ≤ 4096) (ht : t ≤ n) (b : Nat) (hb : backL l t = b) (hLL : l.take b ++ l.drop t = LL) (hm : LL.length = m) :
    Calls Tryd.prog 60 #[.agg #[.slice A n c, .int .i64 (t : Int)], .int .i64 12] w (GotRZ w LL m (b : Int) true) := by
  have HLL := keepd hLL
  have HM := keepd hm
  have HBK := keepd hb
  have hbt : b ≤ t := by rw [← hb]; exact back_le l t
  have hq1 : b ≤ c := by have := hr.1; omega
  have hq2 : (b : Int) ≤ (c : Int) := by omega
  have hq3 : (0 : Int) ≤ (b : Int) := by omega
  have HN := keepd hn
  have HR0 := keepd hr
  obtain ⟨xt, hxt⟩ : ∃ xt, l.take t = xt := ⟨_, rfl⟩
  have HXT : Hid (t = xt.length) := by show _ = _; rw [← hxt, List.length_take]; omega
  have HXR : Hid (Rd w w.heap.size A xt c) := hxt ▸ hr.take t
  obtain ⟨A2, k, d, hk, hr2, hsl⟩ := tail_of hn hr ht
  have hkn : k = n - t := by rw [hk, List.length_drop, hn]
  have hk4 : k ≤ 100000 := by omega
  have hc1 : n ≤ c := by rw [hn]; exact hr.1
  have hc2 := hr.2.1
  unfold maxLen at hc2
  have s0 : (t : Int) ≤ c := by omega
  have s1 : t ≤ c := by omega
  have s2 : (0 : Int) ≤ (t : Int) := by omega
  have s3 : (t : Int) ≤ (n : Int) := by omega
  have HK := keepd hk
  have HR2 := keepd hr2
  have HXE := keepd hxt
  clear hb
  clear hLL hm
  clear hn hr hr2 hk hxt hkn
  go_enter Tryd.func60, Tryd.ntmps60
  go_upto_region 1 with fail
  generalize hV : (w.alloc (.cells #[.slice A n c, .int .i64 (t : Int)] 30)).alloc (.cells #[.slice none 0 0, .int .i64 0] 30) = V0
  obtain ⟨H1, H2, HB⟩ := line_new2 _ _ _ _ _ _ hV
  obtain ⟨g0, g1⟩ := H1.out.gr
  clear hV
  refine wp_region_gr (by kernel_rfl) (by kernel_rfl) ?_
  repeat
    refine wpQuiet_step (fun K hK => ?_)
    first
      | (refine gr_want (by rfl) ?_
         go_simp
         first
           | (refine hK _ ?_; clear hK K)
           | (apply Exists.intro
              refine ⟨fun _ => ?_, hK _ ?_⟩
              (fail)
              clear hK K))
      | (refine gr_skip (by rfl) ?_
         go_simp
         refine hK _ ?_
         clear hK K)
  refine wpQuiet_nil ?_
  intro y9
  have HB2 := keepd (bCall HB.out y9.h)
  have H1b := keepd (SR.call H1.out y9.h H1.out.lt)
  have H2b := keepd (SR.call H2.out y9.h H2.out.lt)
  obtain ⟨V, hw3⟩ : ∃ V, y9.W = V := ⟨_, rfl⟩
  rw [hw3] at HB2 H1b H2b
  rw [hw3]
  clear hw3 g0 g1 H1 H2 HB hsl
  obtain ⟨k0, k1, _, _, _⟩ := line_facts H1b.out
  have HLT := keepd H2b.out.lt
  have CB := keepd (rback_any A l n c t b V HN.out (HR0.out.at_ HB2.out) hl ht HBK.out)
  have CF := keepd fun (W : World) (hb : Below V.heap.size V W) => HLL.out ▸ of_any A A2 (l.take b) (l.drop t) b k c d m W (by rw [List.length_take, ← HN.out]; omega) HK.out (((HR0.out.take b).at_ HB2.out).at_ hb) ((HR2.out.at_ HB2.out).at_ hb) (by omega) hk4 (by rw [HLL.out]; exact HM.out)
  go_wp2_with fail
  with_reducible refine CB.out.mono ?_
  rintro e w3 ⟨rfl, hb3⟩
  go_wp2_with fail
  with_reducible refine (CF.out _ hb3).mono ?_
  rintro e w4 ⟨⟨A4, c4, rfl, ho⟩, hb4⟩
  replace hb4 := bCall hb3 hb4
  replace ho := ho.base hb3.size
  clear hb3
  have HO4 := keepd ho
  have HB4 := keepd (bCall HB2.out hb4)
  have HLT4 : w.heap.size + 1 < V.heap.size := HLT.out
  obtain ⟨m0, m1, m2, m3, lt⟩ := line_facts (SR.call H2b.out hb4 HLT.out)
  clear ho hb4
  go_wp2_with fail
  refine bodyPost_ret (v := .tuple #[.agg #[.slice A4 m c4, .int .i64 (b : Int)], .bool true]) (by simp [results, Tryd.results60, go_sem, m0, m1]) rfl ?_
  obtain ⟨q1, q2⟩ := gotn_end (z := (b : Int)) HLT4 HO4.out HB4.out
  exact ⟨⟨A4, c4, rfl, q1.rdOf⟩, q2⟩

set_option maxHeartbeats 4000000 in
theorem rdo19 (A : Option Addr) (l : List UInt8) (n c t : Nat) (w : World) (hn : n = l.length) (hr : Rd w w.heap.size A l c) (hl : n ≤ 4096) (ht : t ≤ n) :
    Calls Tryd.prog 60 #[.agg #[.slice A n c, .int .i64 (t : Int)], .int .i64 19] w (GotRZ w l n ((t - 1 : Nat) : Int) true) := by
  have HN := keepd hn
  have HR0 := keepd hr
  obtain ⟨xt, hxt⟩ : ∃ xt, l.take t = xt := ⟨_, rfl⟩
  have HXT : Hid (t = xt.length) := by show _ = _; rw [← hxt, List.length_take]; omega
  have HXR : Hid (Rd w w.heap.size A xt c) := hxt ▸ hr.take t
  obtain ⟨A2, k, d, hk, hr2, hsl⟩ := tail_of hn hr ht
  have hkn : k = n - t := by rw [hk, List.length_drop, hn]
  have hk4 : k ≤ 100000 := by omega
  have hc1 : n ≤ c := by rw [hn]; exact hr.1
  have hc2 := hr.2.1
  unfold maxLen at hc2
  have s0 : (t : Int) ≤ c := by omega
  have s1 : t ≤ c := by omega
  have s2 : (0 : Int) ≤ (t : Int) := by omega
  have s3 : (t : Int) ≤ (n : Int) := by omega
  have HK := keepd hk
  have HR2 := keepd hr2
  have HXE := keepd hxt
  have w0 : IntKind.i64.wrap ((t : Int) - 1) = (t : Int) - 1 := by rw [IntKind.wrap_i64]; omega
  obtain ⟨q, hq⟩ : ∃ q : Nat, t - 1 = q := ⟨_, rfl⟩
  have hx : (if (t : Int) - 1 < 0 then (0 : Int) else (t : Int) - 1) = (q : Int) := by split <;> omega
  have hqt : q ≤ t := by omega
  have hq1 : q ≤ c := by omega
  have hq2 : (q : Int) ≤ (c : Int) := by omega
  have hq3 : (0 : Int) ≤ (q : Int) := by omega
  rw [hq]
  clear hn hr hr2 hk hxt hkn
  go_enter Tryd.func60, Tryd.ntmps60
  go_upto_region 1 with fail
  generalize hV : (w.alloc (.cells #[.slice A n c, .int .i64 (t : Int)] 30)).alloc (.cells #[.slice none 0 0, .int .i64 0] 30) = V0
  obtain ⟨H1, H2, HB⟩ := line_new2 _ _ _ _ _ _ hV
  obtain ⟨g0, g1⟩ := H1.out.gr
  clear hV
  refine wp_region_gr (by kernel_rfl) (by kernel_rfl) ?_
  repeat
    refine wpQuiet_step (fun K hK => ?_)
    first
      | (refine gr_want (by rfl) ?_
         go_simp
         first
           | (refine hK _ ?_; clear hK K)
           | (apply Exists.intro
              refine ⟨fun _ => ?_, hK _ ?_⟩
              (fail)
              clear hK K))
      | (refine gr_skip (by rfl) ?_
         go_simp
         refine hK _ ?_
         clear hK K)
  refine wpQuiet_nil ?_
  intro y9
  have HB2 := keepd (bCall HB.out y9.h)
  have H1b := keepd (SR.call H1.out y9.h H1.out.lt)
  have H2b := keepd (SR.call H2.out y9.h H2.out.lt)
  obtain ⟨V, hw3⟩ : ∃ V, y9.W = V := ⟨_, rfl⟩
  rw [hw3] at HB2 H1b H2b
  rw [hw3]
  clear hw3 g0 g1 H1 H2 HB hsl
  obtain ⟨k0, k1, _, _, _⟩ := line_facts H1b.out
  have HLT := keepd H2b.out.lt
  clear hq hqt
  obtain ⟨m0, m1, m2, m3, lt⟩ := line_facts H2b.out
  go_wp2_with fail
  refine bodyPost_ret (v := .tuple #[.agg #[.slice A n c, .int .i64 (q : Int)], .bool true]) (by simp [results, Tryd.results60, go_sem, m0, m1]) rfl ?_
  have hb := set2_below HB2.out (Nat.le_succ w.heap.size) (.slice A n c) (.int .i64 (q : Int))
  exact ⟨⟨A, c, rfl, HR0.out.at_ hb⟩, hb⟩

set_option maxHeartbeats 4000000 in
theorem rdo20 (A : Option Addr) (l : List UInt8) (n c t : Nat) (w : World) (hn : n = l.length) (hr : Rd w w.heap.size A l c) (hl : n ≤ 4096) (ht : t ≤ n) :
    Calls Tryd.prog 60 #[.agg #[.slice A n c, .int .i64 (t : Int)], .int .i64 20] w (GotRZ w l n ((min (t + 1) n : Nat) : Int) true) := by
  have HN := keepd hn
  have HR0 := keepd hr
  obtain ⟨xt, hxt⟩ : ∃ xt, l.take t = xt := ⟨_, rfl⟩
  have HXT : Hid (t = xt.length) := by show _ = _; rw [← hxt, List.length_take]; omega
  have HXR : Hid (Rd w w.heap.size A xt c) := hxt ▸ hr.take t
  obtain ⟨A2, k, d, hk, hr2, hsl⟩ := tail_of hn hr ht
  have hkn : k = n - t := by rw [hk, List.length_drop, hn]
  have hk4 : k ≤ 100000 := by omega
  have hc1 : n ≤ c := by rw [hn]; exact hr.1
  have hc2 := hr.2.1
  unfold maxLen at hc2
  have s0 : (t : Int) ≤ c := by omega
  have s1 : t ≤ c := by omega
  have s2 : (0 : Int) ≤ (t : Int) := by omega
  have s3 : (t : Int) ≤ (n : Int) := by omega
  have HK := keepd hk
  have HR2 := keepd hr2
  have HXE := keepd hxt
  have w0 : IntKind.i64.wrap ((t : Int) + 1) = (t : Int) + 1 := by rw [IntKind.wrap_i64]; omega
  obtain ⟨q, hq⟩ : ∃ q : Nat, min (t + 1) n = q := ⟨_, rfl⟩
  have hx : (if (n : Int) < (t : Int) + 1 then (n : Int) else (t : Int) + 1) = (q : Int) := by split <;> omega
  rw [hq]
  clear hn hr hr2 hk hxt hkn
  go_enter Tryd.func60, Tryd.ntmps60
  go_upto_region 1 with fail
  generalize hV : (w.alloc (.cells #[.slice A n c, .int .i64 (t : Int)] 30)).alloc (.cells #[.slice none 0 0, .int .i64 0] 30) = V0
  obtain ⟨H1, H2, HB⟩ := line_new2 _ _ _ _ _ _ hV
  obtain ⟨g0, g1⟩ := H1.out.gr
  clear hV
  refine wp_region_gr (by kernel_rfl) (by kernel_rfl) ?_
  repeat
    refine wpQuiet_step (fun K hK => ?_)
    first
      | (refine gr_want (by rfl) ?_
         go_simp
         first
           | (refine hK _ ?_; clear hK K)
           | (apply Exists.intro
              refine ⟨fun _ => ?_, hK _ ?_⟩
              (fail)
              clear hK K))
      | (refine gr_skip (by rfl) ?_
         go_simp
         refine hK _ ?_
         clear hK K)
  refine wpQuiet_nil ?_
  intro y9
  have HB2 := keepd (bCall HB.out y9.h)
  have H1b := keepd (SR.call H1.out y9.h H1.out.lt)
  have H2b := keepd (SR.call H2.out y9.h H2.out.lt)
  obtain ⟨V, hw3⟩ : ∃ V, y9.W = V := ⟨_, rfl⟩
  rw [hw3] at HB2 H1b H2b
  rw [hw3]
  clear hw3 g0 g1 H1 H2 HB hsl
  obtain ⟨k0, k1, _, _, _⟩ := line_facts H1b.out
  have HLT := keepd H2b.out.lt
  clear hq
  obtain ⟨m0, m1, m2, m3, lt⟩ := line_facts H2b.out
  go_wp2_with fail
  refine bodyPost_ret (v := .tuple #[.agg #[.slice A n c, .int .i64 (q : Int)], .bool true]) (by simp [results, Tryd.results60, go_sem, m0, m1]) rfl ?_
  have hb := set2_below HB2.out (Nat.le_succ w.heap.size) (.slice A n c) (.int .i64 (q : Int))
  exact ⟨⟨A, c, rfl, HR0.out.at_ hb⟩, hb⟩

set_option maxHeartbeats 4000000 in
theorem rdo21 (A : Option Addr) (l : List UInt8) (n c t : Nat) (w : World) (hn : n = l.length) (hr : Rd w w.heap.size A l c) (hl : n ≤ 4096) (ht : t ≤ n) (b : Nat) (hb : backL l t = b) :
    Calls Tryd.prog 60 #[.agg #[.slice A n c, .int .i64 (t : Int)], .int .i64 21] w (GotRZ w l n (b : Int) true) := by
  have HBK := keepd hb
  have HN := keepd hn
  have HR0 := keepd hr
  obtain ⟨xt, hxt⟩ : ∃ xt, l.take t = xt := ⟨_, rfl⟩
  have HXT : Hid (t = xt.length) := by show _ = _; rw [← hxt, List.length_take]; omega
  have HXR : Hid (Rd w w.heap.size A xt c) := hxt ▸ hr.take t
  obtain ⟨A2, k, d, hk, hr2, hsl⟩ := tail_of hn hr ht
  have hkn : k = n - t := by rw [hk, List.length_drop, hn]
  have hk4 : k ≤ 100000 := by omega
  have hc1 : n ≤ c := by rw [hn]; exact hr.1
  have hc2 := hr.2.1
  unfold maxLen at hc2
  have s0 : (t : Int) ≤ c := by omega
  have s1 : t ≤ c := by omega
  have s2 : (0 : Int) ≤ (t : Int) := by omega
  have s3 : (t : Int) ≤ (n : Int) := by omega
  have HK := keepd hk
  have HR2 := keepd hr2
  have HXE := keepd hxt
  clear hb
  clear hn hr hr2 hk hxt hkn
  go_enter Tryd.func60, Tryd.ntmps60
  go_upto_region 1 with fail
  generalize hV : (w.alloc (.cells #[.slice A n c, .int .i64 (t : Int)] 30)).alloc (.cells #[.slice none 0 0, .int .i64 0] 30) = V0
  obtain ⟨H1, H2, HB⟩ := line_new2 _ _ _ _ _ _ hV
  obtain ⟨g0, g1⟩ := H1.out.gr
  clear hV
  refine wp_region_gr (by kernel_rfl) (by kernel_rfl) ?_
  repeat
    refine wpQuiet_step (fun K hK => ?_)
    first
      | (refine gr_want (by rfl) ?_
         go_simp
         first
           | (refine hK _ ?_; clear hK K)
           | (apply Exists.intro
              refine ⟨fun _ => ?_, hK _ ?_⟩
              (fail)
              clear hK K))
      | (refine gr_skip (by rfl) ?_
         go_simp
         refine hK _ ?_
         clear hK K)
  refine wpQuiet_nil ?_
  intro y9
  have HB2 := keepd (bCall HB.out y9.h)
  have H1b := keepd (SR.call H1.out y9.h H1.out.lt)
  have H2b := keepd (SR.call H2.out y9.h H2.out.lt)
  obtain ⟨V, hw3⟩ : ∃ V, y9.W = V := ⟨_, rfl⟩
  rw [hw3] at HB2 H1b H2b
  rw [hw3]
  clear hw3 g0 g1 H1 H2 HB hsl
  obtain ⟨k0, k1, _, _, _⟩ := line_facts H1b.out
  have HLT := keepd H2b.out.lt
  have CB := keepd (rback_any A l n c t b V.drew HN.out (HR0.out.at_ HB2.out.drew) hl ht HBK.out)
  have K0 := keepd k0
  have K1 := keepd k1
  have xx : w.heap.size + 1 ≤ V.heap.size := Nat.le_of_lt HLT.out
  go_wp2_with fail
  go_region_held3 (fun W => W.cell? ⟨w.heap.size, 0, none⟩ = some (.slice A n c) ∧ W.cell? ⟨w.heap.size, 1, none⟩ = some (.int .i64 (t : Int)) ∧ Below (w.heap.size + 1) V W)
    ((refine sL K0.out K1.out ?_; repeat (first | assumption | exact Below.refl _ _ | with_reducible refine Below.setCell ?_ (Nat.le_refl (w.heap.size + 1)) _ | with_reducible refine bAl xx ?_ _ | with_reducible refine Below.drew ?_)))
    (first | (go_at_call 77; (with_reducible refine CB.out.mono ?_); rintro e w4 ⟨rfl, hb4⟩; have hb5 : Below V.heap.size V w4 := noDrew hb4; have hb6 := hb5.mono xx; have HB4 := keepd (bCall HB2.out hb5); obtain ⟨m0, m1, m2, m3, lt⟩ := line_facts (SR.call H2b.out hb5 HLT.out); clear hb4))
  all_goals
    go_wp2_with fail
    refine bodyPost_ret (v := .tuple #[.agg #[.slice A n c, .int .i64 (b : Int)], .bool true]) (by simp [results, Tryd.results60, go_sem, m0, m1]) rfl ?_
    have hb := set2_below HB4.out (Nat.le_succ w.heap.size) (.slice A n c) (.int .i64 (b : Int))
    exact ⟨⟨A, c, rfl, HR0.out.at_ hb⟩, hb⟩

set_option maxHeartbeats 4000000 in
theorem rdo22 (A : Option Addr) (l : List UInt8) (n c t : Nat) (w : World) (hn : n = l.length) (hr : Rd w w.heap.size A l c) (hl : n ≤ 4096) (ht : t ≤ n) (b : Nat) (hb : onL l t = b) :
    Calls Tryd.prog 60 #[.agg #[.slice A n c, .int .i64 (t : Int)], .int .i64 22] w (GotRZ w l n (b : Int) true) := by
  have HBK := keepd hb
  have HN := keepd hn
  have HR0 := keepd hr
  obtain ⟨xt, hxt⟩ : ∃ xt, l.take t = xt := ⟨_, rfl⟩
  have HXT : Hid (t = xt.length) := by show _ = _; rw [← hxt, List.length_take]; omega
  have HXR : Hid (Rd w w.heap.size A xt c) := hxt ▸ hr.take t
  obtain ⟨A2, k, d, hk, hr2, hsl⟩ := tail_of hn hr ht
  have hkn : k = n - t := by rw [hk, List.length_drop, hn]
  have hk4 : k ≤ 100000 := by omega
  have hc1 : n ≤ c := by rw [hn]; exact hr.1
  have hc2 := hr.2.1
  unfold maxLen at hc2
  have s0 : (t : Int) ≤ c := by omega
  have s1 : t ≤ c := by omega
  have s2 : (0 : Int) ≤ (t : Int) := by omega
  have s3 : (t : Int) ≤ (n : Int) := by omega
  have HK := keepd hk
  have HR2 := keepd hr2
  have HXE := keepd hxt
  clear hb
  clear hn hr hr2 hk hxt hkn
  go_enter Tryd.func60, Tryd.ntmps60
  go_upto_region 1 with fail
  generalize hV : (w.alloc (.cells #[.slice A n c, .int .i64 (t : Int)] 30)).alloc (.cells #[.slice none 0 0, .int .i64 0] 30) = V0
  obtain ⟨H1, H2, HB⟩ := line_new2 _ _ _ _ _ _ hV
  obtain ⟨g0, g1⟩ := H1.out.gr
  clear hV
  refine wp_region_gr (by kernel_rfl) (by kernel_rfl) ?_
  repeat
    refine wpQuiet_step (fun K hK => ?_)
    first
      | (refine gr_want (by rfl) ?_
         go_simp
         first
           | (refine hK _ ?_; clear hK K)
           | (apply Exists.intro
              refine ⟨fun _ => ?_, hK _ ?_⟩
              (fail)
              clear hK K))
      | (refine gr_skip (by rfl) ?_
         go_simp
         refine hK _ ?_
         clear hK K)
  refine wpQuiet_nil ?_
  intro y9
  have HB2 := keepd (bCall HB.out y9.h)
  have H1b := keepd (SR.call H1.out y9.h H1.out.lt)
  have H2b := keepd (SR.call H2.out y9.h H2.out.lt)
  obtain ⟨V, hw3⟩ : ∃ V, y9.W = V := ⟨_, rfl⟩
  rw [hw3] at HB2 H1b H2b
  rw [hw3]
  clear hw3 g0 g1 H1 H2 HB hsl
  obtain ⟨k0, k1, _, _, _⟩ := line_facts H1b.out
  have HLT := keepd H2b.out.lt
  have CB := keepd (ron_any A l n c t b V.drew HN.out (HR0.out.at_ HB2.out.drew) hl ht HBK.out)
  have K0 := keepd k0
  have K1 := keepd k1
  have xx : w.heap.size + 1 ≤ V.heap.size := Nat.le_of_lt HLT.out
  go_wp2_with fail
  go_region_held3 (fun W => W.cell? ⟨w.heap.size, 0, none⟩ = some (.slice A n c) ∧ W.cell? ⟨w.heap.size, 1, none⟩ = some (.int .i64 (t : Int)) ∧ Below (w.heap.size + 1) V W)
    ((refine sL K0.out K1.out ?_; repeat (first | assumption | exact Below.refl _ _ | with_reducible refine Below.setCell ?_ (Nat.le_refl (w.heap.size + 1)) _ | with_reducible refine bAl xx ?_ _ | with_reducible refine Below.drew ?_)))
    (first | (go_at_call 78; (with_reducible refine CB.out.mono ?_); rintro e w4 ⟨rfl, hb4⟩; have hb5 : Below V.heap.size V w4 := noDrew hb4; have hb6 := hb5.mono xx; have HB4 := keepd (bCall HB2.out hb5); obtain ⟨m0, m1, m2, m3, lt⟩ := line_facts (SR.call H2b.out hb5 HLT.out); clear hb4))
  all_goals
    go_wp2_with fail
    refine bodyPost_ret (v := .tuple #[.agg #[.slice A n c, .int .i64 (b : Int)], .bool true]) (by simp [results, Tryd.results60, go_sem, m0, m1]) rfl ?_
    have hb := set2_below HB4.out (Nat.le_succ w.heap.size) (.slice A n c) (.int .i64 (b : Int))
    exact ⟨⟨A, c, rfl, HR0.out.at_ hb⟩, hb⟩

set_option maxHeartbeats 4000000 in
theorem rdo23 (A : Option Addr) (l : List UInt8) (n c t : Nat) (w : World) (hn : n = l.length) (hr : Rd w w.heap.size A l c) (hl : n ≤ 4096) (ht : t ≤ n) :
    Calls Tryd.prog 60 #[.agg #[.slice A n c, .int .i64 (t : Int)], .int .i64 23] w (GotRZ w l n 0 true) := by
  have HN := keepd hn
  have HR0 := keepd hr
  obtain ⟨xt, hxt⟩ : ∃ xt, l.take t = xt := ⟨_, rfl⟩
  have HXT : Hid (t = xt.length) := by show _ = _; rw [← hxt, List.length_take]; omega
  have HXR : Hid (Rd w w.heap.size A xt c) := hxt ▸ hr.take t
  obtain ⟨A2, k, d, hk, hr2, hsl⟩ := tail_of hn hr ht
  have hkn : k = n - t := by rw [hk, List.length_drop, hn]
  have hk4 : k ≤ 100000 := by omega
  have hc1 : n ≤ c := by rw [hn]; exact hr.1
  have hc2 := hr.2.1
  unfold maxLen at hc2
  have s0 : (t : Int) ≤ c := by omega
  have s1 : t ≤ c := by omega
  have s2 : (0 : Int) ≤ (t : Int) := by omega
  have s3 : (t : Int) ≤ (n : Int) := by omega
  have HK := keepd hk
  have HR2 := keepd hr2
  have HXE := keepd hxt
  clear hn hr hr2 hk hxt hkn
  go_enter Tryd.func60, Tryd.ntmps60
  go_upto_region 1 with fail
  generalize hV : (w.alloc (.cells #[.slice A n c, .int .i64 (t : Int)] 30)).alloc (.cells #[.slice none 0 0, .int .i64 0] 30) = V0
  obtain ⟨H1, H2, HB⟩ := line_new2 _ _ _ _ _ _ hV
  obtain ⟨g0, g1⟩ := H1.out.gr
  clear hV
  refine wp_region_gr (by kernel_rfl) (by kernel_rfl) ?_
  repeat
    refine wpQuiet_step (fun K hK => ?_)
    first
      | (refine gr_want (by rfl) ?_
         go_simp
         first
           | (refine hK _ ?_; clear hK K)
           | (apply Exists.intro
              refine ⟨fun _ => ?_, hK _ ?_⟩
              (fail)
              clear hK K))
      | (refine gr_skip (by rfl) ?_
         go_simp
         refine hK _ ?_
         clear hK K)
  refine wpQuiet_nil ?_
  intro y9
  have HB2 := keepd (bCall HB.out y9.h)
  have H1b := keepd (SR.call H1.out y9.h H1.out.lt)
  have H2b := keepd (SR.call H2.out y9.h H2.out.lt)
  obtain ⟨V, hw3⟩ : ∃ V, y9.W = V := ⟨_, rfl⟩
  rw [hw3] at HB2 H1b H2b
  rw [hw3]
  clear hw3 g0 g1 H1 H2 HB hsl
  obtain ⟨k0, k1, _, _, _⟩ := line_facts H1b.out
  have HLT := keepd H2b.out.lt
  obtain ⟨m0, m1, m2, m3, lt⟩ := line_facts H2b.out
  go_wp2_with fail
  refine bodyPost_ret (v := .tuple #[.agg #[.slice A n c, .int .i64 0], .bool true]) (by simp [results, Tryd.results60, go_sem, m0, m1]) rfl ?_
  have hb := set2_below HB2.out (Nat.le_succ w.heap.size) (.slice A n c) (.int .i64 0)
  exact ⟨⟨A, c, rfl, HR0.out.at_ hb⟩, hb⟩

set_option maxHeartbeats 4000000 in
theorem rdo24 (A : Option Addr) (l : List UInt8) (n c t : Nat) (w : World) (hn : n = l.length) (hr : Rd w w.heap.size A l c) (hl : n ≤ 4096) (ht : t ≤ n) :
    Calls Tryd.prog 60 #[.agg #[.slice A n c, .int .i64 (t : Int)], .int .i64 24] w (GotRZ w l n (n : Int) true) := by
  have HN := keepd hn
  have HR0 := keepd hr
  obtain ⟨xt, hxt⟩ : ∃ xt, l.take t = xt := ⟨_, rfl⟩
  have HXT : Hid (t = xt.length) := by show _ = _; rw [← hxt, List.length_take]; omega
  have HXR : Hid (Rd w w.heap.size A xt c) := hxt ▸ hr.take t
  obtain ⟨A2, k, d, hk, hr2, hsl⟩ := tail_of hn hr ht
  have hkn : k = n - t := by rw [hk, List.length_drop, hn]
  have hk4 : k ≤ 100000 := by omega
  have hc1 : n ≤ c := by rw [hn]; exact hr.1
  have hc2 := hr.2.1
  unfold maxLen at hc2
  have s0 : (t : Int) ≤ c := by omega
  have s1 : t ≤ c := by omega
  have s2 : (0 : Int) ≤ (t : Int) := by omega
  have s3 : (t : Int) ≤ (n : Int) := by omega
  have HK := keepd hk
  have HR2 := keepd hr2
  have HXE := keepd hxt
  clear hn hr hr2 hk hxt hkn
  go_enter Tryd.func60, Tryd.ntmps60
  go_upto_region 1 with fail
  generalize hV : (w.alloc (.cells #[.slice A n c, .int .i64 (t : Int)] 30)).alloc (.cells #[.slice none 0 0, .int .i64 0] 30) = V0
  obtain ⟨H1, H2, HB⟩ := line_new2 _ _ _ _ _ _ hV
  obtain ⟨g0, g1⟩ := H1.out.gr
  clear hV
  refine wp_region_gr (by kernel_rfl) (by kernel_rfl) ?_
  repeat
    refine wpQuiet_step (fun K hK => ?_)
    first
      | (refine gr_want (by rfl) ?_
         go_simp
         first
           | (refine hK _ ?_; clear hK K)
           | (apply Exists.intro
              refine ⟨fun _ => ?_, hK _ ?_⟩
              (fail)
              clear hK K))
      | (refine gr_skip (by rfl) ?_
         go_simp
         refine hK _ ?_
         clear hK K)
  refine wpQuiet_nil ?_
  intro y9
  have HB2 := keepd (bCall HB.out y9.h)
  have H1b := keepd (SR.call H1.out y9.h H1.out.lt)
  have H2b := keepd (SR.call H2.out y9.h H2.out.lt)
  obtain ⟨V, hw3⟩ : ∃ V, y9.W = V := ⟨_, rfl⟩
  rw [hw3] at HB2 H1b H2b
  rw [hw3]
  clear hw3 g0 g1 H1 H2 HB hsl
  obtain ⟨k0, k1, _, _, _⟩ := line_facts H1b.out
  have HLT := keepd H2b.out.lt
  obtain ⟨m0, m1, m2, m3, lt⟩ := line_facts H2b.out
  go_wp2_with fail
  refine bodyPost_ret (v := .tuple #[.agg #[.slice A n c, .int .i64 (n : Int)], .bool true]) (by simp [results, Tryd.results60, go_sem, m0, m1]) rfl ?_
  have hb := set2_below HB2.out (Nat.le_succ w.heap.size) (.slice A n c) (.int .i64 (n : Int))
  exact ⟨⟨A, c, rfl, HR0.out.at_ hb⟩, hb⟩

set_option maxHeartbeats 4000000 in
theorem rdo27 (A : Option Addr) (l LL : List UInt8) (n c t m : Nat) (w : World) (hn : n = l.length) (hr : Rd w w.heap.size A l c) (hl : n ≤ 4096) (ht : t ≤ n) (hLL : l.take t ++ l.drop (min (t + 1) n) = LL) (hm : LL.length = m) :
    Calls Tryd.prog 60 #[.agg #[.slice A n c, .int .i64 (t : Int)], .int .i64 27] w (GotRZ w LL m (t : Int) true) := by
  have HLL := keepd hLL
  have HM := keepd hm
  have HN := keepd hn
  have HR0 := keepd hr
  obtain ⟨xt, hxt⟩ : ∃ xt, l.take t = xt := ⟨_, rfl⟩
  have HXT : Hid (t = xt.length) := by show _ = _; rw [← hxt, List.length_take]; omega
  have HXR : Hid (Rd w w.heap.size A xt c) := hxt ▸ hr.take t
  obtain ⟨A2, k, d, hk, hr2, hsl⟩ := tail_of hn hr ht
  have hkn : k = n - t := by rw [hk, List.length_drop, hn]
  have hk4 : k ≤ 100000 := by omega
  have hc1 : n ≤ c := by rw [hn]; exact hr.1
  have hc2 := hr.2.1
  unfold maxLen at hc2
  have s0 : (t : Int) ≤ c := by omega
  have s1 : t ≤ c := by omega
  have s2 : (0 : Int) ≤ (t : Int) := by omega
  have s3 : (t : Int) ≤ (n : Int) := by omega
  have HK := keepd hk
  have HR2 := keepd hr2
  have HXE := keepd hxt
  obtain ⟨q, hq⟩ : ∃ q : Nat, min 1 k = q := ⟨_, rfl⟩
  have hx : (if (k : Int) < 1 then (k : Int) else 1) = (q : Int) := by split <;> omega
  have hqk : q ≤ k := by omega
  obtain ⟨A3, k3, d3, hk3, hr3, hsl3⟩ := tail_of (t := q) hk hr2 hqk
  rw [List.drop_drop, show t + q = min (t + 1) n by omega] at hr3 hk3
  have hk34 : k3 ≤ 100000 := by rw [hk3, List.length_drop]; omega
  have HK3 := keepd hk3
  have HR3 := keepd hr3
  have HQL : Hid (xt ++ l.drop (min (t + 1) n) = LL) := by show _ = _; rw [← hxt]; exact hLL
  clear hq hqk hk3 hr3
  clear hLL hm
  clear hn hr hr2 hk hxt hkn
  go_enter Tryd.func60, Tryd.ntmps60
  go_upto_region 1 with fail
  generalize hV : (w.alloc (.cells #[.slice A n c, .int .i64 (t : Int)] 30)).alloc (.cells #[.slice none 0 0, .int .i64 0] 30) = V0
  obtain ⟨H1, H2, HB⟩ := line_new2 _ _ _ _ _ _ hV
  obtain ⟨g0, g1⟩ := H1.out.gr
  clear hV
  refine wp_region_gr (by kernel_rfl) (by kernel_rfl) ?_
  repeat
    refine wpQuiet_step (fun K hK => ?_)
    first
      | (refine gr_want (by rfl) ?_
         go_simp
         first
           | (refine hK _ ?_; clear hK K)
           | (apply Exists.intro
              refine ⟨fun _ => ?_, hK _ ?_⟩
              (fail)
              clear hK K))
      | (refine gr_skip (by rfl) ?_
         go_simp
         refine hK _ ?_
         clear hK K)
  refine wpQuiet_nil ?_
  intro y9
  have HB2 := keepd (bCall HB.out y9.h)
  have H1b := keepd (SR.call H1.out y9.h H1.out.lt)
  have H2b := keepd (SR.call H2.out y9.h H2.out.lt)
  obtain ⟨V, hw3⟩ : ∃ V, y9.W = V := ⟨_, rfl⟩
  rw [hw3] at HB2 H1b H2b
  rw [hw3]
  clear hw3 g0 g1 H1 H2 HB hsl
  obtain ⟨k0, k1, _, _, _⟩ := line_facts H1b.out
  have HLT := keepd H2b.out.lt
  have CF := keepd fun (W : World) (hb : Below V.heap.size V W) => HQL.out ▸ of_any A A3 xt (l.drop (min (t + 1) n)) t k3 c d3 m W HXT.out HK3.out ((HXR.out.at_ HB2.out).at_ hb) ((HR3.out.at_ HB2.out).at_ hb) (by omega) hk34 (by rw [HQL.out]; exact HM.out)
  go_wp2_with fail
  with_reducible refine (CF.out _ (Below.refl _ _)).mono ?_
  rintro e w4 ⟨⟨A4, c4, rfl, ho⟩, hb4⟩
  have HO4 := keepd ho
  have HB4 := keepd (bCall HB2.out hb4)
  have HLT4 : w.heap.size + 1 < V.heap.size := HLT.out
  obtain ⟨m0, m1, m2, m3, lt⟩ := line_facts (SR.call H2b.out hb4 HLT.out)
  clear ho hb4
  go_wp2_with fail
  refine bodyPost_ret (v := .tuple #[.agg #[.slice A4 m c4, .int .i64 (t : Int)], .bool true]) (by simp [results, Tryd.results60, go_sem, m0, m1]) rfl ?_
  obtain ⟨q1, q2⟩ := gotn_end (z := (t : Int)) HLT4 HO4.out HB4.out
  exact ⟨⟨A4, c4, rfl, q1.rdOf⟩, q2⟩

set_option maxHeartbeats 4000000 in
theorem rdo28 (A : Option Addr) (l LL : List UInt8) (n c t m : Nat) (w : World) (hn : n = l.length) (hr : Rd w w.heap.size A l c) (hl : n ≤ 4096) (ht : t ≤ n) (b : Nat) (hb : onL l t = b) (hLL : l.take t ++ l.drop b = LL) (hm : LL.length = m) :
    Calls Tryd.prog 60 #[.agg #[.slice A n c, .int .i64 (t : Int)], .int .i64 28] w (GotRZ w LL m (t : Int) true) := by
  have HLL := keepd hLL
  have HM := keepd hm
  have HBK := keepd hb
  have hbn : b ≤ n := by rw [← hb, hn]; exact on_le l (by rw [← hn]; exact ht)
  obtain ⟨A3, k3, d3, hk3, hr3, hsl3⟩ := tail_of (t := b) hn hr hbn
  have hk34 : k3 ≤ 100000 := by rw [hk3, List.length_drop]; omega
  have HK3 := keepd hk3
  have HR3 := keepd hr3
  clear hk3 hr3
  have HN := keepd hn
  have HR0 := keepd hr
  obtain ⟨xt, hxt⟩ : ∃ xt, l.take t = xt := ⟨_, rfl⟩
  have HXT : Hid (t = xt.length) := by show _ = _; rw [← hxt, List.length_take]; omega
  have HXR : Hid (Rd w w.heap.size A xt c) := hxt ▸ hr.take t
  obtain ⟨A2, k, d, hk, hr2, hsl⟩ := tail_of hn hr ht
  have hkn : k = n - t := by rw [hk, List.length_drop, hn]
  have hk4 : k ≤ 100000 := by omega
  have hc1 : n ≤ c := by rw [hn]; exact hr.1
  have hc2 := hr.2.1
  unfold maxLen at hc2
  have s0 : (t : Int) ≤ c := by omega
  have s1 : t ≤ c := by omega
  have s2 : (0 : Int) ≤ (t : Int) := by omega
  have s3 : (t : Int) ≤ (n : Int) := by omega
  have HK := keepd hk
  have HR2 := keepd hr2
  have HXE := keepd hxt
  have HQL : Hid (xt ++ l.drop b = LL) := by show _ = _; rw [← hxt]; exact hLL
  clear hb
  clear hLL hm
  clear hn hr hr2 hk hxt hkn
  go_enter Tryd.func60, Tryd.ntmps60
  go_upto_region 1 with fail
  generalize hV : (w.alloc (.cells #[.slice A n c, .int .i64 (t : Int)] 30)).alloc (.cells #[.slice none 0 0, .int .i64 0] 30) = V0
  obtain ⟨H1, H2, HB⟩ := line_new2 _ _ _ _ _ _ hV
  obtain ⟨g0, g1⟩ := H1.out.gr
  clear hV
  refine wp_region_gr (by kernel_rfl) (by kernel_rfl) ?_
  repeat
    refine wpQuiet_step (fun K hK => ?_)
    first
      | (refine gr_want (by rfl) ?_
         go_simp
         first
           | (refine hK _ ?_; clear hK K)
           | (apply Exists.intro
              refine ⟨fun _ => ?_, hK _ ?_⟩
              (fail)
              clear hK K))
      | (refine gr_skip (by rfl) ?_
         go_simp
         refine hK _ ?_
         clear hK K)
  refine wpQuiet_nil ?_
  intro y9
  have HB2 := keepd (bCall HB.out y9.h)
  have H1b := keepd (SR.call H1.out y9.h H1.out.lt)
  have H2b := keepd (SR.call H2.out y9.h H2.out.lt)
  obtain ⟨V, hw3⟩ : ∃ V, y9.W = V := ⟨_, rfl⟩
  rw [hw3] at HB2 H1b H2b
  rw [hw3]
  clear hw3 g0 g1 H1 H2 HB hsl
  obtain ⟨k0, k1, _, _, _⟩ := line_facts H1b.out
  have HLT := keepd H2b.out.lt
  have CB := keepd (ron_any A l n c t b V.drew HN.out (HR0.out.at_ HB2.out.drew) hl ht HBK.out)
  have CF := keepd fun (W : World) (hb : Below V.heap.size V W) => HQL.out ▸ of_any A A3 xt (l.drop b) t k3 c d3 m W HXT.out HK3.out ((HXR.out.at_ HB2.out).at_ hb) ((HR3.out.at_ HB2.out).at_ hb) (by omega) hk34 (by rw [HQL.out]; exact HM.out)
  have K0 := keepd k0
  have K1 := keepd k1
  have xx : w.heap.size + 1 ≤ V.heap.size := Nat.le_of_lt HLT.out
  go_wp2_with fail
  go_region_held3 (fun W => W.cell? ⟨w.heap.size, 0, none⟩ = some (.slice A n c) ∧ W.cell? ⟨w.heap.size, 1, none⟩ = some (.int .i64 (t : Int)) ∧ Below (w.heap.size + 1) V W)
    ((refine sL K0.out K1.out ?_; repeat (first | assumption | exact Below.refl _ _ | with_reducible refine Below.setCell ?_ (Nat.le_refl (w.heap.size + 1)) _ | with_reducible refine bAl xx ?_ _ | with_reducible refine Below.drew ?_)))
    (first
      | (go_at_call 78; (with_reducible refine CB.out.mono ?_); rintro e w5 ⟨rfl, hb4⟩; have hbb : Below V.heap.size V w5 := noDrew hb4; have hb6 := hbb.mono xx; clear hb4)
      | (go_at_call 76; (with_reducible refine (CF.out _ hbb).mono ?_); rintro e w4 ⟨⟨A4, c4, rfl, ho⟩, hb7⟩; have hb8 := bCall hbb hb7; have hb9 := hb8.mono xx; have HO4 := keepd ho; have HB4 := keepd (bCall HB2.out hb8); have HLT4 := Nat.lt_of_lt_of_le HLT.out hbb.size; obtain ⟨m0, m1, m2, m3, lt⟩ := line_facts (SR.call H2b.out hb8 HLT.out); clear ho hb7))
  all_goals
    go_wp2_with fail
    refine bodyPost_ret (v := .tuple #[.agg #[.slice A4 m c4, .int .i64 (t : Int)], .bool true]) (by simp [results, Tryd.results60, go_sem, m0, m1]) rfl ?_
    obtain ⟨q1, q2⟩ := gotn_end (z := (t : Int)) HLT4 HO4.out HB4.out
    exact ⟨⟨A4, c4, rfl, q1.rdOf⟩, q2⟩

set_option maxHeartbeats 4000000 in
theorem rdo29 (A : Option Addr) (l LL : List UInt8) (n c t m : Nat) (w : World) (hn : n = l.length) (hr : Rd w w.heap.size A l c) (hl : n ≤ 4096) (ht : t ≤ n) (hLL : l.drop t = LL) (hm : LL.length = m) :
    Calls Tryd.prog 60 #[.agg #[.slice A n c, .int .i64 (t : Int)], .int .i64 29] w (GotRZ w LL m 0 true) := by
  have HLL := keepd hLL
  have HM := keepd hm
  have HN := keepd hn
  have HR0 := keepd hr
  obtain ⟨xt, hxt⟩ : ∃ xt, l.take t = xt := ⟨_, rfl⟩
  have HXT : Hid (t = xt.length) := by show _ = _; rw [← hxt, List.length_take]; omega
  have HXR : Hid (Rd w w.heap.size A xt c) := hxt ▸ hr.take t
  obtain ⟨A2, k, d, hk, hr2, hsl⟩ := tail_of hn hr ht
  have hkn : k = n - t := by rw [hk, List.length_drop, hn]
  have hk4 : k ≤ 100000 := by omega
  have hc1 : n ≤ c := by rw [hn]; exact hr.1
  have hc2 := hr.2.1
  unfold maxLen at hc2
  have s0 : (t : Int) ≤ c := by omega
  have s1 : t ≤ c := by omega
  have s2 : (0 : Int) ≤ (t : Int) := by omega
  have s3 : (t : Int) ≤ (n : Int) := by omega
  have HK := keepd hk
  have HR2 := keepd hr2
  have HXE := keepd hxt
  clear hLL hm
  clear hn hr hr2 hk hxt hkn
  go_enter Tryd.func60, Tryd.ntmps60
  go_upto_region 1 with fail
  generalize hV : (w.alloc (.cells #[.slice A n c, .int .i64 (t : Int)] 30)).alloc (.cells #[.slice none 0 0, .int .i64 0] 30) = V0
  obtain ⟨H1, H2, HB⟩ := line_new2 _ _ _ _ _ _ hV
  obtain ⟨g0, g1⟩ := H1.out.gr
  clear hV
  refine wp_region_gr (by kernel_rfl) (by kernel_rfl) ?_
  repeat
    refine wpQuiet_step (fun K hK => ?_)
    first
      | (refine gr_want (by rfl) ?_
         go_simp
         first
           | (refine hK _ ?_; clear hK K)
           | (apply Exists.intro
              refine ⟨fun _ => ?_, hK _ ?_⟩
              (fail)
              clear hK K))
      | (refine gr_skip (by rfl) ?_
         go_simp
         refine hK _ ?_
         clear hK K)
  refine wpQuiet_nil ?_
  intro y9
  have HB2 := keepd (bCall HB.out y9.h)
  have H1b := keepd (SR.call H1.out y9.h H1.out.lt)
  have H2b := keepd (SR.call H2.out y9.h H2.out.lt)
  obtain ⟨V, hw3⟩ : ∃ V, y9.W = V := ⟨_, rfl⟩
  rw [hw3] at HB2 H1b H2b
  rw [hw3]
  clear hw3 g0 g1 H1 H2 HB hsl
  obtain ⟨k0, k1, _, _, _⟩ := line_facts H1b.out
  have HLT := keepd H2b.out.lt
  have CF := keepd fun (W : World) (hb : Below V.heap.size V W) => nil_of (HLL.out ▸ of_any none A2 [] (l.drop t) 0 k 0 d m W rfl HK.out (Rd.nil _ _) ((HR2.out.at_ HB2.out).at_ hb) (by omega) hk4 (by rw [List.nil_append, HLL.out]; exact HM.out))
  go_wp2_with fail
  with_reducible refine (CF.out _ (Below.refl _ _)).mono ?_
  rintro e w4 ⟨⟨A4, c4, rfl, ho⟩, hb4⟩
  have HO4 := keepd ho
  have HB4 := keepd (bCall HB2.out hb4)
  have HLT4 : w.heap.size + 1 < V.heap.size := HLT.out
  obtain ⟨m0, m1, m2, m3, lt⟩ := line_facts (SR.call H2b.out hb4 HLT.out)
  clear ho hb4
  go_wp2_with fail
  refine bodyPost_ret (v := .tuple #[.agg #[.slice A4 m c4, .int .i64 0], .bool true]) (by simp [results, Tryd.results60, go_sem, m0, m1]) rfl ?_
  obtain ⟨q1, q2⟩ := gotn_end (z := 0) HLT4 HO4.out HB4.out
  exact ⟨⟨A4, c4, rfl, q1.rdOf⟩, q2⟩

set_option maxHeartbeats 4000000 in
theorem rdo30 (A : Option Addr) (l LL : List UInt8) (n c t m : Nat) (w : World) (hn : n = l.length) (hr : Rd w w.heap.size A l c) (hl : n ≤ 4096) (ht : t ≤ n) (hLL : l.take t = LL) (hm : LL.length = m) :
    Calls Tryd.prog 60 #[.agg #[.slice A n c, .int .i64 (t : Int)], .int .i64 30] w (GotRZ w LL m (t : Int) true) := by
  have HLL := keepd hLL
  have HM := keepd hm
  have HN := keepd hn
  have HR0 := keepd hr
  obtain ⟨xt, hxt⟩ : ∃ xt, l.take t = xt := ⟨_, rfl⟩
  have HXT : Hid (t = xt.length) := by show _ = _; rw [← hxt, List.length_take]; omega
  have HXR : Hid (Rd w w.heap.size A xt c) := hxt ▸ hr.take t
  obtain ⟨A2, k, d, hk, hr2, hsl⟩ := tail_of hn hr ht
  have hkn : k = n - t := by rw [hk, List.length_drop, hn]
  have hk4 : k ≤ 100000 := by omega
  have hc1 : n ≤ c := by rw [hn]; exact hr.1
  have hc2 := hr.2.1
  unfold maxLen at hc2
  have s0 : (t : Int) ≤ c := by omega
  have s1 : t ≤ c := by omega
  have s2 : (0 : Int) ≤ (t : Int) := by omega
  have s3 : (t : Int) ≤ (n : Int) := by omega
  have HK := keepd hk
  have HR2 := keepd hr2
  have HXE := keepd hxt
  clear hLL hm
  clear hn hr hr2 hk hxt hkn
  go_enter Tryd.func60, Tryd.ntmps60
  go_upto_region 1 with fail
  generalize hV : (w.alloc (.cells #[.slice A n c, .int .i64 (t : Int)] 30)).alloc (.cells #[.slice none 0 0, .int .i64 0] 30) = V0
  obtain ⟨H1, H2, HB⟩ := line_new2 _ _ _ _ _ _ hV
  obtain ⟨g0, g1⟩ := H1.out.gr
  clear hV
  refine wp_region_gr (by kernel_rfl) (by kernel_rfl) ?_
  repeat
    refine wpQuiet_step (fun K hK => ?_)
    first
      | (refine gr_want (by rfl) ?_
         go_simp
         first
           | (refine hK _ ?_; clear hK K)
           | (apply Exists.intro
              refine ⟨fun _ => ?_, hK _ ?_⟩
              (fail)
              clear hK K))
      | (refine gr_skip (by rfl) ?_
         go_simp
         refine hK _ ?_
         clear hK K)
  refine wpQuiet_nil ?_
  intro y9
  have HB2 := keepd (bCall HB.out y9.h)
  have H1b := keepd (SR.call H1.out y9.h H1.out.lt)
  have H2b := keepd (SR.call H2.out y9.h H2.out.lt)
  obtain ⟨V, hw3⟩ : ∃ V, y9.W = V := ⟨_, rfl⟩
  rw [hw3] at HB2 H1b H2b
  rw [hw3]
  clear hw3 g0 g1 H1 H2 HB hsl
  obtain ⟨k0, k1, _, _, _⟩ := line_facts H1b.out
  have HLT := keepd H2b.out.lt
  have HQL : Hid (xt ++ [] = LL) := by show _ = _; rw [← HXE.out, List.append_nil]; exact HLL.out
  have CF := keepd fun (W : World) (hb : Below V.heap.size V W) => HQL.out ▸ of_any A none xt [] t 0 c 0 m W HXT.out rfl ((HXR.out.at_ HB2.out).at_ hb) (Rd.nil _ _) (by omega) (by omega) (by rw [HQL.out]; exact HM.out)
  go_wp2_with fail
  with_reducible refine (CF.out _ (Below.refl _ _)).mono ?_
  rintro e w4 ⟨⟨A4, c4, rfl, ho⟩, hb4⟩
  have HO4 := keepd ho
  have HB4 := keepd (bCall HB2.out hb4)
  have HLT4 : w.heap.size + 1 < V.heap.size := HLT.out
  obtain ⟨m0, m1, m2, m3, lt⟩ := line_facts (SR.call H2b.out hb4 HLT.out)
  clear ho hb4
  go_wp2_with fail
  refine bodyPost_ret (v := .tuple #[.agg #[.slice A4 m c4, .int .i64 (t : Int)], .bool true]) (by simp [results, Tryd.results60, go_sem, m0, m1]) rfl ?_
  obtain ⟨q1, q2⟩ := gotn_end (z := (t : Int)) HLT4 HO4.out HB4.out
  exact ⟨⟨A4, c4, rfl, q1.rdOf⟩, q2⟩

set_option maxHeartbeats 4000000 in
theorem rdo_none (A : Option Addr) (l : List UInt8) (n c t : Nat) (w : World) (hn : n = l.length) (hr : Rd w w.heap.size A l c) (hl : n ≤ 4096) (ht : t ≤ n) (f : Int) (hf : doL l t f = none) :
    Calls Tryd.prog 60 #[.agg #[.slice A n c, .int .i64 (t : Int)], .int .i64 f] w (GotRZ w l n (t : Int) false) := by
  have HN := keepd hn
  have HR0 := keepd hr
  obtain ⟨xt, hxt⟩ : ∃ xt, l.take t = xt := ⟨_, rfl⟩
  have HXT : Hid (t = xt.length) := by show _ = _; rw [← hxt, List.length_take]; omega
  have HXR : Hid (Rd w w.heap.size A xt c) := hxt ▸ hr.take t
  obtain ⟨A2, k, d, hk, hr2, hsl⟩ := tail_of hn hr ht
  have hkn : k = n - t := by rw [hk, List.length_drop, hn]
  have hk4 : k ≤ 100000 := by omega
  have hc1 : n ≤ c := by rw [hn]; exact hr.1
  have hc2 := hr.2.1
  unfold maxLen at hc2
  have s0 : (t : Int) ≤ c := by omega
  have s1 : t ≤ c := by omega
  have s2 : (0 : Int) ≤ (t : Int) := by omega
  have s3 : (t : Int) ≤ (n : Int) := by omega
  have HK := keepd hk
  have HR2 := keepd hr2
  have HXE := keepd hxt
  have v10 : (f == 10) = false := by simp; exact fun e => by rw [e] at hf; simp [doL] at hf
  have v11 : (f == 11) = false := by simp; exact fun e => by rw [e] at hf; simp [doL] at hf
  have v12 : (f == 12) = false := by simp; exact fun e => by rw [e] at hf; simp [doL] at hf
  have v19 : (f == 19) = false := by simp; exact fun e => by rw [e] at hf; simp [doL] at hf
  have v20 : (f == 20) = false := by simp; exact fun e => by rw [e] at hf; simp [doL] at hf
  have v21 : (f == 21) = false := by simp; exact fun e => by rw [e] at hf; simp [doL] at hf
  have v22 : (f == 22) = false := by simp; exact fun e => by rw [e] at hf; simp [doL] at hf
  have v23 : (f == 23) = false := by simp; exact fun e => by rw [e] at hf; simp [doL] at hf
  have v24 : (f == 24) = false := by simp; exact fun e => by rw [e] at hf; simp [doL] at hf
  have v27 : (f == 27) = false := by simp; exact fun e => by rw [e] at hf; simp [doL] at hf
  have v28 : (f == 28) = false := by simp; exact fun e => by rw [e] at hf; simp [doL] at hf
  have v29 : (f == 29) = false := by simp; exact fun e => by rw [e] at hf; simp [doL] at hf
  have v30 : (f == 30) = false := by simp; exact fun e => by rw [e] at hf; simp [doL] at hf
  clear hf
  clear hn hr hr2 hk hxt hkn
  go_enter Tryd.func60, Tryd.ntmps60
  go_upto_region 1 with fail
  generalize hV : (w.alloc (.cells #[.slice A n c, .int .i64 (t : Int)] 30)).alloc (.cells #[.slice none 0 0, .int .i64 0] 30) = V0
  obtain ⟨H1, H2, HB⟩ := line_new2 _ _ _ _ _ _ hV
  obtain ⟨g0, g1⟩ := H1.out.gr
  clear hV
  refine wp_region_gr (by kernel_rfl) (by kernel_rfl) ?_
  repeat
    refine wpQuiet_step (fun K hK => ?_)
    first
      | (refine gr_want (by rfl) ?_
         go_simp
         first
           | (refine hK _ ?_; clear hK K)
           | (apply Exists.intro
              refine ⟨fun _ => ?_, hK _ ?_⟩
              (fail)
              clear hK K))
      | (refine gr_skip (by rfl) ?_
         go_simp
         refine hK _ ?_
         clear hK K)
  refine wpQuiet_nil ?_
  intro y9
  have HB2 := keepd (bCall HB.out y9.h)
  have H1b := keepd (SR.call H1.out y9.h H1.out.lt)
  have H2b := keepd (SR.call H2.out y9.h H2.out.lt)
  obtain ⟨V, hw3⟩ : ∃ V, y9.W = V := ⟨_, rfl⟩
  rw [hw3] at HB2 H1b H2b
  rw [hw3]
  clear hw3 g0 g1 H1 H2 HB hsl
  obtain ⟨k0, k1, _, _, _⟩ := line_facts H1b.out
  have HLT := keepd H2b.out.lt
  obtain ⟨m0, m1, m2, m3, lt⟩ := line_facts H2b.out
  go_wp2_with fail
  refine bodyPost_ret (v := .tuple #[.agg #[.slice A n c, .int .i64 (t : Int)], .bool false]) (by simp [results, Tryd.results60, go_sem, m0, m1]) rfl ?_
  have hb := set2_below HB2.out (Nat.le_succ w.heap.size) (.slice A n c) (.int .i64 (t : Int))
  exact ⟨⟨A, c, rfl, HR0.out.at_ hb⟩, hb⟩

end Go.Proofs.YtlfmbfecajhffaaDoor
/-
  The document's own Do. No conditions beyond those each theorem states.
-/
namespace Go.Proofs.YtlfmbfecajhffaaDoor
open Go.RowKit
set_option maxRecDepth 100000

theorem rdo_go (A : Option Addr) (l L : List UInt8) (n c t s m : Nat) (f : Int) (d : Bool) (w : World) (hn : n = l.length) (hr : Rd w w.heap.size A l c) (hl : n ≤ 4096) (ht : t ≤ n) (hf : doR l t f = (L, s)) (hd : (doL l t f).isSome = d) (hm : L.length = m) :
    Calls Tryd.prog 60 #[.agg #[.slice A n c, .int .i64 (t : Int)], .int .i64 f] w (GotRZ w L m (s : Int) d) := by
  unfold doR at hf
  cases hq : doL l t f with
  | none =>
    rw [hq] at hf hd
    simp only [Option.getD_none, Prod.mk.injEq] at hf
    obtain ⟨rfl, rfl⟩ := hf
    subst hd
    rw [← hn] at hm
    subst hm
    exact rdo_none A l n c t w hn hr hl ht f hq
  | some p =>
    rw [hq] at hf hd
    subst hd
    obtain ⟨P, q⟩ := p
    simp only [Option.getD_some, Prod.mk.injEq] at hf
    obtain ⟨rfl, rfl⟩ := hf
    unfold doL at hq
    rw [← hn] at hq
    by_cases h9 : f = 10
    · rw [if_pos h9] at hq
      simp only [Option.some.injEq, Prod.mk.injEq] at hq
      obtain ⟨rfl, rfl⟩ := hq
      subst h9
      exact rdo10 A l _ n c t m w hn hr hl ht rfl hm
    rw [if_neg h9] at hq
    clear h9
    by_cases h9 : f = 27
    · rw [if_pos h9] at hq
      simp only [Option.some.injEq, Prod.mk.injEq] at hq
      obtain ⟨rfl, rfl⟩ := hq
      subst h9
      exact rdo27 A l _ n c t m w hn hr hl ht rfl hm
    rw [if_neg h9] at hq
    clear h9
    by_cases h9 : f = 12
    · rw [if_pos h9] at hq
      simp only [Option.some.injEq, Prod.mk.injEq] at hq
      obtain ⟨rfl, rfl⟩ := hq
      subst h9
      exact rdo12 A l _ n c t m w hn hr hl ht _ rfl rfl hm
    rw [if_neg h9] at hq
    clear h9
    by_cases h9 : f = 28
    · rw [if_pos h9] at hq
      simp only [Option.some.injEq, Prod.mk.injEq] at hq
      obtain ⟨rfl, rfl⟩ := hq
      subst h9
      exact rdo28 A l _ n c t m w hn hr hl ht _ rfl rfl hm
    rw [if_neg h9] at hq
    clear h9
    by_cases h9 : f = 29
    · rw [if_pos h9] at hq
      simp only [Option.some.injEq, Prod.mk.injEq] at hq
      obtain ⟨rfl, rfl⟩ := hq
      subst h9
      exact rdo29 A l _ n c t m w hn hr hl ht rfl hm
    rw [if_neg h9] at hq
    clear h9
    by_cases h9 : f = 30
    · rw [if_pos h9] at hq
      simp only [Option.some.injEq, Prod.mk.injEq] at hq
      obtain ⟨rfl, rfl⟩ := hq
      subst h9
      exact rdo30 A l _ n c t m w hn hr hl ht rfl hm
    rw [if_neg h9] at hq
    clear h9
    by_cases h9 : f = 11
    · rw [if_pos h9] at hq
      simp only [Option.some.injEq, Prod.mk.injEq] at hq
      obtain ⟨rfl, rfl⟩ := hq
      subst h9
      subst hm
      exact rdo11 A l n c t w hn hr hl ht
    rw [if_neg h9] at hq
    clear h9
    by_cases h9 : f = 19
    · rw [if_pos h9] at hq
      simp only [Option.some.injEq, Prod.mk.injEq] at hq
      obtain ⟨rfl, rfl⟩ := hq
      subst h9
      rw [← hn] at hm
      subst hm
      exact rdo19 A l n c t w hn hr hl ht
    rw [if_neg h9] at hq
    clear h9
    by_cases h9 : f = 20
    · rw [if_pos h9] at hq
      simp only [Option.some.injEq, Prod.mk.injEq] at hq
      obtain ⟨rfl, rfl⟩ := hq
      subst h9
      rw [← hn] at hm
      subst hm
      exact rdo20 A l n c t w hn hr hl ht
    rw [if_neg h9] at hq
    clear h9
    by_cases h9 : f = 21
    · rw [if_pos h9] at hq
      simp only [Option.some.injEq, Prod.mk.injEq] at hq
      obtain ⟨rfl, rfl⟩ := hq
      subst h9
      rw [← hn] at hm
      subst hm
      exact rdo21 A l n c t w hn hr hl ht _ rfl
    rw [if_neg h9] at hq
    clear h9
    by_cases h9 : f = 22
    · rw [if_pos h9] at hq
      simp only [Option.some.injEq, Prod.mk.injEq] at hq
      obtain ⟨rfl, rfl⟩ := hq
      subst h9
      rw [← hn] at hm
      subst hm
      exact rdo22 A l n c t w hn hr hl ht _ rfl
    rw [if_neg h9] at hq
    clear h9
    by_cases h9 : f = 23
    · rw [if_pos h9] at hq
      simp only [Option.some.injEq, Prod.mk.injEq] at hq
      obtain ⟨rfl, rfl⟩ := hq
      subst h9
      rw [← hn] at hm
      subst hm
      exact rdo23 A l n c t w hn hr hl ht
    rw [if_neg h9] at hq
    clear h9
    by_cases h9 : f = 24
    · rw [if_pos h9] at hq
      simp only [Option.some.injEq, Prod.mk.injEq] at hq
      obtain ⟨rfl, rfl⟩ := hq
      subst h9
      rw [← hn] at hm
      subst hm
      exact rdo24 A l n c t w hn hr hl ht
    rw [if_neg h9] at hq
    clear h9
    cases hq

end Go.Proofs.YtlfmbfecajhffaaDoor
