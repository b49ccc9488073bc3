/-
  The contract of the reader of masks. No conditions beyond those each theorem states.
-/
import Derived.Test.YtflmplnampgflaaO10
import Derived.Test.YtflmplnampgflaaM4
namespace Go.Proofs.Ytflmplnampgflaa
open Go.RowKit
set_option maxRecDepth 100000

attribute [local go_sem ↓] ex_ld23 ex_st23 ex_al23 ex_bu23 ex_eq23 ex_ne23 ex_ld26 ex_st26 ex_al26 ex_ld23o ex_st23o ex_bu26 ex_bu26k ex_bu26m ex_bu26l ex_bu26v ex_bu26w ex_eq29 ex_ne29
attribute [local go_sem] ptrB_at okPtr_at aggC_at agg32 agg36 isM_at eqV_m isRow_new isRow_new26 World.setRow_alloc_new ptr3_at okPtr3_at cutM_at putM_at isI_at isL_at bK_at bKM_at bKL_at bKVM_at bKV_at isV_at toV_at

theorem forw_0 (f : Int) (A : Option Addr) (c : Nat) (w : World) : Calls Try.prog 44 #[.int .i64 f, .slice A 0 c] w (GotS w none) := by
  go_enter Try.func44, Try.ntmps44
  go_upto_region 1 with fail
  generalize hV : w.alloc (.cells (sc 0 0 0 zM (.slice none 0 0)).toArray 26) = V
  obtain ⟨h1, h2, h3⟩ := one_new _ _ _ _ hV
  obtain ⟨g0, hg⟩ : ∃ g, w.heap.size = g := ⟨_, rfl⟩
  rw [hg] at h1
  rw [hg]
  have HG := keepd hg
  have H1 := keepd h1
  have HB := keepd h2
  clear hV hg h3 h1 h2
  have g1 : decide (((0 : Nat) : Int) > 0) = false := by decide
  go_wp2_with fail
  with_reducible refine (need_no _).mono ?_
  rintro e V ⟨rfl, rfl⟩
  go_wp2_with fail
  exact ⟨rfl, rfl, HB.out⟩

theorem forw_b (f : Int) (g off : Nat) (z : Int) (n c : Nat) (w : World) (hn : 0 < n) (hgl : g < w.heap.size) (hc : w.cell? ⟨g, off, none⟩ = some (.int .u8 z)) (q1 : (z == 2) = false) : Calls Try.prog 44 #[.int .i64 f, .slice (some ⟨g, off, none⟩) n c] w (GotS w none) := by
  go_enter Try.func44, Try.ntmps44
  go_upto_region 1 with fail
  generalize hV : w.alloc (.cells (sc 0 0 0 zM (.slice none 0 0)).toArray 26) = V
  obtain ⟨h1, h2, h3⟩ := one_new _ _ _ _ hV
  obtain ⟨g0, hg⟩ : ∃ g, w.heap.size = g := ⟨_, rfl⟩
  rw [hg] at h1
  rw [hg]
  have HG := keepd hg
  have H1 := keepd h1
  have HB := keepd h2
  clear hV hg h3 h1 h2
  have g1 : decide ((n : Int) > 0) = true := decide_eq_true (by omega)
  have g2 : decide (n > 0) = true := decide_eq_true (by omega)
  have g3 : decide (0 < n) = true := decide_eq_true (by omega)
  have i0 : (0 : Int) < (n : Int) := by omega
  have hcV : V.cell? ⟨g, off, none⟩ = some (.int .u8 z) := (HB.out.cell (p := ⟨g, off, none⟩) hgl).trans hc
  go_wp2_with fail
  with_reducible refine (need_no _).mono ?_
  rintro e V ⟨rfl, rfl⟩
  go_wp2_with fail
  exact ⟨rfl, rfl, HB.out⟩

theorem forw_c (f : Int) (g off : Nat) (z : Int) (n c : Nat) (w : World) (hn : 0 < n) (hgl : g < w.heap.size) (hc : w.cell? ⟨g, off, none⟩ = some (.int .u8 z)) (q1 : (z == 2) = true) (q2 : (f == 253) = false) (q3 : ((n : Int) == 1) = false) : Calls Try.prog 44 #[.int .i64 f, .slice (some ⟨g, off, none⟩) n c] w (GotS w none) := by
  go_enter Try.func44, Try.ntmps44
  go_upto_region 1 with fail
  generalize hV : w.alloc (.cells (sc 0 0 0 zM (.slice none 0 0)).toArray 26) = V
  obtain ⟨h1, h2, h3⟩ := one_new _ _ _ _ hV
  obtain ⟨g0, hg⟩ : ∃ g, w.heap.size = g := ⟨_, rfl⟩
  rw [hg] at h1
  rw [hg]
  have HG := keepd hg
  have H1 := keepd h1
  have HB := keepd h2
  clear hV hg h3 h1 h2
  have g1 : decide ((n : Int) > 0) = true := decide_eq_true (by omega)
  have g2 : decide (n > 0) = true := decide_eq_true (by omega)
  have g3 : decide (0 < n) = true := decide_eq_true (by omega)
  have i0 : (0 : Int) < (n : Int) := by omega
  have hcV : V.cell? ⟨g, off, none⟩ = some (.int .u8 z) := (HB.out.cell (p := ⟨g, off, none⟩) hgl).trans hc
  go_wp2_with fail
  with_reducible refine (need_yes _).mono ?_
  rintro e V ⟨rfl, rfl⟩
  go_wp2_with fail
  with_reducible refine (need_no _).mono ?_
  rintro e V ⟨rfl, rfl⟩
  go_wp2_with fail
  exact ⟨rfl, rfl, HB.out⟩

set_option maxHeartbeats 1000000 in
theorem forw_d_no (f : Int) (g off : Nat) (z : Int) (n c : Nat) (w : World) (A1 : Option Addr) (n1 c1 : Nat) (t : List UInt8) (hn : 0 < n) (hgl : g < w.heap.size) (hc : w.cell? ⟨g, off, none⟩ = some (.int .u8 z)) (hA1 : (if c = 1 then some (⟨g, off, none⟩ : Addr) else (some ⟨g, off, none⟩ : Option Addr).map (·.add 1)) = A1 ∧ n - 1 = n1 ∧ c - 1 = c1) (ht : n1 = t.length) (hr : Rd w w.heap.size A1 t c1) (q1 : (z == 2) = true) (q2 : (f == 253) = true) (hX : getF t = (zM, 3)) : Calls Try.prog 44 #[.int .i64 f, .slice (some ⟨g, off, none⟩) n c] w (GotS w none) := by
  have HA1 := keepd hA1
  have HT : Hid (n1 = t.length ∧ Rd w w.heap.size A1 t c1) := ⟨ht, hr⟩
  have HX := keepd hX
  have HN0 := keepd hn
  clear hA1 ht hr hX
  go_enter Try.func44, Try.ntmps44
  go_upto_region 1 with fail
  generalize hV : w.alloc (.cells (sc 0 0 0 zM (.slice none 0 0)).toArray 26) = V
  obtain ⟨h1, h2, h3⟩ := one_new _ _ _ _ hV
  obtain ⟨g0, hg⟩ : ∃ g, w.heap.size = g := ⟨_, rfl⟩
  rw [hg] at h1
  rw [hg]
  have HG := keepd hg
  have H1 := keepd h1
  have HB := keepd h2
  clear hV hg h3 h1 h2
  have g1 : decide ((n : Int) > 0) = true := decide_eq_true (by omega)
  have g2 : decide (n > 0) = true := decide_eq_true (by omega)
  have g3 : decide (0 < n) = true := decide_eq_true (by omega)
  have i0 : (0 : Int) < (n : Int) := by omega
  have hcV : V.cell? ⟨g, off, none⟩ = some (.int .u8 z) := (HB.out.cell (p := ⟨g, off, none⟩) hgl).trans hc
  clear hn
  go_wp2_with fail
  with_reducible refine (need_yes _).mono ?_
  rintro e V ⟨rfl, rfl⟩
  go_wp2_with fail
  with_reducible refine (need_yes _).mono ?_
  rintro e V ⟨rfl, rfl⟩
  have C := keepd (mget_any A1 t n1 c1 HT.out.1 V (HT.out.2.at_ HB.out) (zM) 3 HX.out)
  have hs1 : ∀ W : World, (Instr.sliceAt 27 (.slice (some ⟨g, off, none⟩) n c) (some (.int .i64 1)) none none).run Try.prog W = .ok (.slice A1 n1 c1) W := fun W => by
    rw [← HA1.out.1, ← HA1.out.2.1, ← HA1.out.2.2]
    exact slice_from _ n c 1 (by have := HN0.out; omega) W
  go_wp2_with fail
  with_reducible refine C.out.mono ?_
  rintro e w3 ⟨rfl, hb3⟩
  have HB3 := keepd (bCall HB.out hb3)
  have H3 := keepd (SR.call H1.out hb3 H1.out.lt)
  clear hb3 C hs1
  go_wp2_with fail
  with_reducible refine (need_no _).mono ?_
  rintro e w3 ⟨rfl, rfl⟩
  go_wp2_with fail
  exact ⟨rfl, rfl, bAlloc HB3.out _⟩

set_option maxHeartbeats 1000000 in
theorem forw_d_yes (f : Int) (g off : Nat) (z : Int) (n c : Nat) (w : World) (A1 : Option Addr) (n1 c1 : Nat) (t : List UInt8) (hn : 0 < n) (hgl : g < w.heap.size) (hc : w.cell? ⟨g, off, none⟩ = some (.int .u8 z)) (hA1 : (if c = 1 then some (⟨g, off, none⟩ : Addr) else (some ⟨g, off, none⟩ : Option Addr).map (·.add 1)) = A1 ∧ n - 1 = n1 ∧ c - 1 = c1) (ht : n1 = t.length) (hr : Rd w w.heap.size A1 t c1) (q1 : (z == 2) = true) (q2 : (f == 253) = true) (X : Mk) (hX : getF t = (X, 0)) : Calls Try.prog 44 #[.int .i64 f, .slice (some ⟨g, off, none⟩) n c] w (GotS w (some ⟨2, 0, f, X, []⟩)) := by
  have HA1 := keepd hA1
  have HT : Hid (n1 = t.length ∧ Rd w w.heap.size A1 t c1) := ⟨ht, hr⟩
  have HX := keepd hX
  have HN0 := keepd hn
  clear hA1 ht hr hX
  go_enter Try.func44, Try.ntmps44
  go_upto_region 1 with fail
  generalize hV : w.alloc (.cells (sc 0 0 0 zM (.slice none 0 0)).toArray 26) = V
  obtain ⟨h1, h2, h3⟩ := one_new _ _ _ _ hV
  obtain ⟨g0, hg⟩ : ∃ g, w.heap.size = g := ⟨_, rfl⟩
  rw [hg] at h1
  rw [hg]
  have HG := keepd hg
  have H1 := keepd h1
  have HB := keepd h2
  clear hV hg h3 h1 h2
  have g1 : decide ((n : Int) > 0) = true := decide_eq_true (by omega)
  have g2 : decide (n > 0) = true := decide_eq_true (by omega)
  have g3 : decide (0 < n) = true := decide_eq_true (by omega)
  have i0 : (0 : Int) < (n : Int) := by omega
  have hcV : V.cell? ⟨g, off, none⟩ = some (.int .u8 z) := (HB.out.cell (p := ⟨g, off, none⟩) hgl).trans hc
  clear hn
  go_wp2_with fail
  with_reducible refine (need_yes _).mono ?_
  rintro e V ⟨rfl, rfl⟩
  go_wp2_with fail
  with_reducible refine (need_yes _).mono ?_
  rintro e V ⟨rfl, rfl⟩
  have C := keepd (mget_any A1 t n1 c1 HT.out.1 V (HT.out.2.at_ HB.out) (X) 0 HX.out)
  have hs1 : ∀ W : World, (Instr.sliceAt 27 (.slice (some ⟨g, off, none⟩) n c) (some (.int .i64 1)) none none).run Try.prog W = .ok (.slice A1 n1 c1) W := fun W => by
    rw [← HA1.out.1, ← HA1.out.2.1, ← HA1.out.2.2]
    exact slice_from _ n c 1 (by have := HN0.out; omega) W
  go_wp2_with fail
  with_reducible refine C.out.mono ?_
  rintro e w3 ⟨rfl, hb3⟩
  have HB3 := keepd (bCall HB.out hb3)
  have H3 := keepd (SR.call H1.out hb3 H1.out.lt)
  clear hb3 C hs1
  go_wp2_with fail
  with_reducible refine (need_yes _).mono ?_
  rintro e w4 ⟨rfl, hw4⟩
  have H4 := keepd (SR.alloc H3.out (.cells (ms X).toArray 23))
  have HB4 := keepd (bAlloc HB3.out (.cells (ms X).toArray 23))
  have HM4 := keepd (SR.new 23 w3 (ms X))
  obtain ⟨gm, hgm⟩ : ∃ g, w3.heap.size = g := ⟨_, rfl⟩
  rw [hgm] at HM4 ⊢
  rw [← hw4] at H4 HB4 HM4
  clear hw4
  obtain ⟨a4, a5⟩ := SB.facts H4.out
  obtain ⟨b4, b5⟩ := MB.facts HM4.out
  go_wp2_with fail
  refine bodyPost_ret (results_s Try.results44 _ _ g0 _ _ _ _ _ rfl (SR.row H4.out _)) rfl ?_
  exact ⟨none, 0, 0, rfl, rfl, RdT.nil _, bRow HB4.out (by have := HG.out; omega) _⟩

set_option maxHeartbeats 1000000 in
theorem forw_e_no (f : Int) (g off : Nat) (z : Int) (n c : Nat) (w : World) (A1 : Option Addr) (n1 c1 : Nat) (t : List UInt8) (hn : 0 < n) (hgl : g < w.heap.size) (hc : w.cell? ⟨g, off, none⟩ = some (.int .u8 z)) (hA1 : (if c = 1 then some (⟨g, off, none⟩ : Addr) else (some ⟨g, off, none⟩ : Option Addr).map (·.add 1)) = A1 ∧ n - 1 = n1 ∧ c - 1 = c1) (ht : n1 = t.length) (hr : Rd w w.heap.size A1 t c1) (q1 : (z == 2) = true) (q2 : (f == 253) = false) (q3 : ((n : Int) == 1) = true) (hX : getF t = (zM, 3)) : Calls Try.prog 44 #[.int .i64 f, .slice (some ⟨g, off, none⟩) n c] w (GotS w none) := by
  have HA1 := keepd hA1
  have HT : Hid (n1 = t.length ∧ Rd w w.heap.size A1 t c1) := ⟨ht, hr⟩
  have HX := keepd hX
  have HN0 := keepd hn
  clear hA1 ht hr hX
  go_enter Try.func44, Try.ntmps44
  go_upto_region 1 with fail
  generalize hV : w.alloc (.cells (sc 0 0 0 zM (.slice none 0 0)).toArray 26) = V
  obtain ⟨h1, h2, h3⟩ := one_new _ _ _ _ hV
  obtain ⟨g0, hg⟩ : ∃ g, w.heap.size = g := ⟨_, rfl⟩
  rw [hg] at h1
  rw [hg]
  have HG := keepd hg
  have H1 := keepd h1
  have HB := keepd h2
  clear hV hg h3 h1 h2
  have g1 : decide ((n : Int) > 0) = true := decide_eq_true (by omega)
  have g2 : decide (n > 0) = true := decide_eq_true (by omega)
  have g3 : decide (0 < n) = true := decide_eq_true (by omega)
  have i0 : (0 : Int) < (n : Int) := by omega
  have hcV : V.cell? ⟨g, off, none⟩ = some (.int .u8 z) := (HB.out.cell (p := ⟨g, off, none⟩) hgl).trans hc
  clear hn
  go_wp2_with fail
  with_reducible refine (need_yes _).mono ?_
  rintro e V ⟨rfl, rfl⟩
  go_wp2_with fail
  with_reducible refine (need_yes _).mono ?_
  rintro e V ⟨rfl, rfl⟩
  have C := keepd (mget_any A1 t n1 c1 HT.out.1 V (HT.out.2.at_ HB.out) (zM) 3 HX.out)
  have hs1 : ∀ W : World, (Instr.sliceAt 27 (.slice (some ⟨g, off, none⟩) n c) (some (.int .i64 1)) none none).run Try.prog W = .ok (.slice A1 n1 c1) W := fun W => by
    rw [← HA1.out.1, ← HA1.out.2.1, ← HA1.out.2.2]
    exact slice_from _ n c 1 (by have := HN0.out; omega) W
  go_wp2_with fail
  with_reducible refine C.out.mono ?_
  rintro e w3 ⟨rfl, hb3⟩
  have HB3 := keepd (bCall HB.out hb3)
  have H3 := keepd (SR.call H1.out hb3 H1.out.lt)
  clear hb3 C hs1
  go_wp2_with fail
  with_reducible refine (need_no _).mono ?_
  rintro e w3 ⟨rfl, rfl⟩
  go_wp2_with fail
  exact ⟨rfl, rfl, bAlloc HB3.out _⟩

set_option maxHeartbeats 1000000 in
theorem forw_e_yes (f : Int) (g off : Nat) (z : Int) (n c : Nat) (w : World) (A1 : Option Addr) (n1 c1 : Nat) (t : List UInt8) (hn : 0 < n) (hgl : g < w.heap.size) (hc : w.cell? ⟨g, off, none⟩ = some (.int .u8 z)) (hA1 : (if c = 1 then some (⟨g, off, none⟩ : Addr) else (some ⟨g, off, none⟩ : Option Addr).map (·.add 1)) = A1 ∧ n - 1 = n1 ∧ c - 1 = c1) (ht : n1 = t.length) (hr : Rd w w.heap.size A1 t c1) (q1 : (z == 2) = true) (q2 : (f == 253) = false) (q3 : ((n : Int) == 1) = true) (X : Mk) (hX : getF t = (X, 0)) : Calls Try.prog 44 #[.int .i64 f, .slice (some ⟨g, off, none⟩) n c] w (GotS w (some ⟨2, 0, f, X, []⟩)) := by
  have HA1 := keepd hA1
  have HT : Hid (n1 = t.length ∧ Rd w w.heap.size A1 t c1) := ⟨ht, hr⟩
  have HX := keepd hX
  have HN0 := keepd hn
  clear hA1 ht hr hX
  go_enter Try.func44, Try.ntmps44
  go_upto_region 1 with fail
  generalize hV : w.alloc (.cells (sc 0 0 0 zM (.slice none 0 0)).toArray 26) = V
  obtain ⟨h1, h2, h3⟩ := one_new _ _ _ _ hV
  obtain ⟨g0, hg⟩ : ∃ g, w.heap.size = g := ⟨_, rfl⟩
  rw [hg] at h1
  rw [hg]
  have HG := keepd hg
  have H1 := keepd h1
  have HB := keepd h2
  clear hV hg h3 h1 h2
  have g1 : decide ((n : Int) > 0) = true := decide_eq_true (by omega)
  have g2 : decide (n > 0) = true := decide_eq_true (by omega)
  have g3 : decide (0 < n) = true := decide_eq_true (by omega)
  have i0 : (0 : Int) < (n : Int) := by omega
  have hcV : V.cell? ⟨g, off, none⟩ = some (.int .u8 z) := (HB.out.cell (p := ⟨g, off, none⟩) hgl).trans hc
  clear hn
  go_wp2_with fail
  with_reducible refine (need_yes _).mono ?_
  rintro e V ⟨rfl, rfl⟩
  go_wp2_with fail
  with_reducible refine (need_yes _).mono ?_
  rintro e V ⟨rfl, rfl⟩
  have C := keepd (mget_any A1 t n1 c1 HT.out.1 V (HT.out.2.at_ HB.out) (X) 0 HX.out)
  have hs1 : ∀ W : World, (Instr.sliceAt 27 (.slice (some ⟨g, off, none⟩) n c) (some (.int .i64 1)) none none).run Try.prog W = .ok (.slice A1 n1 c1) W := fun W => by
    rw [← HA1.out.1, ← HA1.out.2.1, ← HA1.out.2.2]
    exact slice_from _ n c 1 (by have := HN0.out; omega) W
  go_wp2_with fail
  with_reducible refine C.out.mono ?_
  rintro e w3 ⟨rfl, hb3⟩
  have HB3 := keepd (bCall HB.out hb3)
  have H3 := keepd (SR.call H1.out hb3 H1.out.lt)
  clear hb3 C hs1
  go_wp2_with fail
  with_reducible refine (need_yes _).mono ?_
  rintro e w4 ⟨rfl, hw4⟩
  have H4 := keepd (SR.alloc H3.out (.cells (ms X).toArray 23))
  have HB4 := keepd (bAlloc HB3.out (.cells (ms X).toArray 23))
  have HM4 := keepd (SR.new 23 w3 (ms X))
  obtain ⟨gm, hgm⟩ : ∃ g, w3.heap.size = g := ⟨_, rfl⟩
  rw [hgm] at HM4 ⊢
  rw [← hw4] at H4 HB4 HM4
  clear hw4
  obtain ⟨a4, a5⟩ := SB.facts H4.out
  obtain ⟨b4, b5⟩ := MB.facts HM4.out
  go_wp2_with fail
  refine bodyPost_ret (results_s Try.results44 _ _ g0 _ _ _ _ _ rfl (SR.row H4.out _)) rfl ?_
  exact ⟨none, 0, 0, rfl, rfl, RdT.nil _, bRow HB4.out (by have := HG.out; omega) _⟩

theorem forw_any (f : Int) (A : Option Addr) (b : List UInt8) (n c : Nat) (w : World) (hn : n = b.length) (hr : Rd w w.heap.size A b c) : Calls Try.prog 44 #[.int .i64 f, .slice A n c] w (GotS w (forwR f b)) := by
  cases b with
  | nil =>
    subst hn
    exact forw_0 f A c w
  | cons x t =>
    obtain ⟨g, off, rfl, hgl, hc⟩ := hr.form (k := 0) (by simp)
    simp only [Nat.add_zero, List.getElem_cons_zero] at hc
    have hlen : n = t.length + 1 := by simpa using hn
    by_cases hx : x = 2
    · have q1 : (((x.toNat : Int)) == 2) = true := by rw [hx]; rfl
      by_cases hf : f = 253 ∨ t = []
      · have hd := hr.drop 1 (by simp)
        have hgf : getF t = if t.length ≤ 32 then (padM t, 0) else (zM, 3) := rfl
        by_cases h32 : t.length ≤ 32
        · have e : forwR f (x :: t) = some ⟨2, 0, f, padM t, []⟩ := by
            rw [forwR_cons, if_pos ⟨hx, hf, h32⟩]
          rw [if_pos h32] at hgf
          rw [e]
          by_cases hf2 : f = 253
          · exact forw_d_yes f g off _ n c w _ _ _ t (by omega) hgl hc ⟨rfl, rfl, rfl⟩ (by omega) hd q1 (by simpa using hf2) _ hgf
          · exact forw_e_yes f g off _ n c w _ _ _ t (by omega) hgl hc ⟨rfl, rfl, rfl⟩ (by omega) hd q1 (by simpa using hf2) (by have ht := hf.resolve_left hf2; subst ht; simp at hlen; simp [hlen]) _ hgf
        · have e : forwR f (x :: t) = none := by
            rw [forwR_cons, if_neg (fun h => h32 h.2.2)]
          rw [if_neg h32] at hgf
          rw [e]
          by_cases hf2 : f = 253
          · exact forw_d_no f g off _ n c w _ _ _ t (by omega) hgl hc ⟨rfl, rfl, rfl⟩ (by omega) hd q1 (by simpa using hf2) hgf
          · exact forw_e_no f g off _ n c w _ _ _ t (by omega) hgl hc ⟨rfl, rfl, rfl⟩ (by omega) hd q1 (by simpa using hf2) (by have ht := hf.resolve_left hf2; subst ht; simp at hlen; simp [hlen]) hgf
      · have e : forwR f (x :: t) = none := by
          rw [forwR_cons, if_neg (fun h => hf h.2.1)]
        rw [e]
        have hl : t.length ≠ 0 := fun h => hf (.inr (List.length_eq_zero_iff.1 h))
        exact forw_c f g off _ n c w (by omega) hgl hc q1 (by simpa using fun h => hf (.inl h)) (by simp; omega)
    · have q1 : (((x.toNat : Int)) == 2) = false := by
        have : ¬ x.toNat = 2 := fun e => hx (UInt8.toNat_inj.1 e)
        simp; omega
      have e : forwR f (x :: t) = none := by
        rw [forwR_cons, if_neg (fun h => hx h.1)]
      rw [e]
      exact forw_b f g off _ n c w (by omega) hgl hc q1

end Go.Proofs.Ytflmplnampgflaa
