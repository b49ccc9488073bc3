/-
  The contract of the reader of any kind. No conditions beyond those each theorem states.
-/
import Derived.Test.YtflmplnampgflaaO11
namespace Go.Proofs.Ytflmplnampgflaa
open Go.RowKit
set_option maxRecDepth 100000

attribute [local go_sem ↓] ex_ld23 ex_st23 ex_al23 ex_bu23 ex_eq23 ex_ne23 ex_ld26 ex_st26 ex_al26 ex_ld23o ex_st23o ex_bu26 ex_bu26k ex_bu26m ex_bu26l ex_bu26v ex_bu26w ex_eq29 ex_ne29
attribute [local go_sem] ptrB_at okPtr_at aggC_at agg32 agg36 isM_at eqV_m isRow_new isRow_new26 World.setRow_alloc_new ptr3_at okPtr3_at cutM_at putM_at isI_at isL_at bK_at bKM_at bKL_at bKVM_at bKV_at isV_at toV_at

theorem kind_mode (f : Int) (A : Option Addr) (b : List UInt8) (n c : Nat) (o : Option Sb) (w : World) (hn : n = b.length) (hr : Rd w w.heap.size A b c) (q1 : (f == 1) = true) (ho : modeR b = o) : Calls Try.prog 37 #[.int .i64 f, .slice A n c] w (GotS w o) := by
  have HN := keepd hn
  have HR := keepd hr
  have HO := keepd ho
  clear hn hr ho
  go_enter Try.func37, Try.ntmps37
  go_upto_region 1 with fail
  generalize hV : w.alloc (.cells (sc 0 0 0 zM (.slice none 0 0)).toArray 26) = V
  obtain ⟨h1, h2, h3⟩ := one_new _ _ _ _ hV
  obtain ⟨g0, hg⟩ : ∃ g, w.heap.size = g := ⟨_, rfl⟩
  rw [hg] at h1
  rw [hg]
  have HG := keepd hg
  have H1 := keepd h1
  have HB := keepd h2
  clear hV hg h3 h1 h2
  have C := mode_any A b n c V HN.out (HR.out.at_ HB.out)
  rw [HO.out] at C
  have C := keepd C
  go_wp2_with fail
  with_reducible refine C.out.mono ?_
  clear C
  cases o with
  | none =>
    rintro e w3 ⟨rfl, hb3⟩
    have HB3 := keepd (bCall HB.out hb3)
    clear hb3
    go_wp2_with fail
    exact ⟨rfl, rfl, HB3.out⟩
  | some X =>
    rintro e w3 ⟨A3, n3, c3, rfl, hn3, hr3, hb3⟩
    have HB3 := keepd (bCall HB.out hb3)
    have HR3 := keepd hr3
    have HN3 := keepd hn3
    have H3 := keepd (SR.call H1.out hb3 H1.out.lt)
    clear hb3 hr3 hn3
    obtain ⟨a4, a5⟩ := SB.facts H3.out
    go_wp2_with fail
    refine bodyPost_ret (results_s Try.results37 _ _ g0 _ _ _ _ _ rfl (SR.row H3.out _)) rfl ?_
    exact ⟨A3, n3, c3, rfl, HN3.out, RdT.row HR3.out H3.out _, bRow HB3.out (by have := HG.out; omega) _⟩

theorem kind_trip (f : Int) (A : Option Addr) (b : List UInt8) (n c : Nat) (o : Option Sb) (w : World) (hn : n = b.length) (hr : Rd w w.heap.size A b c) (q1 : (f == 1) = false) (q2 : (f == 3) = true) (ho : tripR b = o) : Calls Try.prog 37 #[.int .i64 f, .slice A n c] w (GotS w o) := by
  have HN := keepd hn
  have HR := keepd hr
  have HO := keepd ho
  clear hn hr ho
  go_enter Try.func37, Try.ntmps37
  go_upto_region 1 with fail
  generalize hV : w.alloc (.cells (sc 0 0 0 zM (.slice none 0 0)).toArray 26) = V
  obtain ⟨h1, h2, h3⟩ := one_new _ _ _ _ hV
  obtain ⟨g0, hg⟩ : ∃ g, w.heap.size = g := ⟨_, rfl⟩
  rw [hg] at h1
  rw [hg]
  have HG := keepd hg
  have H1 := keepd h1
  have HB := keepd h2
  clear hV hg h3 h1 h2
  have C := trip_any A b n c V HN.out (HR.out.at_ HB.out)
  rw [HO.out] at C
  have C := keepd C
  go_wp2_with fail
  with_reducible refine C.out.mono ?_
  clear C
  cases o with
  | none =>
    rintro e w3 ⟨rfl, hb3⟩
    have HB3 := keepd (bCall HB.out hb3)
    clear hb3
    go_wp2_with fail
    exact ⟨rfl, rfl, HB3.out⟩
  | some X =>
    rintro e w3 ⟨A3, n3, c3, rfl, hn3, hr3, hb3⟩
    have HB3 := keepd (bCall HB.out hb3)
    have HR3 := keepd hr3
    have HN3 := keepd hn3
    have H3 := keepd (SR.call H1.out hb3 H1.out.lt)
    clear hb3 hr3 hn3
    obtain ⟨a4, a5⟩ := SB.facts H3.out
    go_wp2_with fail
    refine bodyPost_ret (results_s Try.results37 _ _ g0 _ _ _ _ _ rfl (SR.row H3.out _)) rfl ?_
    exact ⟨A3, n3, c3, rfl, HN3.out, RdT.row HR3.out H3.out _, bRow HB3.out (by have := HG.out; omega) _⟩

theorem kind_forw (f : Int) (A : Option Addr) (b : List UInt8) (n c : Nat) (o : Option Sb) (w : World) (hn : n = b.length) (hr : Rd w w.heap.size A b c) (q1 : (f == 1) = false) (q2 : (f == 3) = false) (ho : forwR f b = o) : Calls Try.prog 37 #[.int .i64 f, .slice A n c] w (GotS w o) := by
  have HN := keepd hn
  have HR := keepd hr
  have HO := keepd ho
  clear hn hr ho
  go_enter Try.func37, Try.ntmps37
  go_upto_region 1 with fail
  generalize hV : w.alloc (.cells (sc 0 0 0 zM (.slice none 0 0)).toArray 26) = V
  obtain ⟨h1, h2, h3⟩ := one_new _ _ _ _ hV
  obtain ⟨g0, hg⟩ : ∃ g, w.heap.size = g := ⟨_, rfl⟩
  rw [hg] at h1
  rw [hg]
  have HG := keepd hg
  have H1 := keepd h1
  have HB := keepd h2
  clear hV hg h3 h1 h2
  have C := forw_any f A b n c V HN.out (HR.out.at_ HB.out)
  rw [HO.out] at C
  have C := keepd C
  go_wp2_with fail
  with_reducible refine C.out.mono ?_
  clear C
  cases o with
  | none =>
    rintro e w3 ⟨rfl, hb3⟩
    have HB3 := keepd (bCall HB.out hb3)
    clear hb3
    go_wp2_with fail
    exact ⟨rfl, rfl, HB3.out⟩
  | some X =>
    rintro e w3 ⟨A3, n3, c3, rfl, hn3, hr3, hb3⟩
    have HB3 := keepd (bCall HB.out hb3)
    have HR3 := keepd hr3
    have HN3 := keepd hn3
    have H3 := keepd (SR.call H1.out hb3 H1.out.lt)
    clear hb3 hr3 hn3
    obtain ⟨a4, a5⟩ := SB.facts H3.out
    go_wp2_with fail
    refine bodyPost_ret (results_s Try.results37 _ _ g0 _ _ _ _ _ rfl (SR.row H3.out _)) rfl ?_
    exact ⟨A3, n3, c3, rfl, HN3.out, RdT.row HR3.out H3.out _, bRow HB3.out (by have := HG.out; omega) _⟩

theorem kind_any (f : Int) (A : Option Addr) (b : List UInt8) (n c : Nat) (w : World) (hn : n = b.length) (hr : Rd w w.heap.size A b c) : Calls Try.prog 37 #[.int .i64 f, .slice A n c] w (GotS w (kindR f b)) := by
  unfold kindR
  by_cases h1 : f = 1
  · rw [if_pos h1]
    exact kind_mode f A b n c _ w hn hr (by simpa using h1) rfl
  · rw [if_neg h1]
    by_cases h3 : f = 3
    · rw [if_pos h3]
      exact kind_trip f A b n c _ w hn hr (by simpa using h1) (by simpa using h3) rfl
    · rw [if_neg h3]
      exact kind_forw f A b n c _ w hn hr (by simpa using h1) (by simpa using h3) rfl

end Go.Proofs.Ytflmplnampgflaa
