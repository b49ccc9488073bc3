/-
  The walks of the document's own Get. No conditions beyond those each theorem states.
-/
import Derived.Test.YtflmplnampgflaaO14
import Derived.Test.YtflmplnampgflaaM7
import Derived.Test.YtflmplnampgflaaS8
namespace Go.Proofs.Ytflmplnampgflaa
open Go.RowKit
set_option maxRecDepth 100000

attribute [local go_sem ↓] ex_ld23 ex_st23 ex_al23 ex_bu23 ex_eq23 ex_ne23 ex_ld26 ex_st26 ex_al26 ex_ld23o ex_st23o ex_bu26 ex_bu26k ex_bu26m ex_bu26l ex_bu26v ex_bu26w ex_eq29 ex_ne29
attribute [local go_sem] ptrB_at okPtr_at aggC_at agg32 agg36 isM_at eqV_m isRow_new isRow_new26 World.setRow_alloc_new ptr3_at okPtr3_at cutM_at putM_at isI_at isL_at bK_at bKM_at bKL_at bKVM_at bKV_at isV_at toV_at

/-- What the document's Get answers. -/
def RGot (w : World) (k m v : Int) (M : Mk) (L : List Tr) (ok : Bool) (e : Ending) (w' : World) : Prop :=
  ∃ A n c, e = .returned (.tuple #[sv k m v M (.slice A n c), .bool ok]) ∧ n = L.length ∧ RdT w' A L c ∧ Below w.heap.size w w'
theorem results_s2 {fn : Func} {p t : Tmp} (h : fn.results = #[.cell p 26, .tmp t]) (tmps : Array Value) (w : World) (g : Nat) (k m v : Int) (M : Mk) (l : Value) (hp : tmps.getD p undef = .pointer (some ⟨g, 0, none⟩)) (hg : SB w g k m v M l) :
    (results fn tmps).run Try.prog w = .ok (.tuple #[sv k m v M l, tmps.getD t undef]) w := by
  have hp' : tmps[p]?.getD undef = .pointer (some ⟨g, 0, none⟩) := by simpa using hp
  simp [results, h, hp', asAddr, run_loadVar_row w g 26 26 _ (0, 0) _ hg Try.underlying26 rfl (by rw [info26]; simp [sc_len])]

theorem rg_0 (A : Option Addr) (c : Nat) (w : World) : Calls Try.prog 13 #[.slice A 0 c] w (RGot w 0 0 0 zM [] false) := by
  go_enter Try.func13, Try.ntmps13
  go_upto_region 1 with fail
  generalize hV : w.alloc (.cells (sc 0 0 0 zM (.slice none 0 0)).toArray 26) = V
  obtain ⟨h1, h2, h3⟩ := one_new _ _ _ _ hV
  obtain ⟨g0, hg⟩ : ∃ g, w.heap.size = g := ⟨_, rfl⟩
  rw [hg] at h1
  rw [hg]
  have HG := keepd hg
  have H1 := keepd h1
  have HB := keepd h2
  clear hV hg h3 h1 h2
  obtain ⟨a4, a5⟩ := SB.facts H1.out
  go_wp2_with fail
  exact bodyPost_ret (results_s2 Try.results13 _ _ g0 _ _ _ _ _ rfl (SR.row H1.out _)) rfl ⟨none, 0, 0, rfl, rfl, RdT.nil _, bRow HB.out (by have := HG.out; omega) _⟩

set_option maxHeartbeats 2000000 in
theorem rg_other (g off n c : Nat) (w : World) (hgl : g < w.heap.size) (z : Int) (hn : 1 ≤ n) (hc0 : w.cell? ⟨g, off, none⟩ = some (.int .u8 z)) (h1 : (z == 1) = false) (h2 : (z == 251) = false) (h3 : (z == 252) = false) (h4 : (z == 254) = false) (h5 : (z == 253) = false) (h6 : (z == 3) = false) :
    Calls Try.prog 13 #[.slice (some ⟨g, off, none⟩) n c] w (RGot w 0 0 0 zM [] false) := by
  go_enter Try.func13, Try.ntmps13
  go_upto_region 1 with fail
  generalize hV : w.alloc (.cells (sc 0 0 0 zM (.slice none 0 0)).toArray 26) = V
  obtain ⟨h1, h2, h3⟩ := one_new _ _ _ _ hV
  obtain ⟨g0, hg⟩ : ∃ g, w.heap.size = g := ⟨_, rfl⟩
  rw [hg] at h1
  rw [hg]
  have HG := keepd hg
  have H1 := keepd h1
  have HB := keepd h2
  clear hV hg h3 h1 h2
  obtain ⟨a4, a5⟩ := SB.facts H1.out
  have hv0 : V.cell? ⟨g, off, none⟩ = some (.int .u8 z) := (HB.out.cell (p := ⟨g, off, none⟩) hgl).trans hc0
  have i0 : (0 : Int) < (n : Int) := by omega
  have t1 : decide ((n : Int) ≥ 1) = true := decide_eq_true (by omega)
  have t1' : decide (n ≥ 1) = true := decide_eq_true (by omega)
  by_cases hn2 : n = 2
  · have q2 : ((n : Int) == 2) = true := by rw [hn2]; rfl
    have t2 : decide ((n : Int) ≥ 2) = true := decide_eq_true (by omega)
    have t2' : decide (n ≥ 2) = true := decide_eq_true (by omega)
    have i1 : (1 : Int) < (n : Int) := by omega
    clear hn2
    go_wp2_with fail
    exact bodyPost_ret (results_s2 Try.results13 _ _ g0 _ _ _ _ _ rfl (SR.row H1.out _)) rfl ⟨none, 0, 0, rfl, rfl, RdT.nil _, bRow HB.out (by have := HG.out; omega) _⟩
  · have q2 : ((n : Int) == 2) = false := by simp; omega
    by_cases hn1 : 2 ≤ n
    · have t2 : decide ((n : Int) ≥ 2) = true := decide_eq_true (by omega)
      have t2' : decide (n ≥ 2) = true := decide_eq_true (by omega)
      have i1 : (1 : Int) < (n : Int) := by omega
      clear hn2
      go_wp2_with fail
      exact bodyPost_ret (results_s2 Try.results13 _ _ g0 _ _ _ _ _ rfl (SR.row H1.out _)) rfl ⟨none, 0, 0, rfl, rfl, RdT.nil _, bRow HB.out (by have := HG.out; omega) _⟩
    · have t2 : decide ((n : Int) ≥ 2) = false := decide_eq_false (by omega)
      have t2' : decide (n ≥ 2) = false := decide_eq_false (by omega)
      clear hn2
      go_wp2_with fail
      exact bodyPost_ret (results_s2 Try.results13 _ _ g0 _ _ _ _ _ rfl (SR.row H1.out _)) rfl ⟨none, 0, 0, rfl, rfl, RdT.nil _, bRow HB.out (by have := HG.out; omega) _⟩

set_option maxHeartbeats 2000000 in
theorem rg_1n (g off n c : Nat) (w : World) (hgl : g < w.heap.size) (hn : 1 ≤ n) (hn2 : n ≠ 2) (hc0 : w.cell? ⟨g, off, none⟩ = some (.int .u8 1)) : Calls Try.prog 13 #[.slice (some ⟨g, off, none⟩) n c] w (RGot w 0 0 0 zM [] false) := by
  go_enter Try.func13, Try.ntmps13
  go_upto_region 1 with fail
  generalize hV : w.alloc (.cells (sc 0 0 0 zM (.slice none 0 0)).toArray 26) = V
  obtain ⟨h1, h2, h3⟩ := one_new _ _ _ _ hV
  obtain ⟨g0, hg⟩ : ∃ g, w.heap.size = g := ⟨_, rfl⟩
  rw [hg] at h1
  rw [hg]
  have HG := keepd hg
  have H1 := keepd h1
  have HB := keepd h2
  clear hV hg h3 h1 h2
  obtain ⟨a4, a5⟩ := SB.facts H1.out
  have hv0 : V.cell? ⟨g, off, none⟩ = some (.int .u8 1) := (HB.out.cell (p := ⟨g, off, none⟩) hgl).trans hc0
  have i0 : (0 : Int) < (n : Int) := by omega
  have t1 : decide ((n : Int) ≥ 1) = true := decide_eq_true (by omega)
  have t1' : decide (n ≥ 1) = true := decide_eq_true (by omega)
  have q2 : ((n : Int) == 2) = false := by simp; omega
  by_cases hn1 : 2 ≤ n
  · have t2 : decide ((n : Int) ≥ 2) = true := decide_eq_true (by omega)
    have t2' : decide (n ≥ 2) = true := decide_eq_true (by omega)
    clear hn2
    go_wp2_with fail
    exact bodyPost_ret (results_s2 Try.results13 _ _ g0 _ _ _ _ _ rfl (SR.row H1.out _)) rfl ⟨none, 0, 0, rfl, rfl, RdT.nil _, bRow HB.out (by have := HG.out; omega) _⟩
  · have t2 : decide ((n : Int) ≥ 2) = false := decide_eq_false (by omega)
    have t2' : decide (n ≥ 2) = false := decide_eq_false (by omega)
    clear hn2
    go_wp2_with fail
    exact bodyPost_ret (results_s2 Try.results13 _ _ g0 _ _ _ _ _ rfl (SR.row H1.out _)) rfl ⟨none, 0, 0, rfl, rfl, RdT.nil _, bRow HB.out (by have := HG.out; omega) _⟩

theorem rg_1y (g off c : Nat) (w : World) (hgl : g < w.heap.size) (y : Int) (hc0 : w.cell? ⟨g, off, none⟩ = some (.int .u8 1)) (hc1 : w.cell? ⟨g, off + 1, none⟩ = some (.int .u8 y)) (hy : decide (y ≤ 31) = true) (hw : wrap64 y = y) : Calls Try.prog 13 #[.slice (some ⟨g, off, none⟩) 2 c] w (RGot w 1 y 0 zM [] true) := by
  have hw2 : IntKind.i64.wrap y = y := by rw [IntWalk.i64_left]; exact hw
  go_enter Try.func13, Try.ntmps13
  go_upto_region 1 with fail
  generalize hV : w.alloc (.cells (sc 0 0 0 zM (.slice none 0 0)).toArray 26) = V
  obtain ⟨h1, h2, h3⟩ := one_new _ _ _ _ hV
  obtain ⟨g0, hg⟩ : ∃ g, w.heap.size = g := ⟨_, rfl⟩
  rw [hg] at h1
  rw [hg]
  have HG := keepd hg
  have H1 := keepd h1
  have HB := keepd h2
  clear hV hg h3 h1 h2
  obtain ⟨a4, a5⟩ := SB.facts H1.out
  have hv0 : V.cell? ⟨g, off, none⟩ = some (.int .u8 1) := (HB.out.cell (p := ⟨g, off, none⟩) hgl).trans hc0
  have hv1 : V.cell? ⟨g, off + 1, none⟩ = some (.int .u8 y) := (HB.out.cell (p := ⟨g, off + 1, none⟩) hgl).trans hc1
  go_wp2_with fail
  exact bodyPost_ret (results_s2 Try.results13 _ _ g0 _ _ _ _ _ rfl (SR.row H1.out _)) rfl ⟨none, 0, 0, rfl, rfl, RdT.nil _, bRow HB.out (by have := HG.out; omega) _⟩

theorem rg_1b (g off c : Nat) (w : World) (hgl : g < w.heap.size) (y : Int) (hc0 : w.cell? ⟨g, off, none⟩ = some (.int .u8 1)) (hc1 : w.cell? ⟨g, off + 1, none⟩ = some (.int .u8 y)) (hy : decide (y ≤ 31) = false) : Calls Try.prog 13 #[.slice (some ⟨g, off, none⟩) 2 c] w (RGot w 0 0 0 zM [] false) := by
  go_enter Try.func13, Try.ntmps13
  go_upto_region 1 with fail
  generalize hV : w.alloc (.cells (sc 0 0 0 zM (.slice none 0 0)).toArray 26) = V
  obtain ⟨h1, h2, h3⟩ := one_new _ _ _ _ hV
  obtain ⟨g0, hg⟩ : ∃ g, w.heap.size = g := ⟨_, rfl⟩
  rw [hg] at h1
  rw [hg]
  have HG := keepd hg
  have H1 := keepd h1
  have HB := keepd h2
  clear hV hg h3 h1 h2
  obtain ⟨a4, a5⟩ := SB.facts H1.out
  have hv0 : V.cell? ⟨g, off, none⟩ = some (.int .u8 1) := (HB.out.cell (p := ⟨g, off, none⟩) hgl).trans hc0
  have hv1 : V.cell? ⟨g, off + 1, none⟩ = some (.int .u8 y) := (HB.out.cell (p := ⟨g, off + 1, none⟩) hgl).trans hc1
  go_wp2_with fail
  exact bodyPost_ret (results_s2 Try.results13 _ _ g0 _ _ _ _ _ rfl (SR.row H1.out _)) rfl ⟨none, 0, 0, rfl, rfl, RdT.nil _, bRow HB.out (by have := HG.out; omega) _⟩

set_option maxHeartbeats 2000000 in
theorem rg_251n (g off n c : Nat) (w : World) (hgl : g < w.heap.size) (hn : 1 ≤ n) (hn2 : n ≠ 2) (hc0 : w.cell? ⟨g, off, none⟩ = some (.int .u8 251)) : Calls Try.prog 13 #[.slice (some ⟨g, off, none⟩) n c] w (RGot w 0 0 0 zM [] false) := by
  go_enter Try.func13, Try.ntmps13
  go_upto_region 1 with fail
  generalize hV : w.alloc (.cells (sc 0 0 0 zM (.slice none 0 0)).toArray 26) = V
  obtain ⟨h1, h2, h3⟩ := one_new _ _ _ _ hV
  obtain ⟨g0, hg⟩ : ∃ g, w.heap.size = g := ⟨_, rfl⟩
  rw [hg] at h1
  rw [hg]
  have HG := keepd hg
  have H1 := keepd h1
  have HB := keepd h2
  clear hV hg h3 h1 h2
  obtain ⟨a4, a5⟩ := SB.facts H1.out
  have hv0 : V.cell? ⟨g, off, none⟩ = some (.int .u8 251) := (HB.out.cell (p := ⟨g, off, none⟩) hgl).trans hc0
  have i0 : (0 : Int) < (n : Int) := by omega
  have t1 : decide ((n : Int) ≥ 1) = true := decide_eq_true (by omega)
  have t1' : decide (n ≥ 1) = true := decide_eq_true (by omega)
  have q2 : ((n : Int) == 2) = false := by simp; omega
  by_cases hn1 : 2 ≤ n
  · have t2 : decide ((n : Int) ≥ 2) = true := decide_eq_true (by omega)
    have t2' : decide (n ≥ 2) = true := decide_eq_true (by omega)
    clear hn2
    go_wp2_with fail
    exact bodyPost_ret (results_s2 Try.results13 _ _ g0 _ _ _ _ _ rfl (SR.row H1.out _)) rfl ⟨none, 0, 0, rfl, rfl, RdT.nil _, bRow HB.out (by have := HG.out; omega) _⟩
  · have t2 : decide ((n : Int) ≥ 2) = false := decide_eq_false (by omega)
    have t2' : decide (n ≥ 2) = false := decide_eq_false (by omega)
    clear hn2
    go_wp2_with fail
    exact bodyPost_ret (results_s2 Try.results13 _ _ g0 _ _ _ _ _ rfl (SR.row H1.out _)) rfl ⟨none, 0, 0, rfl, rfl, RdT.nil _, bRow HB.out (by have := HG.out; omega) _⟩

theorem rg_251y (g off c : Nat) (w : World) (hgl : g < w.heap.size) (hc0 : w.cell? ⟨g, off, none⟩ = some (.int .u8 251)) (hc1 : w.cell? ⟨g, off + 1, none⟩ = some (.int .u8 2)) : Calls Try.prog 13 #[.slice (some ⟨g, off, none⟩) 2 c] w (RGot w 2 0 251 zM [] true) := by
  go_enter Try.func13, Try.ntmps13
  go_upto_region 1 with fail
  generalize hV : w.alloc (.cells (sc 0 0 0 zM (.slice none 0 0)).toArray 26) = V
  obtain ⟨h1, h2, h3⟩ := one_new _ _ _ _ hV
  obtain ⟨g0, hg⟩ : ∃ g, w.heap.size = g := ⟨_, rfl⟩
  rw [hg] at h1
  rw [hg]
  have HG := keepd hg
  have H1 := keepd h1
  have HB := keepd h2
  clear hV hg h3 h1 h2
  obtain ⟨a4, a5⟩ := SB.facts H1.out
  have hv0 : V.cell? ⟨g, off, none⟩ = some (.int .u8 251) := (HB.out.cell (p := ⟨g, off, none⟩) hgl).trans hc0
  have hv1 : V.cell? ⟨g, off + 1, none⟩ = some (.int .u8 2) := (HB.out.cell (p := ⟨g, off + 1, none⟩) hgl).trans hc1
  go_wp2_with fail
  exact bodyPost_ret (results_s2 Try.results13 _ _ g0 _ _ _ _ _ rfl (SR.row H1.out _)) rfl ⟨none, 0, 0, rfl, rfl, RdT.nil _, bRow HB.out (by have := HG.out; omega) _⟩

theorem rg_251b (g off c : Nat) (w : World) (hgl : g < w.heap.size) (y : Int) (hc0 : w.cell? ⟨g, off, none⟩ = some (.int .u8 251)) (hc1 : w.cell? ⟨g, off + 1, none⟩ = some (.int .u8 y)) (hy : (y == 2) = false) : Calls Try.prog 13 #[.slice (some ⟨g, off, none⟩) 2 c] w (RGot w 0 0 0 zM [] false) := by
  go_enter Try.func13, Try.ntmps13
  go_upto_region 1 with fail
  generalize hV : w.alloc (.cells (sc 0 0 0 zM (.slice none 0 0)).toArray 26) = V
  obtain ⟨h1, h2, h3⟩ := one_new _ _ _ _ hV
  obtain ⟨g0, hg⟩ : ∃ g, w.heap.size = g := ⟨_, rfl⟩
  rw [hg] at h1
  rw [hg]
  have HG := keepd hg
  have H1 := keepd h1
  have HB := keepd h2
  clear hV hg h3 h1 h2
  obtain ⟨a4, a5⟩ := SB.facts H1.out
  have hv0 : V.cell? ⟨g, off, none⟩ = some (.int .u8 251) := (HB.out.cell (p := ⟨g, off, none⟩) hgl).trans hc0
  have hv1 : V.cell? ⟨g, off + 1, none⟩ = some (.int .u8 y) := (HB.out.cell (p := ⟨g, off + 1, none⟩) hgl).trans hc1
  go_wp2_with fail
  exact bodyPost_ret (results_s2 Try.results13 _ _ g0 _ _ _ _ _ rfl (SR.row H1.out _)) rfl ⟨none, 0, 0, rfl, rfl, RdT.nil _, bRow HB.out (by have := HG.out; omega) _⟩

set_option maxHeartbeats 2000000 in
theorem rg_252n (g off n c : Nat) (w : World) (hgl : g < w.heap.size) (hn : 1 ≤ n) (hn2 : n ≠ 2) (hc0 : w.cell? ⟨g, off, none⟩ = some (.int .u8 252)) : Calls Try.prog 13 #[.slice (some ⟨g, off, none⟩) n c] w (RGot w 0 0 0 zM [] false) := by
  go_enter Try.func13, Try.ntmps13
  go_upto_region 1 with fail
  generalize hV : w.alloc (.cells (sc 0 0 0 zM (.slice none 0 0)).toArray 26) = V
  obtain ⟨h1, h2, h3⟩ := one_new _ _ _ _ hV
  obtain ⟨g0, hg⟩ : ∃ g, w.heap.size = g := ⟨_, rfl⟩
  rw [hg] at h1
  rw [hg]
  have HG := keepd hg
  have H1 := keepd h1
  have HB := keepd h2
  clear hV hg h3 h1 h2
  obtain ⟨a4, a5⟩ := SB.facts H1.out
  have hv0 : V.cell? ⟨g, off, none⟩ = some (.int .u8 252) := (HB.out.cell (p := ⟨g, off, none⟩) hgl).trans hc0
  have i0 : (0 : Int) < (n : Int) := by omega
  have t1 : decide ((n : Int) ≥ 1) = true := decide_eq_true (by omega)
  have t1' : decide (n ≥ 1) = true := decide_eq_true (by omega)
  have q2 : ((n : Int) == 2) = false := by simp; omega
  by_cases hn1 : 2 ≤ n
  · have t2 : decide ((n : Int) ≥ 2) = true := decide_eq_true (by omega)
    have t2' : decide (n ≥ 2) = true := decide_eq_true (by omega)
    clear hn2
    go_wp2_with fail
    exact bodyPost_ret (results_s2 Try.results13 _ _ g0 _ _ _ _ _ rfl (SR.row H1.out _)) rfl ⟨none, 0, 0, rfl, rfl, RdT.nil _, bRow HB.out (by have := HG.out; omega) _⟩
  · have t2 : decide ((n : Int) ≥ 2) = false := decide_eq_false (by omega)
    have t2' : decide (n ≥ 2) = false := decide_eq_false (by omega)
    clear hn2
    go_wp2_with fail
    exact bodyPost_ret (results_s2 Try.results13 _ _ g0 _ _ _ _ _ rfl (SR.row H1.out _)) rfl ⟨none, 0, 0, rfl, rfl, RdT.nil _, bRow HB.out (by have := HG.out; omega) _⟩

theorem rg_252y (g off c : Nat) (w : World) (hgl : g < w.heap.size) (hc0 : w.cell? ⟨g, off, none⟩ = some (.int .u8 252)) (hc1 : w.cell? ⟨g, off + 1, none⟩ = some (.int .u8 2)) : Calls Try.prog 13 #[.slice (some ⟨g, off, none⟩) 2 c] w (RGot w 2 0 252 zM [] true) := by
  go_enter Try.func13, Try.ntmps13
  go_upto_region 1 with fail
  generalize hV : w.alloc (.cells (sc 0 0 0 zM (.slice none 0 0)).toArray 26) = V
  obtain ⟨h1, h2, h3⟩ := one_new _ _ _ _ hV
  obtain ⟨g0, hg⟩ : ∃ g, w.heap.size = g := ⟨_, rfl⟩
  rw [hg] at h1
  rw [hg]
  have HG := keepd hg
  have H1 := keepd h1
  have HB := keepd h2
  clear hV hg h3 h1 h2
  obtain ⟨a4, a5⟩ := SB.facts H1.out
  have hv0 : V.cell? ⟨g, off, none⟩ = some (.int .u8 252) := (HB.out.cell (p := ⟨g, off, none⟩) hgl).trans hc0
  have hv1 : V.cell? ⟨g, off + 1, none⟩ = some (.int .u8 2) := (HB.out.cell (p := ⟨g, off + 1, none⟩) hgl).trans hc1
  go_wp2_with fail
  exact bodyPost_ret (results_s2 Try.results13 _ _ g0 _ _ _ _ _ rfl (SR.row H1.out _)) rfl ⟨none, 0, 0, rfl, rfl, RdT.nil _, bRow HB.out (by have := HG.out; omega) _⟩

theorem rg_252b (g off c : Nat) (w : World) (hgl : g < w.heap.size) (y : Int) (hc0 : w.cell? ⟨g, off, none⟩ = some (.int .u8 252)) (hc1 : w.cell? ⟨g, off + 1, none⟩ = some (.int .u8 y)) (hy : (y == 2) = false) : Calls Try.prog 13 #[.slice (some ⟨g, off, none⟩) 2 c] w (RGot w 0 0 0 zM [] false) := by
  go_enter Try.func13, Try.ntmps13
  go_upto_region 1 with fail
  generalize hV : w.alloc (.cells (sc 0 0 0 zM (.slice none 0 0)).toArray 26) = V
  obtain ⟨h1, h2, h3⟩ := one_new _ _ _ _ hV
  obtain ⟨g0, hg⟩ : ∃ g, w.heap.size = g := ⟨_, rfl⟩
  rw [hg] at h1
  rw [hg]
  have HG := keepd hg
  have H1 := keepd h1
  have HB := keepd h2
  clear hV hg h3 h1 h2
  obtain ⟨a4, a5⟩ := SB.facts H1.out
  have hv0 : V.cell? ⟨g, off, none⟩ = some (.int .u8 252) := (HB.out.cell (p := ⟨g, off, none⟩) hgl).trans hc0
  have hv1 : V.cell? ⟨g, off + 1, none⟩ = some (.int .u8 y) := (HB.out.cell (p := ⟨g, off + 1, none⟩) hgl).trans hc1
  go_wp2_with fail
  exact bodyPost_ret (results_s2 Try.results13 _ _ g0 _ _ _ _ _ rfl (SR.row H1.out _)) rfl ⟨none, 0, 0, rfl, rfl, RdT.nil _, bRow HB.out (by have := HG.out; omega) _⟩

set_option maxHeartbeats 2000000 in
theorem rg_254n (g off n c : Nat) (w : World) (hgl : g < w.heap.size) (hn : 1 ≤ n) (hn2 : n ≠ 2) (hc0 : w.cell? ⟨g, off, none⟩ = some (.int .u8 254)) : Calls Try.prog 13 #[.slice (some ⟨g, off, none⟩) n c] w (RGot w 0 0 0 zM [] false) := by
  go_enter Try.func13, Try.ntmps13
  go_upto_region 1 with fail
  generalize hV : w.alloc (.cells (sc 0 0 0 zM (.slice none 0 0)).toArray 26) = V
  obtain ⟨h1, h2, h3⟩ := one_new _ _ _ _ hV
  obtain ⟨g0, hg⟩ : ∃ g, w.heap.size = g := ⟨_, rfl⟩
  rw [hg] at h1
  rw [hg]
  have HG := keepd hg
  have H1 := keepd h1
  have HB := keepd h2
  clear hV hg h3 h1 h2
  obtain ⟨a4, a5⟩ := SB.facts H1.out
  have hv0 : V.cell? ⟨g, off, none⟩ = some (.int .u8 254) := (HB.out.cell (p := ⟨g, off, none⟩) hgl).trans hc0
  have i0 : (0 : Int) < (n : Int) := by omega
  have t1 : decide ((n : Int) ≥ 1) = true := decide_eq_true (by omega)
  have t1' : decide (n ≥ 1) = true := decide_eq_true (by omega)
  have q2 : ((n : Int) == 2) = false := by simp; omega
  by_cases hn1 : 2 ≤ n
  · have t2 : decide ((n : Int) ≥ 2) = true := decide_eq_true (by omega)
    have t2' : decide (n ≥ 2) = true := decide_eq_true (by omega)
    clear hn2
    go_wp2_with fail
    exact bodyPost_ret (results_s2 Try.results13 _ _ g0 _ _ _ _ _ rfl (SR.row H1.out _)) rfl ⟨none, 0, 0, rfl, rfl, RdT.nil _, bRow HB.out (by have := HG.out; omega) _⟩
  · have t2 : decide ((n : Int) ≥ 2) = false := decide_eq_false (by omega)
    have t2' : decide (n ≥ 2) = false := decide_eq_false (by omega)
    clear hn2
    go_wp2_with fail
    exact bodyPost_ret (results_s2 Try.results13 _ _ g0 _ _ _ _ _ rfl (SR.row H1.out _)) rfl ⟨none, 0, 0, rfl, rfl, RdT.nil _, bRow HB.out (by have := HG.out; omega) _⟩

theorem rg_254y (g off c : Nat) (w : World) (hgl : g < w.heap.size) (hc0 : w.cell? ⟨g, off, none⟩ = some (.int .u8 254)) (hc1 : w.cell? ⟨g, off + 1, none⟩ = some (.int .u8 2)) : Calls Try.prog 13 #[.slice (some ⟨g, off, none⟩) 2 c] w (RGot w 2 0 254 zM [] true) := by
  go_enter Try.func13, Try.ntmps13
  go_upto_region 1 with fail
  generalize hV : w.alloc (.cells (sc 0 0 0 zM (.slice none 0 0)).toArray 26) = V
  obtain ⟨h1, h2, h3⟩ := one_new _ _ _ _ hV
  obtain ⟨g0, hg⟩ : ∃ g, w.heap.size = g := ⟨_, rfl⟩
  rw [hg] at h1
  rw [hg]
  have HG := keepd hg
  have H1 := keepd h1
  have HB := keepd h2
  clear hV hg h3 h1 h2
  obtain ⟨a4, a5⟩ := SB.facts H1.out
  have hv0 : V.cell? ⟨g, off, none⟩ = some (.int .u8 254) := (HB.out.cell (p := ⟨g, off, none⟩) hgl).trans hc0
  have hv1 : V.cell? ⟨g, off + 1, none⟩ = some (.int .u8 2) := (HB.out.cell (p := ⟨g, off + 1, none⟩) hgl).trans hc1
  go_wp2_with fail
  exact bodyPost_ret (results_s2 Try.results13 _ _ g0 _ _ _ _ _ rfl (SR.row H1.out _)) rfl ⟨none, 0, 0, rfl, rfl, RdT.nil _, bRow HB.out (by have := HG.out; omega) _⟩

theorem rg_254b (g off c : Nat) (w : World) (hgl : g < w.heap.size) (y : Int) (hc0 : w.cell? ⟨g, off, none⟩ = some (.int .u8 254)) (hc1 : w.cell? ⟨g, off + 1, none⟩ = some (.int .u8 y)) (hy : (y == 2) = false) : Calls Try.prog 13 #[.slice (some ⟨g, off, none⟩) 2 c] w (RGot w 0 0 0 zM [] false) := by
  go_enter Try.func13, Try.ntmps13
  go_upto_region 1 with fail
  generalize hV : w.alloc (.cells (sc 0 0 0 zM (.slice none 0 0)).toArray 26) = V
  obtain ⟨h1, h2, h3⟩ := one_new _ _ _ _ hV
  obtain ⟨g0, hg⟩ : ∃ g, w.heap.size = g := ⟨_, rfl⟩
  rw [hg] at h1
  rw [hg]
  have HG := keepd hg
  have H1 := keepd h1
  have HB := keepd h2
  clear hV hg h3 h1 h2
  obtain ⟨a4, a5⟩ := SB.facts H1.out
  have hv0 : V.cell? ⟨g, off, none⟩ = some (.int .u8 254) := (HB.out.cell (p := ⟨g, off, none⟩) hgl).trans hc0
  have hv1 : V.cell? ⟨g, off + 1, none⟩ = some (.int .u8 y) := (HB.out.cell (p := ⟨g, off + 1, none⟩) hgl).trans hc1
  go_wp2_with fail
  exact bodyPost_ret (results_s2 Try.results13 _ _ g0 _ _ _ _ _ rfl (SR.row H1.out _)) rfl ⟨none, 0, 0, rfl, rfl, RdT.nil _, bRow HB.out (by have := HG.out; omega) _⟩

theorem rg_253n (g off c : Nat) (w : World) (hgl : g < w.heap.size) (hc0 : w.cell? ⟨g, off, none⟩ = some (.int .u8 253)) : Calls Try.prog 13 #[.slice (some ⟨g, off, none⟩) 1 c] w (RGot w 0 0 0 zM [] false) := by
  go_enter Try.func13, Try.ntmps13
  go_upto_region 1 with fail
  generalize hV : w.alloc (.cells (sc 0 0 0 zM (.slice none 0 0)).toArray 26) = V
  obtain ⟨h1, h2, h3⟩ := one_new _ _ _ _ hV
  obtain ⟨g0, hg⟩ : ∃ g, w.heap.size = g := ⟨_, rfl⟩
  rw [hg] at h1
  rw [hg]
  have HG := keepd hg
  have H1 := keepd h1
  have HB := keepd h2
  clear hV hg h3 h1 h2
  obtain ⟨a4, a5⟩ := SB.facts H1.out
  have hv0 : V.cell? ⟨g, off, none⟩ = some (.int .u8 253) := (HB.out.cell (p := ⟨g, off, none⟩) hgl).trans hc0
  go_wp2_with fail
  exact bodyPost_ret (results_s2 Try.results13 _ _ g0 _ _ _ _ _ rfl (SR.row H1.out _)) rfl ⟨none, 0, 0, rfl, rfl, RdT.nil _, bRow HB.out (by have := HG.out; omega) _⟩

set_option maxHeartbeats 2000000 in
theorem rg_253b (g off n c : Nat) (w : World) (hgl : g < w.heap.size) (y : Int) (hn : 2 ≤ n) (hc0 : w.cell? ⟨g, off, none⟩ = some (.int .u8 253)) (hc1 : w.cell? ⟨g, off + 1, none⟩ = some (.int .u8 y)) (hy : (y == 2) = false) : Calls Try.prog 13 #[.slice (some ⟨g, off, none⟩) n c] w (RGot w 0 0 0 zM [] false) := by
  go_enter Try.func13, Try.ntmps13
  go_upto_region 1 with fail
  generalize hV : w.alloc (.cells (sc 0 0 0 zM (.slice none 0 0)).toArray 26) = V
  obtain ⟨h1, h2, h3⟩ := one_new _ _ _ _ hV
  obtain ⟨g0, hg⟩ : ∃ g, w.heap.size = g := ⟨_, rfl⟩
  rw [hg] at h1
  rw [hg]
  have HG := keepd hg
  have H1 := keepd h1
  have HB := keepd h2
  clear hV hg h3 h1 h2
  obtain ⟨a4, a5⟩ := SB.facts H1.out
  have hv0 : V.cell? ⟨g, off, none⟩ = some (.int .u8 253) := (HB.out.cell (p := ⟨g, off, none⟩) hgl).trans hc0
  have hv1 : V.cell? ⟨g, off + 1, none⟩ = some (.int .u8 y) := (HB.out.cell (p := ⟨g, off + 1, none⟩) hgl).trans hc1
  have i0 : (0 : Int) < (n : Int) := by omega
  have t1 : decide ((n : Int) ≥ 1) = true := decide_eq_true (by omega)
  have t1' : decide (n ≥ 1) = true := decide_eq_true (by omega)
  have t2 : decide ((n : Int) ≥ 2) = true := decide_eq_true (by omega)
  have t2' : decide (n ≥ 2) = true := decide_eq_true (by omega)
  have i1 : (1 : Int) < (n : Int) := by omega
  cases q2 : ((n : Int) == 2)
  · go_wp2_with fail
    exact bodyPost_ret (results_s2 Try.results13 _ _ g0 _ _ _ _ _ rfl (SR.row H1.out _)) rfl ⟨none, 0, 0, rfl, rfl, RdT.nil _, bRow HB.out (by have := HG.out; omega) _⟩
  · go_wp2_with fail
    exact bodyPost_ret (results_s2 Try.results13 _ _ g0 _ _ _ _ _ rfl (SR.row H1.out _)) rfl ⟨none, 0, 0, rfl, rfl, RdT.nil _, bRow HB.out (by have := HG.out; omega) _⟩

set_option maxHeartbeats 4000000 in
theorem rg_253y (g off n c : Nat) (w : World) (hgl : g < w.heap.size) (A2 : Option Addr) (n2 c2 : Nat) (t : List UInt8) (X : Mk) (hn : 2 ≤ n) (hc0 : w.cell? ⟨g, off, none⟩ = some (.int .u8 253)) (hc1 : w.cell? ⟨g, off + 1, none⟩ = some (.int .u8 2))
    (hA2 : (if c = 2 then some (⟨g, off, none⟩ : Addr) else (some ⟨g, off, none⟩ : Option Addr).map (·.add 2)) = A2 ∧ n - 2 = n2 ∧ c - 2 = c2) (ht : n2 = t.length) (hr : Rd w w.heap.size A2 t c2) (hX : getR t = (X, true)) : Calls Try.prog 13 #[.slice (some ⟨g, off, none⟩) n c] w (RGot w 2 0 253 X [] true) := by
  have HA2 := keepd hA2
  have HT : Hid (n2 = t.length ∧ Rd w w.heap.size A2 t c2) := ⟨ht, hr⟩
  have HX := keepd hX
  have HN0 := keepd hn
  clear hA2 ht hr hX
  go_enter Try.func13, Try.ntmps13
  go_upto_region 1 with fail
  generalize hV : w.alloc (.cells (sc 0 0 0 zM (.slice none 0 0)).toArray 26) = V
  obtain ⟨h1, h2, h3⟩ := one_new _ _ _ _ hV
  obtain ⟨g0, hg⟩ : ∃ g, w.heap.size = g := ⟨_, rfl⟩
  rw [hg] at h1
  rw [hg]
  have HG := keepd hg
  have H1 := keepd h1
  have HB := keepd h2
  clear hV hg h3 h1 h2
  obtain ⟨a4, a5⟩ := SB.facts H1.out
  have hv0 : V.cell? ⟨g, off, none⟩ = some (.int .u8 253) := (HB.out.cell (p := ⟨g, off, none⟩) hgl).trans hc0
  have hv1 : V.cell? ⟨g, off + 1, none⟩ = some (.int .u8 2) := (HB.out.cell (p := ⟨g, off + 1, none⟩) hgl).trans hc1
  have i0 : (0 : Int) < (n : Int) := by omega
  have t1 : decide ((n : Int) ≥ 1) = true := decide_eq_true (by omega)
  have t1' : decide (n ≥ 1) = true := decide_eq_true (by omega)
  have t2 : decide ((n : Int) ≥ 2) = true := decide_eq_true (by omega)
  have t2' : decide (n ≥ 2) = true := decide_eq_true (by omega)
  have i1 : (1 : Int) < (n : Int) := by omega
  have C := keepd (refGet_any A2 t n2 c2 HT.out.1 V (HT.out.2.at_ HB.out) X true HX.out)
  have hs2 : ∀ W : World, (Instr.sliceAt 27 (.slice (some ⟨g, off, none⟩) n c) (some (.int .i64 2)) none none).run Try.prog W = .ok (.slice A2 n2 c2) W := fun W => by
    rw [← HA2.out.1, ← HA2.out.2.1, ← HA2.out.2.2]
    exact slice_from _ n c 2 HN0.out W
  clear hn
  cases q2 : ((n : Int) == 2)
  · go_wp2_with fail
    with_reducible refine C.out.mono ?_
    rintro e w3 ⟨rfl, hb3⟩
    have HB3 := keepd (bCall HB.out hb3)
    have H3 := keepd (SR.call H1.out hb3 H1.out.lt)
    clear hb3 C hs2 a4 a5
    go_upto_region 7 with fail
    obtain ⟨w4, hw4⟩ : ∃ W, w3.alloc (.cells (ms X).toArray 23) = W := ⟨_, rfl⟩
    have H4 := keepd (SR.alloc H3.out (.cells (ms X).toArray 23))
    have HB4 := keepd (bAlloc HB3.out (.cells (ms X).toArray 23))
    have HM4 := keepd (SR.new 23 w3 (ms X))
    obtain ⟨gm, hgm⟩ : ∃ g, w3.heap.size = g := ⟨_, rfl⟩
    rw [hgm] at HM4 ⊢
    rw [hw4] at H4 HB4 HM4 ⊢
    clear hw4 hgm
    obtain ⟨a4, a5⟩ := SB.facts H4.out
    obtain ⟨b4, b5⟩ := MB.facts HM4.out
    go_wp2_with fail
    exact bodyPost_ret (results_s2 Try.results13 _ _ g0 _ _ _ _ _ rfl (SR.row H4.out _)) rfl ⟨none, 0, 0, rfl, rfl, RdT.nil _, bRow HB4.out (by have := HG.out; omega) _⟩
  · go_wp2_with fail
    with_reducible refine C.out.mono ?_
    rintro e w3 ⟨rfl, hb3⟩
    have HB3 := keepd (bCall HB.out hb3)
    have H3 := keepd (SR.call H1.out hb3 H1.out.lt)
    clear hb3 C hs2 a4 a5
    go_upto_region 7 with fail
    obtain ⟨w4, hw4⟩ : ∃ W, w3.alloc (.cells (ms X).toArray 23) = W := ⟨_, rfl⟩
    have H4 := keepd (SR.alloc H3.out (.cells (ms X).toArray 23))
    have HB4 := keepd (bAlloc HB3.out (.cells (ms X).toArray 23))
    have HM4 := keepd (SR.new 23 w3 (ms X))
    obtain ⟨gm, hgm⟩ : ∃ g, w3.heap.size = g := ⟨_, rfl⟩
    rw [hgm] at HM4 ⊢
    rw [hw4] at H4 HB4 HM4 ⊢
    clear hw4 hgm
    obtain ⟨a4, a5⟩ := SB.facts H4.out
    obtain ⟨b4, b5⟩ := MB.facts HM4.out
    go_wp2_with fail
    exact bodyPost_ret (results_s2 Try.results13 _ _ g0 _ _ _ _ _ rfl (SR.row H4.out _)) rfl ⟨none, 0, 0, rfl, rfl, RdT.nil _, bRow HB4.out (by have := HG.out; omega) _⟩

set_option maxHeartbeats 4000000 in
theorem rg_253e (g off n c : Nat) (w : World) (hgl : g < w.heap.size) (A2 : Option Addr) (n2 c2 : Nat) (t : List UInt8) (hn : 2 ≤ n) (hc0 : w.cell? ⟨g, off, none⟩ = some (.int .u8 253)) (hc1 : w.cell? ⟨g, off + 1, none⟩ = some (.int .u8 2))
    (hA2 : (if c = 2 then some (⟨g, off, none⟩ : Addr) else (some ⟨g, off, none⟩ : Option Addr).map (·.add 2)) = A2 ∧ n - 2 = n2 ∧ c - 2 = c2) (ht : n2 = t.length) (hr : Rd w w.heap.size A2 t c2) (hX : getR t = (zM, false)) : Calls Try.prog 13 #[.slice (some ⟨g, off, none⟩) n c] w (RGot w 0 0 0 zM [] false) := by
  have HA2 := keepd hA2
  have HT : Hid (n2 = t.length ∧ Rd w w.heap.size A2 t c2) := ⟨ht, hr⟩
  have HX := keepd hX
  have HN0 := keepd hn
  clear hA2 ht hr hX
  go_enter Try.func13, Try.ntmps13
  go_upto_region 1 with fail
  generalize hV : w.alloc (.cells (sc 0 0 0 zM (.slice none 0 0)).toArray 26) = V
  obtain ⟨h1, h2, h3⟩ := one_new _ _ _ _ hV
  obtain ⟨g0, hg⟩ : ∃ g, w.heap.size = g := ⟨_, rfl⟩
  rw [hg] at h1
  rw [hg]
  have HG := keepd hg
  have H1 := keepd h1
  have HB := keepd h2
  clear hV hg h3 h1 h2
  obtain ⟨a4, a5⟩ := SB.facts H1.out
  have hv0 : V.cell? ⟨g, off, none⟩ = some (.int .u8 253) := (HB.out.cell (p := ⟨g, off, none⟩) hgl).trans hc0
  have hv1 : V.cell? ⟨g, off + 1, none⟩ = some (.int .u8 2) := (HB.out.cell (p := ⟨g, off + 1, none⟩) hgl).trans hc1
  have i0 : (0 : Int) < (n : Int) := by omega
  have t1 : decide ((n : Int) ≥ 1) = true := decide_eq_true (by omega)
  have t1' : decide (n ≥ 1) = true := decide_eq_true (by omega)
  have t2 : decide ((n : Int) ≥ 2) = true := decide_eq_true (by omega)
  have t2' : decide (n ≥ 2) = true := decide_eq_true (by omega)
  have i1 : (1 : Int) < (n : Int) := by omega
  have C := keepd (refGet_any A2 t n2 c2 HT.out.1 V (HT.out.2.at_ HB.out) zM false HX.out)
  have hs2 : ∀ W : World, (Instr.sliceAt 27 (.slice (some ⟨g, off, none⟩) n c) (some (.int .i64 2)) none none).run Try.prog W = .ok (.slice A2 n2 c2) W := fun W => by
    rw [← HA2.out.1, ← HA2.out.2.1, ← HA2.out.2.2]
    exact slice_from _ n c 2 HN0.out W
  clear hn
  cases q2 : ((n : Int) == 2)
  · go_wp2_with fail
    with_reducible refine C.out.mono ?_
    rintro e w3 ⟨rfl, hb3⟩
    have HB3 := keepd (bCall HB.out hb3)
    have H3 := keepd (SR.call H1.out hb3 H1.out.lt)
    clear hb3 C hs2 a4 a5
    go_upto_region 7 with fail
    obtain ⟨w4, hw4⟩ : ∃ W, w3.alloc (.cells (ms zM).toArray 23) = W := ⟨_, rfl⟩
    have H4 := keepd (SR.alloc H3.out (.cells (ms zM).toArray 23))
    have HB4 := keepd (bAlloc HB3.out (.cells (ms zM).toArray 23))
    rw [hw4] at H4 HB4 ⊢
    clear hw4
    obtain ⟨a4, a5⟩ := SB.facts H4.out
    go_wp2_with fail
    exact bodyPost_ret (results_s2 Try.results13 _ _ g0 _ _ _ _ _ rfl (SR.row H4.out _)) rfl ⟨none, 0, 0, rfl, rfl, RdT.nil _, bRow HB4.out (by have := HG.out; omega) _⟩
  · go_wp2_with fail
    with_reducible refine C.out.mono ?_
    rintro e w3 ⟨rfl, hb3⟩
    have HB3 := keepd (bCall HB.out hb3)
    have H3 := keepd (SR.call H1.out hb3 H1.out.lt)
    clear hb3 C hs2 a4 a5
    go_upto_region 7 with fail
    obtain ⟨w4, hw4⟩ : ∃ W, w3.alloc (.cells (ms zM).toArray 23) = W := ⟨_, rfl⟩
    have H4 := keepd (SR.alloc H3.out (.cells (ms zM).toArray 23))
    have HB4 := keepd (bAlloc HB3.out (.cells (ms zM).toArray 23))
    rw [hw4] at H4 HB4 ⊢
    clear hw4
    obtain ⟨a4, a5⟩ := SB.facts H4.out
    go_wp2_with fail
    exact bodyPost_ret (results_s2 Try.results13 _ _ g0 _ _ _ _ _ rfl (SR.row H4.out _)) rfl ⟨none, 0, 0, rfl, rfl, RdT.nil _, bRow HB4.out (by have := HG.out; omega) _⟩

set_option maxHeartbeats 2000000 in
theorem rg_3n (g off n c : Nat) (w : World) (hgl : g < w.heap.size) (hn : 511 < n) (hc0 : w.cell? ⟨g, off, none⟩ = some (.int .u8 3)) : Calls Try.prog 13 #[.slice (some ⟨g, off, none⟩) n c] w (RGot w 0 0 0 zM [] false) := by
  go_enter Try.func13, Try.ntmps13
  go_upto_region 1 with fail
  generalize hV : w.alloc (.cells (sc 0 0 0 zM (.slice none 0 0)).toArray 26) = V
  obtain ⟨h1, h2, h3⟩ := one_new _ _ _ _ hV
  obtain ⟨g0, hg⟩ : ∃ g, w.heap.size = g := ⟨_, rfl⟩
  rw [hg] at h1
  rw [hg]
  have HG := keepd hg
  have H1 := keepd h1
  have HB := keepd h2
  clear hV hg h3 h1 h2
  obtain ⟨a4, a5⟩ := SB.facts H1.out
  have hv0 : V.cell? ⟨g, off, none⟩ = some (.int .u8 3) := (HB.out.cell (p := ⟨g, off, none⟩) hgl).trans hc0
  have i0 : (0 : Int) < (n : Int) := by omega
  have t1 : decide ((n : Int) ≥ 1) = true := decide_eq_true (by omega)
  have t1' : decide (n ≥ 1) = true := decide_eq_true (by omega)
  have t2 : decide ((n : Int) ≥ 2) = true := decide_eq_true (by omega)
  have t2' : decide (n ≥ 2) = true := decide_eq_true (by omega)
  have q2 : ((n : Int) == 2) = false := by simp; omega
  have t5 : decide ((n : Int) ≤ 511) = false := decide_eq_false (by omega)
  have t5' : decide (n ≤ 511) = false := decide_eq_false (by omega)
  go_wp2_with fail
  exact bodyPost_ret (results_s2 Try.results13 _ _ g0 _ _ _ _ _ rfl (SR.row H1.out _)) rfl ⟨none, 0, 0, rfl, rfl, RdT.nil _, bRow HB.out (by have := HG.out; omega) _⟩

set_option maxHeartbeats 4000000 in
theorem rg_3y (g off n c : Nat) (w : World) (hgl : g < w.heap.size) (A1 : Option Addr) (n1 c1 : Nat) (t : List UInt8) (L : List Tr) (hn : 1 ≤ n) (hn5 : n ≤ 511) (hc0 : w.cell? ⟨g, off, none⟩ = some (.int .u8 3))
    (hA1 : (if c = 1 then some (⟨g, off, none⟩ : Addr) else (some ⟨g, off, none⟩ : Option Addr).map (·.add 1)) = A1 ∧ n - 1 = n1 ∧ c - 1 = c1) (ht : n1 = t.length) (hr : Rd w w.heap.size A1 t c1) (hX : getL t = some L) : Calls Try.prog 13 #[.slice (some ⟨g, off, none⟩) n c] w (RGot w 3 0 0 zM L true) := by
  have HA1 := keepd hA1
  have HT : Hid (n1 = t.length ∧ Rd w w.heap.size A1 t c1) := ⟨ht, hr⟩
  have HX := keepd hX
  have HN0 := keepd hn
  have hn600 : n1 ≤ 600 := by omega
  clear hA1 ht hr hX
  go_enter Try.func13, Try.ntmps13
  go_upto_region 1 with fail
  generalize hV : w.alloc (.cells (sc 0 0 0 zM (.slice none 0 0)).toArray 26) = V
  obtain ⟨h1, h2, h3⟩ := one_new _ _ _ _ hV
  obtain ⟨g0, hg⟩ : ∃ g, w.heap.size = g := ⟨_, rfl⟩
  rw [hg] at h1
  rw [hg]
  have HG := keepd hg
  have H1 := keepd h1
  have HB := keepd h2
  clear hV hg h3 h1 h2
  obtain ⟨a4, a5⟩ := SB.facts H1.out
  have hv0 : V.cell? ⟨g, off, none⟩ = some (.int .u8 3) := (HB.out.cell (p := ⟨g, off, none⟩) hgl).trans hc0
  have i0 : (0 : Int) < (n : Int) := by omega
  have t1 : decide ((n : Int) ≥ 1) = true := decide_eq_true (by omega)
  have t1' : decide (n ≥ 1) = true := decide_eq_true (by omega)
  have t5 : decide ((n : Int) ≤ 511) = true := decide_eq_true (by omega)
  have t5' : decide (n ≤ 511) = true := decide_eq_true (by omega)
  obtain ⟨p1, p2⟩ := got_yes HX.out
  obtain ⟨zl, hzl⟩ : ∃ zl, L.length = zl := ⟨_, rfl⟩
  have C := keepd (rget_any A1 t n1 c1 L zl true V HT.out.1 hn600 (HT.out.2.at_ HB.out) p1 hzl (by rw [HX.out]; rfl))
  have HZ := keepd hzl
  clear p1 p2 hzl
  have hs1 : ∀ W : World, (Instr.sliceAt 27 (.slice (some ⟨g, off, none⟩) n c) (some (.int .i64 1)) none none).run Try.prog W = .ok (.slice A1 n1 c1) W := fun W => by
    rw [← HA1.out.1, ← HA1.out.2.1, ← HA1.out.2.2]
    exact slice_from _ n c 1 HN0.out W
  clear hn600
  by_cases hn2 : n = 2
  · have q2 : ((n : Int) == 2) = true := by rw [hn2]; rfl
    have t2 : decide ((n : Int) ≥ 2) = true := decide_eq_true (by omega)
    have t2' : decide (n ≥ 2) = true := decide_eq_true (by omega)
    have i1 : (1 : Int) < (n : Int) := by omega
    clear hn2
    go_wp2_with fail
    with_reducible refine C.out.mono ?_
    rintro e w3 ⟨A3, c3, rfl, hr3, hb3⟩
    have HB3 := keepd (bCall HB.out hb3)
    have HR3 := keepd hr3
    have H3 := keepd (SR.call H1.out hb3 H1.out.lt)
    clear hb3 hr3 C hs1 a4 a5
    obtain ⟨a4, a5⟩ := SB.facts H3.out
    go_wp2_with fail
    refine bodyPost_ret (results_s2 Try.results13 _ _ g0 _ _ _ _ _ rfl (SR.row H3.out _)) rfl ?_
    have hbr := bRow HB3.out (b := g0) (by have := HG.out; omega) (sc 3 0 0 zM (.slice A3 zl c3)).toArray
    exact ⟨A3, zl, c3, rfl, HZ.out.symm, RdT.row HR3.out H3.out _, hbr⟩
  · have q2 : ((n : Int) == 2) = false := by simp; omega
    by_cases hn1 : 2 ≤ n
    · have t2 : decide ((n : Int) ≥ 2) = true := decide_eq_true (by omega)
      have t2' : decide (n ≥ 2) = true := decide_eq_true (by omega)
      have i1 : (1 : Int) < (n : Int) := by omega
      clear hn2
      go_wp2_with fail
      with_reducible refine C.out.mono ?_
      rintro e w3 ⟨A3, c3, rfl, hr3, hb3⟩
      have HB3 := keepd (bCall HB.out hb3)
      have HR3 := keepd hr3
      have H3 := keepd (SR.call H1.out hb3 H1.out.lt)
      clear hb3 hr3 C hs1 a4 a5
      obtain ⟨a4, a5⟩ := SB.facts H3.out
      go_wp2_with fail
      refine bodyPost_ret (results_s2 Try.results13 _ _ g0 _ _ _ _ _ rfl (SR.row H3.out _)) rfl ?_
      have hbr := bRow HB3.out (b := g0) (by have := HG.out; omega) (sc 3 0 0 zM (.slice A3 zl c3)).toArray
      exact ⟨A3, zl, c3, rfl, HZ.out.symm, RdT.row HR3.out H3.out _, hbr⟩
    · have t2 : decide ((n : Int) ≥ 2) = false := decide_eq_false (by omega)
      have t2' : decide (n ≥ 2) = false := decide_eq_false (by omega)
      clear hn2
      go_wp2_with fail
      with_reducible refine C.out.mono ?_
      rintro e w3 ⟨A3, c3, rfl, hr3, hb3⟩
      have HB3 := keepd (bCall HB.out hb3)
      have HR3 := keepd hr3
      have H3 := keepd (SR.call H1.out hb3 H1.out.lt)
      clear hb3 hr3 C hs1 a4 a5
      obtain ⟨a4, a5⟩ := SB.facts H3.out
      go_wp2_with fail
      refine bodyPost_ret (results_s2 Try.results13 _ _ g0 _ _ _ _ _ rfl (SR.row H3.out _)) rfl ?_
      have hbr := bRow HB3.out (b := g0) (by have := HG.out; omega) (sc 3 0 0 zM (.slice A3 zl c3)).toArray
      exact ⟨A3, zl, c3, rfl, HZ.out.symm, RdT.row HR3.out H3.out _, hbr⟩

set_option maxHeartbeats 4000000 in
theorem rg_3e (g off n c : Nat) (w : World) (hgl : g < w.heap.size) (A1 : Option Addr) (n1 c1 : Nat) (t : List UInt8) (hn : 1 ≤ n) (hn5 : n ≤ 511) (hc0 : w.cell? ⟨g, off, none⟩ = some (.int .u8 3))
    (hA1 : (if c = 1 then some (⟨g, off, none⟩ : Addr) else (some ⟨g, off, none⟩ : Option Addr).map (·.add 1)) = A1 ∧ n - 1 = n1 ∧ c - 1 = c1) (ht : n1 = t.length) (hr : Rd w w.heap.size A1 t c1) (hX : getL t = none) : Calls Try.prog 13 #[.slice (some ⟨g, off, none⟩) n c] w (RGot w 0 0 0 zM [] false) := by
  have HA1 := keepd hA1
  have HT : Hid (n1 = t.length ∧ Rd w w.heap.size A1 t c1) := ⟨ht, hr⟩
  have HX := keepd hX
  have HN0 := keepd hn
  have hn600 : n1 ≤ 600 := by omega
  clear hA1 ht hr hX
  go_enter Try.func13, Try.ntmps13
  go_upto_region 1 with fail
  generalize hV : w.alloc (.cells (sc 0 0 0 zM (.slice none 0 0)).toArray 26) = V
  obtain ⟨h1, h2, h3⟩ := one_new _ _ _ _ hV
  obtain ⟨g0, hg⟩ : ∃ g, w.heap.size = g := ⟨_, rfl⟩
  rw [hg] at h1
  rw [hg]
  have HG := keepd hg
  have H1 := keepd h1
  have HB := keepd h2
  clear hV hg h3 h1 h2
  obtain ⟨a4, a5⟩ := SB.facts H1.out
  have hv0 : V.cell? ⟨g, off, none⟩ = some (.int .u8 3) := (HB.out.cell (p := ⟨g, off, none⟩) hgl).trans hc0
  have i0 : (0 : Int) < (n : Int) := by omega
  have t1 : decide ((n : Int) ≥ 1) = true := decide_eq_true (by omega)
  have t1' : decide (n ≥ 1) = true := decide_eq_true (by omega)
  have t5 : decide ((n : Int) ≤ 511) = true := decide_eq_true (by omega)
  have t5' : decide (n ≤ 511) = true := decide_eq_true (by omega)
  obtain ⟨p1, p2⟩ := got_no HX.out
  have C := keepd (rget_any A1 t n1 c1 [] 0 false V HT.out.1 hn600 (HT.out.2.at_ HB.out) p1 rfl (by rw [HX.out]; rfl))
  clear p1 p2
  have hs1 : ∀ W : World, (Instr.sliceAt 27 (.slice (some ⟨g, off, none⟩) n c) (some (.int .i64 1)) none none).run Try.prog W = .ok (.slice A1 n1 c1) W := fun W => by
    rw [← HA1.out.1, ← HA1.out.2.1, ← HA1.out.2.2]
    exact slice_from _ n c 1 HN0.out W
  clear hn600
  by_cases hn2 : n = 2
  · have q2 : ((n : Int) == 2) = true := by rw [hn2]; rfl
    have t2 : decide ((n : Int) ≥ 2) = true := decide_eq_true (by omega)
    have t2' : decide (n ≥ 2) = true := decide_eq_true (by omega)
    have i1 : (1 : Int) < (n : Int) := by omega
    clear hn2
    go_wp2_with fail
    with_reducible refine C.out.mono ?_
    rintro e w3 ⟨A3, c3, rfl, _, hb3⟩
    have HB3 := keepd (bCall HB.out hb3)
    have H3 := keepd (SR.call H1.out hb3 H1.out.lt)
    clear hb3 C hs1 a4 a5
    obtain ⟨a4, a5⟩ := SB.facts H3.out
    go_wp2_with fail
    exact bodyPost_ret (results_s2 Try.results13 _ _ g0 _ _ _ _ _ rfl (SR.row H3.out _)) rfl ⟨none, 0, 0, rfl, rfl, RdT.nil _, bRow HB3.out (by have := HG.out; omega) _⟩
  · have q2 : ((n : Int) == 2) = false := by simp; omega
    by_cases hn1 : 2 ≤ n
    · have t2 : decide ((n : Int) ≥ 2) = true := decide_eq_true (by omega)
      have t2' : decide (n ≥ 2) = true := decide_eq_true (by omega)
      have i1 : (1 : Int) < (n : Int) := by omega
      clear hn2
      go_wp2_with fail
      with_reducible refine C.out.mono ?_
      rintro e w3 ⟨A3, c3, rfl, _, hb3⟩
      have HB3 := keepd (bCall HB.out hb3)
      have H3 := keepd (SR.call H1.out hb3 H1.out.lt)
      clear hb3 C hs1 a4 a5
      obtain ⟨a4, a5⟩ := SB.facts H3.out
      go_wp2_with fail
      exact bodyPost_ret (results_s2 Try.results13 _ _ g0 _ _ _ _ _ rfl (SR.row H3.out _)) rfl ⟨none, 0, 0, rfl, rfl, RdT.nil _, bRow HB3.out (by have := HG.out; omega) _⟩
    · have t2 : decide ((n : Int) ≥ 2) = false := decide_eq_false (by omega)
      have t2' : decide (n ≥ 2) = false := decide_eq_false (by omega)
      clear hn2
      go_wp2_with fail
      with_reducible refine C.out.mono ?_
      rintro e w3 ⟨A3, c3, rfl, _, hb3⟩
      have HB3 := keepd (bCall HB.out hb3)
      have H3 := keepd (SR.call H1.out hb3 H1.out.lt)
      clear hb3 C hs1 a4 a5
      obtain ⟨a4, a5⟩ := SB.facts H3.out
      go_wp2_with fail
      exact bodyPost_ret (results_s2 Try.results13 _ _ g0 _ _ _ _ _ rfl (SR.row H3.out _)) rfl ⟨none, 0, 0, rfl, rfl, RdT.nil _, bRow HB3.out (by have := HG.out; omega) _⟩

end Go.Proofs.Ytflmplnampgflaa
