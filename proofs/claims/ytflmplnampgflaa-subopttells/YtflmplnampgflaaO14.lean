/-
  The contract of Get: a panic that is caught. No conditions beyond those each theorem states.
-/
import Derived.Test.YtflmplnampgflaaO13
import Derived.Defers
import Derived.Recover
namespace Go.Proofs.Ytflmplnampgflaa
open Go.RowKit
set_option maxRecDepth 100000

attribute [local go_sem ↓] ex_ld23 ex_st23 ex_al23 ex_bu23 ex_eq23 ex_ne23 ex_ld26 ex_st26 ex_al26 ex_ld23o ex_st23o ex_bu26 ex_bu26k ex_bu26m ex_bu26l ex_bu26v ex_bu26w ex_eq29 ex_ne29
attribute [local go_sem] ptrB_at okPtr_at aggC_at agg32 agg36 isM_at eqV_m isRow_new isRow_new26 World.setRow_alloc_new ptr3_at okPtr3_at cutM_at putM_at isI_at isL_at bK_at bKM_at bKL_at bKVM_at bKV_at isV_at toV_at

theorem catch_panicking (g h : Nat) (k m v : Int) (M : Mk) (l : Value) (x : Int) (w : World) (hs : SB w g k m v M l) (hc : w.cell? ⟨h, 0, none⟩ = some (.int .i64 x)) (hf : w.frozen? ⟨h, 0, none⟩ = false) (hgh : h ≠ g) :
    CallsD Try.prog 24 #[.pointer (some ⟨g, 0, none⟩), .pointer (some ⟨h, 0, none⟩)] (.panicking boom) w fun e u' w' =>
      e = .returned (.tuple #[]) ∧ u' = .panicking [{ v := .iface 30 (.int .i64 2), recovered := true }] ∧ w' = (w.setRow g (sc 0 0 0 zM nil_).toArray).setCell ⟨h, 0, none⟩ (.int .i64 2) := by
  obtain ⟨a4, a5⟩ := SB.facts hs
  have hc2 : (w.setRow g (sc 0 0 0 zM nil_).toArray).cell? ⟨h, 0, none⟩ = some (.int .i64 x) := by
    unfold World.cell?
    rw [setRow_other w g h _ hgh]
    exact hc
  have hf2 : (w.setRow g (sc 0 0 0 zM nil_).toArray).frozen? ⟨h, 0, none⟩ = false := by
    unfold World.frozen?
    rw [setRow_other w g h _ hgh]
    exact hf
  unfold boom
  refine callsD_of_wpS Try.func24 rfl fun c₀ cs hu => ?_
  apply wpS_seq
  apply wpS_region
  simp [wpOpsS, go_sem, recoverD, hu, Try.ntmps24, Exit.thenS]
  apply wpS_seq
  apply wpS_region
  simp [wpOpsS, go_sem, Exit.thenS]
  refine wpS_cond (t := true) (by simp [Act.eval, Array.replicate]) ?_
  simp only [if_true]
  refine wpS_of_wp (a := ⟨#[.pointer (some ⟨g, 0, none⟩), .pointer (some ⟨h, 0, none⟩), .iface 30 (.int .i64 2), .iface 30 (.int .i64 2), .iface 30 (.int .i64 2), .bool true, undef], []⟩) ?_


  go_wp2_with fail
  simp [bodyPostS, results, Try.results24]

theorem catch_idle (g h : Nat) (w : World) :
    CallsD Try.prog 24 #[.pointer (some ⟨g, 0, none⟩), .pointer (some ⟨h, 0, none⟩)] .returning w fun e u' w' => e = .returned (.tuple #[]) ∧ u' = .returning ∧ w' = w := by
  refine callsD_of_wpS Try.func24 rfl fun c₀ cs hu => ?_
  apply wpS_seq
  apply wpS_region
  simp [wpOpsS, go_sem, recoverD, hu, Try.ntmps24, Exit.thenS]
  apply wpS_seq
  apply wpS_region
  simp [wpOpsS, go_sem, Exit.thenS]
  refine wpS_cond (t := false) (by simp [Act.eval, Array.replicate]) ?_
  simp only [Bool.false_eq_true, if_false]
  refine wpS_of_wp (wp_skip ?_)
  cases c₀
  simp_all [bodyPostS, results, Try.results24]

theorem results_g {tmps : Array Value} {w : World} {g h : Nat} {k m v : Int} {M : Mk} {l : Value} {x : Int} (hg : SB w g k m v M l) (hh : w.cell? ⟨h, 0, none⟩ = some (.int .i64 x)) (p2 : tmps.getD 2 undef = .pointer (some ⟨g, 0, none⟩)) (p3 : tmps.getD 3 undef = .pointer (some ⟨h, 0, none⟩)) :
    (results Try.f12 tmps).run Try.prog w = .ok (.tuple #[sv k m v M l, .int .i64 x]) w := by
  have hp2 : tmps[2]?.getD undef = .pointer (some ⟨g, 0, none⟩) := by simpa using p2
  have hp3 : tmps[3]?.getD undef = .pointer (some ⟨h, 0, none⟩) := by simpa using p3
  have ha : ∀ W, (isAgg 30).run Try.prog W = .ok false W := fun W => by kernel_rfl
  have hl : (loadVar 30 ⟨h, 0, none⟩).run Try.prog w = .ok (.int .i64 x) w := by simp [loadVar, Sem.run_bind, ha, go_sem, hh]
  simp [results, Try.results12, hp2, hp3, asAddr, run_loadVar_row w g 26 26 _ (0, 0) _ hg Try.underlying26 rfl (by rw [info26]; simp [sc_len]), hl]

theorem RdT.set30 {w : World} {A : Option Addr} {L : List Tr} {c : Nat} (h : RdT w A L c) {g : Nat} {x : Int} (hs : SR 30 w g [.int .i64 x]) (u : Value) : RdT (w.setCell ⟨g, 0, none⟩ u) A L c := by
  refine ⟨h.1, h.2.1, fun hne => ?_⟩
  obtain ⟨b, off, e, hlt, hce⟩ := h.2.2 hne
  have hb : b ≠ g := by
    rintro rfl
    obtain ⟨y, hy⟩ : ∃ y, L[0]? = some y := ⟨L[0]'(List.length_pos_iff.2 hne), List.getElem?_eq_getElem _⟩
    have := (hce 0 y hy).2.2.1
    rw [SR.cell hs] at this
    simp at this
  have hc : ∀ o, (w.setCell ⟨g, 0, none⟩ u).cell? ⟨b, o, none⟩ = w.cell? ⟨b, o, none⟩ := fun o =>
    World.cell?_setCell_other _ _ _ _ (by intro e; injection e with e; exact hb e.symm)
  refine ⟨b, off, e, by simpa [World.setCell] using hlt, fun i y hi => ?_⟩
  obtain ⟨e0, e1, e2, e3, e4, e5⟩ := hce i y hi
  exact ⟨(hc _).trans e0, (hc _).trans e1, (hc _).trans e2, (hc _).trans e3, (hc _).trans e4, (hc _).trans e5⟩
theorem cell_row {w : World} {g h : Nat} {cs : Array Value} {u : Value} (hc : w.cell? ⟨h, 0, none⟩ = some u) (hgh : h ≠ g) : (w.setRow g cs).cell? ⟨h, 0, none⟩ = some u := by
  unfold World.cell?
  rw [setRow_other w g h _ hgh]
  exact hc
theorem frozen_row {w : World} {g h : Nat} {cs : Array Value} (hf : w.frozen? ⟨h, 0, none⟩ = false) (hgh : h ≠ g) : (w.setRow g cs).frozen? ⟨h, 0, none⟩ = false := by
  unfold World.frozen?
  rw [setRow_other w g h _ hgh]
  exact hf
theorem cell_set0 {w : World} {h : Nat} {u v : Value} (hs : SR 30 w h [u]) : (w.setCell ⟨h, 0, none⟩ v).cell? ⟨h, 0, none⟩ = some v := (SR.cell (SR.set hs 0 v) 0)

set_option maxHeartbeats 1000000 in
theorem get_no (A : Option Addr) (b : List UInt8) (n c : Nat) (w : World) (hn : n = b.length) (hr : Rd w w.heap.size A b c) (ho : getS b = none) :
    Calls Try.prog 12 #[.slice A n c] w fun e w' => e = .returned (.tuple #[sv 0 0 0 zM nil_, .int .i64 2]) ∧ Below w.heap.size w w' := by
  have hmf : ∀ (fn : Fn) (first cap : Array Value) (W : World), (Instr.makeFunc fn first cap).run Try.prog W = .ok (.func fn first cap) W := fun _ _ _ _ => rfl
  have HN := keepd hn
  have HR := keepd hr
  have HO := keepd ho
  clear hn hr ho
  go_enter_defers Try.func12, Try.ntmps12
  go_upto_region 1 with fail
  generalize hV : (w.alloc (.cells (sc 0 0 0 zM (.slice none 0 0)).toArray 26)).alloc (.cells #[.int .i64 0] 30) = V
  obtain ⟨h1, h2, h3, h4⟩ := two_new w 26 30 (sc 0 0 0 zM (.slice none 0 0)) [.int .i64 0] V hV
  have hne : w.heap.size + 1 ≠ w.heap.size := by omega
  have HZ : Hid (w.heap.size ≤ w.heap.size + 1) := Nat.le_succ _
  obtain ⟨h0, hh0⟩ : ∃ h0, w.heap.size + 1 = h0 := ⟨_, rfl⟩
  rw [hh0] at h2 hne HZ ⊢
  obtain ⟨g0, hg⟩ : ∃ g, w.heap.size = g := ⟨_, rfl⟩
  have HG := keepd hg
  rw [hg] at h1 hne ⊢
  have H1 := keepd h1
  have H2 := keepd h2
  have HB := keepd h3
  have HNE := keepd hne
  clear hV hg hh0 h1 h2 h3 h4 hne
  have C := read_any A b n c V HN.out (HR.out.at_ HB.out)
  rw [HO.out] at C
  have C := keepd C
  go_wp2_with fail
  with_reducible refine C.out.mono ?_
  clear C
  rintro e w3 ⟨rfl, hb3⟩
  have HB3 := keepd (bCall HB.out hb3)
  have H13 := keepd (SR.call H1.out hb3 H1.out.lt)
  have H23 := keepd (SR.call H2.out hb3 H2.out.lt)
  clear hb3
  go_wp2_with fail
  refine leaves_cons (f := 24) (args := #[.pointer (some ⟨g0, 0, none⟩), .pointer (some ⟨h0, 0, none⟩)]) (by simp) (by simp [go_sem]) ?_
  refine (catch_panicking g0 h0 0 0 0 zM _ 0 w3 H13.out (SR.cell H23.out 0) (SR.frozen H23.out 0) HNE.out).mono ?_
  rintro e u' w4 ⟨rfl, rfl, rfl⟩
  have k1 : SB (w3.setRow g0 (sc 0 0 0 zM nil_).toArray) g0 0 0 0 zM nil_ := SR.row H13.out _
  have k2 : SR 30 (w3.setRow g0 (sc 0 0 0 zM nil_).toArray) h0 [.int .i64 0] := SR.rowFar H23.out HNE.out _
  have k3 : SB ((w3.setRow g0 (sc 0 0 0 zM nil_).toArray).setCell ⟨h0, 0, none⟩ (.int .i64 2)) g0 0 0 0 zM nil_ := SR.far k1 (p := ⟨h0, 0, none⟩) (Ne.symm HNE.out) _
  have k4 := cell_set0 k2 (v := .int .i64 2)
  have HB4 := keepd (bSet (bRow HB3.out (b := g0) (by have := HG.out; omega) (sc 0 0 0 zM nil_).toArray) (b := h0) (i := 0) HZ.out (.int .i64 2))
  simp [Leaves, settle]
  exact ⟨_, results_g k3 k4 rfl rfl, rfl, HB4.out⟩

set_option maxHeartbeats 1000000 in
theorem get_yes (A : Option Addr) (b : List UInt8) (n c : Nat) (w : World) (X : Sb) (hn : n = b.length) (hr : Rd w w.heap.size A b c) (ho : getS b = some X) :
    Calls Try.prog 12 #[.slice A n c] w fun e w' => ∃ A3 n3 c3, e = .returned (.tuple #[sv X.k X.m X.v X.M (.slice A3 n3 c3), .int .i64 0]) ∧ n3 = X.L.length ∧ RdT w' A3 X.L c3 ∧ Below w.heap.size w w' := by
  have hmf : ∀ (fn : Fn) (first cap : Array Value) (W : World), (Instr.makeFunc fn first cap).run Try.prog W = .ok (.func fn first cap) W := fun _ _ _ _ => rfl
  have HN := keepd hn
  have HR := keepd hr
  have HO := keepd ho
  clear hn hr ho
  go_enter_defers Try.func12, Try.ntmps12
  go_upto_region 1 with fail
  generalize hV : (w.alloc (.cells (sc 0 0 0 zM (.slice none 0 0)).toArray 26)).alloc (.cells #[.int .i64 0] 30) = V
  obtain ⟨h1, h2, h3, h4⟩ := two_new w 26 30 (sc 0 0 0 zM (.slice none 0 0)) [.int .i64 0] V hV
  have hne : w.heap.size + 1 ≠ w.heap.size := by omega
  have HZ : Hid (w.heap.size ≤ w.heap.size + 1) := Nat.le_succ _
  obtain ⟨h0, hh0⟩ : ∃ h0, w.heap.size + 1 = h0 := ⟨_, rfl⟩
  rw [hh0] at h2 hne HZ ⊢
  obtain ⟨g0, hg⟩ : ∃ g, w.heap.size = g := ⟨_, rfl⟩
  have HG := keepd hg
  rw [hg] at h1 hne ⊢
  have H1 := keepd h1
  have H2 := keepd h2
  have HB := keepd h3
  have HNE := keepd hne
  clear hV hg hh0 h1 h2 h3 h4 hne
  have C := read_any A b n c V HN.out (HR.out.at_ HB.out)
  rw [HO.out] at C
  have C := keepd C
  go_wp2_with fail
  with_reducible refine C.out.mono ?_
  clear C
  rintro e w3 ⟨A3, n3, c3, rfl, hn3, hr3, hb3⟩
  have HB3 := keepd (bCall HB.out hb3)
  have H13 := keepd (SR.call H1.out hb3 H1.out.lt)
  have H23 := keepd (SR.call H2.out hb3 H2.out.lt)
  have HR3 := keepd hr3
  have HN3 := keepd hn3
  clear hb3 hr3 hn3
  obtain ⟨a4, a5⟩ := SB.facts H13.out
  have k1 : SB (w3.setRow g0 (sc X.k X.m X.v X.M (.slice A3 n3 c3)).toArray) g0 X.k X.m X.v X.M (.slice A3 n3 c3) := SR.row H13.out _
  have k2 : SR 30 (w3.setRow g0 (sc X.k X.m X.v X.M (.slice A3 n3 c3)).toArray) h0 [.int .i64 0] := SR.rowFar H23.out HNE.out _
  have k2c := SR.cell k2 0
  have k2f := SR.frozen k2 0
  have k3 : SB ((w3.setRow g0 (sc X.k X.m X.v X.M (.slice A3 n3 c3)).toArray).setCell ⟨h0, 0, none⟩ (.int .i64 0)) g0 X.k X.m X.v X.M (.slice A3 n3 c3) := SR.far k1 (p := ⟨h0, 0, none⟩) (Ne.symm HNE.out) _
  have k4 := cell_set0 k2 (v := .int .i64 0)
  have HB4 := keepd (bSet (bRow HB3.out (b := g0) (by have := HG.out; omega) (sc X.k X.m X.v X.M (.slice A3 n3 c3)).toArray) (b := h0) (i := 0) HZ.out (.int .i64 0))
  have HR4 := keepd (RdT.set30 (RdT.row HR3.out H13.out (sc X.k X.m X.v X.M (.slice A3 n3 c3)).toArray) k2 (.int .i64 0))
  have K2 := keepd k2
  have K3 := keepd k3
  have K4 := keepd k4
  have hk2c : (w3.setRow g0 (sc X.k X.m X.v X.M (.slice A3 n3 c3)).toArray).cell? ⟨h0, 0, none⟩ = some (.int .i64 0) := k2c
  clear k1 k2 k3 k4 k2c
  go_wp2_with fail
  refine leaves_cons (f := 24) (args := #[.pointer (some ⟨g0, 0, none⟩), .pointer (some ⟨h0, 0, none⟩)]) (by simp) (by simp [go_sem]) ?_
  refine (catch_idle g0 h0 _).mono ?_
  rintro e u' w4 ⟨rfl, rfl, rfl⟩
  simp [Leaves, settle]
  exact ⟨_, results_g K3.out K4.out rfl rfl, ⟨A3, n3, c3, rfl, HN3.out, HR4.out, HB4.out⟩⟩

end Go.Proofs.Ytflmplnampgflaa
