/-
  The contract of the document's own Get. No conditions beyond those each theorem states.
-/
import Derived.Test.YtflmplnampgflaaS8a
namespace Go.Proofs.Ytflmplnampgflaa
open Go.RowKit
set_option maxRecDepth 100000

set_option maxHeartbeats 400000 in
theorem rget_any (A : Option Addr) (b : List UInt8) (n c : Nat) (G : List Tr) (z : Nat) (v : Bool) (w : World) (hn : n = b.length) (hl : n ≤ 600) (hr : Rd w w.heap.size A b c) (hG : gotL b = G) (hz : G.length = z) (hv : (getL b).isSome = v) :
    Calls Try.prog 27 #[.slice A n c] w fun e w' => ∃ A' c', e = .returned (.tuple #[.slice A' z c', .bool v]) ∧ RdT w' A' G c' ∧ Below w.heap.size w w' := by
  have HR := keepd hr
  have HN := keepd hn
  have HG := keepd hG
  have HZ := keepd hz
  have HE := keepd hv
  have c1 := hr.1
  have c2 := hr.2.1
  unfold maxLen at c2
  rw [← hn] at c1
  clear hr hn hG hz hv
  go_enter Try.func27, Try.ntmps27
  go_wp2_with fail
  go_loopw [4, 5] (fun vl vi wr => ∃ (j : Nat) (T : List Tr), j < n + 3 ∧ j ≤ n ∧ 3 * T.length = j ∧ vi = .int .i64 (j : Int) ∧ Hid (OwnT wr w.heap.size vl T) ∧ Hid (Gets b j T) ∧ Hid (Below w.heap.size w wr)) (fun _ vi _ => n - (intOf vi).toNat)
  case atStart => exact ⟨0, [], by omega, by omega, rfl, rfl, OwnT.nil _ _, Gets.start b, Below.refl _ _⟩
  case round =>
    obtain ⟨j, T, _, hj, hT, rfl, HO, HT, HB⟩ := hrel
    by_cases hlt : j < n
    · have h0 : j < b.length := by rw [← HN.out]; exact hlt
      by_cases hsh : n < j + 3
      · have g3 : decide ((n : Int) < (j : Int) + 3) = true := decide_eq_true (by omega)
        have hno := HT.out.short h0 (by rw [← HN.out]; exact hsh)
        obtain ⟨p1, p2⟩ := got_no hno
        have p3 := HE.out
        rw [hno] at p3
        rw [HG.out] at p1
        subst p1 p3
        have hz0 := HZ.out
        simp at hz0
        subst hz0
        clear hno p2
        go_wp2
        go_returns
        exact ⟨none, 0, rfl, RdT.nil _, HB.out⟩
      · have g3 : decide ((n : Int) < (j : Int) + 3) = false := decide_eq_false (by omega)
        have h1 : j + 1 < b.length := by rw [← HN.out]; omega
        have h2 : j + 2 < b.length := by rw [← HN.out]; omega
        have k2 : j + 2 < n := by omega
        obtain ⟨g, off, rfl, hgl, d0⟩ := HR.out.form h0
        obtain ⟨g', off', hA, _, d1⟩ := HR.out.form h1
        simp only [Option.some.injEq, Addr.mk.injEq, and_true] at hA
        obtain ⟨rfl, rfl⟩ := hA
        obtain ⟨g', off', hA, _, d2⟩ := HR.out.form h2
        simp only [Option.some.injEq, Addr.mk.injEq, and_true] at hA
        obtain ⟨rfl, rfl⟩ := hA
        have D0 := keepd d0
        have D1 := keepd d1
        have D2 := keepd d2
        obtain ⟨e0, e1, e2, _⟩ := sOct d0 d1 d2 hgl HB.out
        clear d0 d1 d2
        have HS := fun h => keepd (HT.out.step h0 h1 h2 h)
        have HS' := fun h => keepd (HT.out.stop h0 h1 h2 h)
        generalize b[j] = x at *
        generalize b[j + 1] = y at *
        generalize b[j + 2] = u at *
        have j0 : (0 : Int) ≤ (j : Int) := by omega
        have wy := wrap64_u8 y
        have HY := keepd (div_of y)
        have hy := div_wrap y
        cases hq : isS y
        · rw [hq] at hy
          have hno := (HS' hq).out
          obtain ⟨p1, p2⟩ := got_no hno
          have p3 := HE.out
          rw [hno] at p3
          rw [HG.out] at p1
          subst p1 p3
          have hz0 := HZ.out
          simp at hz0
          subst hz0
          clear HS HS' hno p2
          simp only [Bool.not_false] at hy
          go_wp2
          go_returns
          exact ⟨none, 0, rfl, RdT.nil _, HB.out⟩
        · rw [hq] at hy
          have HS := HS hq
          clear HS'
          simp only [Bool.not_true] at hy
          go_upto_region 10 with fail
          simp only [wrap64_u8]
          clear hy wy
          have hsz := HB.out.size
          have hT9 : T.length ≤ 300 := by omega
          have i0 : (0 : Int) ≤ (j : Int) := by omega
          have i1 : (j : Int) < (n : Int) := by omega
          have i4 : (0 : Int) ≤ (j : Int) + 2 := by omega
          have i5 : (j : Int) + 2 < (n : Int) := by omega
          have w2 : IntKind.i64.wrap ((j : Int) + 2) = (j : Int) + 2 := wrap_small _ (by omega) (by omega)
          have t2 : ((j : Int) + 2).toNat = j + 2 := by omega
          go_region_held3 (fun W => W.cell? ⟨g, off + j, none⟩ = some (.int .u8 (x.toNat : Int)) ∧ W.cell? ⟨g, off + (j + 1), none⟩ = some (.int .u8 (y.toNat : Int)) ∧ W.cell? ⟨g, off + (j + 2), none⟩ = some (.int .u8 (u.toNat : Int)) ∧ Below w.heap.size w W)
            ((refine sOct D0.out D1.out D2.out hgl ?_; repeat (first | assumption | exact HB.out | with_reducible refine bAlloc ?_ _ | with_reducible refine Below.drew ?_)))
            (first | (refine step_appT _ rfl (.tmp 28) (.tmp 53) rfl w.heap.size _ T rfl (HO.out.drew.alloc _) (some ⟨wr.heap.size, 0, none⟩) 1 1 [tri x y u] rfl rfl ?_ (by simp only [List.length_cons, List.length_nil]; omega) (by show w.heap.size ≤ (wr.alloc _).heap.size; simp only [World.size_alloc]; omega) ?_; (exact rdT_of _ _ _ (ref_cells x y u)); intro va w5 ho hg hat; have hb6 := appT_below (bAlloc HB.out.drew _) (HO.out.drew.alloc _) hg; have HO5 := keepd ho; have HB5 := keepd hb6; clear ho hg hat))
          clear hb6 e0 e1 e2
          go_wp2
          go_roundw
          case rel => exact ⟨j + 3, T ++ [tri x y u], by omega, by omega, by simp; omega, by go_num, HO5, HS, HB5⟩
          case measure => simp [intOf]; omega
    · obtain rfl : j = n := by omega
      have hy := HT.out.end_ (by rw [← HN.out]; omega)
      obtain ⟨p1, p2⟩ := got_yes hy
      have p3 := HE.out
      rw [hy] at p3
      rw [HG.out] at p1
      subst p1 p3
      obtain ⟨A', c', rfl, hr'⟩ := HO.out.rd
      have H3 := keepd hr'
      have hz0 := HZ.out
      clear hr' HO p2 hy
      go_wp2
      go_returns
      exact ⟨A', c', by rw [hz0]; rfl, H3.out, HB.out⟩

end Go.Proofs.Ytflmplnampgflaa
