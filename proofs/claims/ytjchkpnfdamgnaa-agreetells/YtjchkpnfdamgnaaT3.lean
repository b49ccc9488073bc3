/-
  The contracts of agree's cell, settled, cells, Check. No conditions beyond those each theorem states.
-/
import Derived.Test.YtjchkpnfdamgnaaT2
import Derived.Deep.WholeRow
namespace Go.Proofs.Ytjchkpnfdamgnaa
open Go.RowKit
theorem isRow_new (W : World) (X : Tb) : isRow (W.alloc (.cells (cs X).toArray 31)) 31 W.heap.size 62 = true := (TB.facts (SR.new 31 W (cs X))).2
theorem isRow_newp (W : World) (X : Tb) : isRow (W.alloc (.cells (cs X).toArray 25)) 25 W.heap.size 62 = true := (PB.facts (SR.new 25 W (cs X))).2
end Go.Proofs.Ytjchkpnfdamgnaa
namespace Go.Proofs.Ytjchkpnfdamgnaa
open Go.RowKit
set_option maxRecDepth 100000

attribute [local go_sem ↓] ex_ld31 ex_st31 ex_al31 ex_bu31 ex_ix31 ex_eq31 ex_ne31 ex_eq29 ex_ne29 ex_ld25 ex_st25 ex_al25 ex_bu25 ex_ix25
attribute [local go_sem] ptrB_at okPtr_at aggC_at agg62 isC_at isT_at eqV_t eqV_c isRow_new isRow_newp World.setRow_alloc_new

theorem cell_any (c : Cl) (w : World) : Calls Try.prog 27 #[cv c] w fun e w' => e = .returned (cv c) ∧ Below w.heap.size w w' := by
  have B0 : ∀ o o', Below w.heap.size w ((w.alloc o).alloc o') := fun o o' => bAlloc (bAlloc (Below.refl _ _) o) o'
  obtain ⟨a, b⟩ := c
  go_enter Try.func27, Try.ntmps27
  go_wp2
  go_returns
  exact ⟨rfl, B0 _ _⟩

/-- What is settled, way by way. -/
theorem settled_any (q p c : Cl) (h : setF q p = c) (w : World) : Calls Try.prog 26 #[cv q, cv p] w fun e w' => e = .returned (cv c) ∧ Below w.heap.size w w' := by
  have B0 : ∀ o o' o'', Below w.heap.size w (((w.alloc o).alloc o').alloc o'') := fun o o' o'' => bAlloc (bAlloc (bAlloc (Below.refl _ _) o) o') o''
  obtain ⟨a, b⟩ := q
  obtain ⟨d, e⟩ := p
  subst h
  by_cases d1 : d = 1
  · subst d1
    by_cases a1 : a = 1
    · subst a1
      cases g : (e == b)
      · have hc : setF ⟨1, b⟩ ⟨1, e⟩ = ⟨0, 0⟩ := by
          have : ¬ e = b := by simpa using g
          simp [setF, this]
        rw [hc]
        clear hc
        go_enter Try.func26, Try.ntmps26
        go_wp2
        go_returns
        exact ⟨rfl, B0 _ _ _⟩
      · have hc : setF ⟨1, b⟩ ⟨1, e⟩ = ⟨1, b⟩ := by
          have : e = b := by simpa using g
          simp [setF, this]
        rw [hc]
        clear hc
        go_enter Try.func26, Try.ntmps26
        go_wp2
        go_returns
        exact ⟨rfl, B0 _ _ _⟩
    · have g1 : (a == 1) = false := by simpa using a1
      by_cases a2 : a = 2
      · subst a2
        go_enter Try.func26, Try.ntmps26
        go_wp2
        go_returns
        exact ⟨by simp [setF], B0 _ _ _⟩
      · have g2 : (a == 2) = false := by simpa using a2
        have hc : setF ⟨a, b⟩ ⟨1, e⟩ = ⟨a, b⟩ := by simp [setF, a1, a2]
        rw [hc]
        clear hc a1 a2
        go_enter Try.func26, Try.ntmps26
        go_wp2
        go_returns
        exact ⟨rfl, B0 _ _ _⟩
  have g1 : (d == 1) = false := by simpa using d1
  by_cases d2 : d = 2
  · subst d2
    by_cases a2 : a = 2
    · subst a2
      go_enter Try.func26, Try.ntmps26
      go_wp2
      go_returns
      exact ⟨by simp [setF], B0 _ _ _⟩
    · have g2 : (a == 2) = false := by simpa using a2
      have hc : setF ⟨a, b⟩ ⟨2, e⟩ = ⟨a, b⟩ := by simp [setF, a2]
      rw [hc]
      clear hc a2
      go_enter Try.func26, Try.ntmps26
      go_wp2
      go_returns
      exact ⟨rfl, B0 _ _ _⟩
  have g2 : (d == 2) = false := by simpa using d2
  by_cases d3 : d = 3
  · subst d3
    go_enter Try.func26, Try.ntmps26
    go_wp2
    go_returns
    exact ⟨by simp [setF], B0 _ _ _⟩
  have g3 : (d == 3) = false := by simpa using d3
  have hc : setF ⟨a, b⟩ ⟨d, e⟩ = ⟨0, 0⟩ := by simp [setF, d1, d2, d3]
  rw [hc]
  clear hc d1 d2 d3
  go_enter Try.func26, Try.ntmps26
  go_wp2
  go_returns
  exact ⟨rfl, B0 _ _ _⟩

theorem results_c1 {fn : Func} {p : Tmp} (h : fn.results = #[.cell p 31]) (tmps : Array Value) (w : World) (g : Nat) (X : Tb) (hp : tmps.getD p undef = .pointer (some ⟨g, 0, none⟩)) (hg : TB w g X) :
    (results fn tmps).run Try.prog w = .ok (tv X) w := by
  have hp' : tmps[p]?.getD undef = .pointer (some ⟨g, 0, none⟩) := by simpa using hp
  simp [results, h, hp', asAddr, run_loadVar_row w g 31 31 _ (0, 0) _ hg Try.underlying31 rfl (by rw [info31]; simp [cs_len])]
theorem results_c2 {fn : Func} {p t : Tmp} (h : fn.results = #[.cell p 31, .tmp t]) (tmps : Array Value) (w : World) (g : Nat) (X : Tb) (hp : tmps.getD p undef = .pointer (some ⟨g, 0, none⟩)) (hg : TB w g X) :
    (results fn tmps).run Try.prog w = .ok (.tuple #[tv X, tmps.getD t undef]) w := by
  have hp' : tmps[p]?.getD undef = .pointer (some ⟨g, 0, none⟩) := by simpa using hp
  simp [results, h, hp', asAddr, run_loadVar_row w g 31 31 _ (0, 0) _ hg Try.underlying31 rfl (by rw [info31]; simp [cs_len])]

theorem ptt_new (w : World) (X : Tb) (W : World) (h : ((w.alloc (.cells (cs X).toArray 25)).alloc (.cells (cs zT).toArray 31)).alloc (.cells (cs zT).toArray 31) = W) :
    PB W w.heap.size X ∧ TB W (w.heap.size + 1) zT ∧ TB W (w.heap.size + 1 + 1) zT ∧ Below w.heap.size w W := by
  subst h
  exact ⟨((SR.new 25 w (cs X)).alloc _).alloc _, SR.alloc (t := 31) (cs := cs zT) (heap_alloc2_new w _ _) _, n4 w _ _ _, bAlloc (bAlloc (bAlloc (Below.refl _ _) _) _) _⟩

set_option maxHeartbeats 1000000 in
theorem cells_any (X : Tb) (w : World) : Calls Try.prog 28 #[tv X] w fun e w' => e = .returned (tv X) ∧ Below w.heap.size w w' := by
  have HC := keepd cell_any
  go_enter Try.func28, Try.ntmps28
  go_upto_region 2 with fail
  generalize hW : ((w.alloc (.cells (cs X).toArray 25)).alloc (.cells (cs zT).toArray 31)).alloc (.cells (cs zT).toArray 31) = W
  obtain ⟨h1, h2, h3, h4⟩ := ptt_new _ _ _ hW
  clear hW
  obtain ⟨r1, k1⟩ := PB.facts h1
  have H2 := keepd h2
  rw [← mix_zero X] at h3
  have H3 := keepd h3
  have HB := keepd h4
  clear h1 h2 h3 h4
  obtain ⟨b1, hb1⟩ : ∃ b, w.heap.size + 1 = b := ⟨_, rfl⟩
  obtain ⟨b2, hb2⟩ : ∃ b, w.heap.size + 1 + 1 = b := ⟨_, rfl⟩
  have L1 : Hid (w.heap.size < b1 ∧ b1 < b2) := by show _ ∧ _; omega
  rw [hb2] at H3 ⊢
  rw [hb1] at H2 ⊢
  clear hb1 hb2
  go_wp2_with fail
  go_loopw [7] (fun vi wr => ∃ k : Nat, k ≤ 31 ∧ vi = .int .i64 k ∧ Hid (TB wr b1 zT) ∧ Hid (TB wr b2 (mix X k)) ∧ Hid (Below w.heap.size w wr)) (fun vi _ => 31 - (intOf vi).toNat)
  case atStart => exact ⟨0, by omega, rfl, H2, H3, HB⟩
  case round =>
    clear H2 H3 HB r1 k1
    obtain ⟨k, hk, rfl, H2, H3, HB⟩ := hrel
    by_cases hlt : k < 31
    · obtain ⟨i1, i2⟩ := idx_facts X k hlt
      have HM := keepd (mix_succ X k)
      generalize X k = c at *
      go_wp2_with fail
      with_reducible refine (HC.out c _).mono ?_
      rintro e w2 ⟨rfl, hb⟩
      have hb' := upA hb
      have h2 := SR.call H2.out hb' (SR.lt H2.out)
      have h3 := SR.call H3.out hb' (SR.lt H3.out)
      have HB2 := keepd (bCall HB.out hb')
      clear hb hb' H2 H3 HB i1 i2
      obtain ⟨c0, c1⟩ := TB.at h3 k hlt
      have f0 := SR.frozen h3 (k * 2)
      have f1 := SR.frozen h3 (k * 2 + 1)
      have i0 : (0 : Int) ≤ (k : Int) := by omega
      have i1 : (k : Int) < 31 := by omega
      have H2 := keepd h2
      have H3 := keepd h3
      clear h2 h3
      go_wp2
      go_roundw
      case rel =>
        have hl := L1.out
        refine ⟨k + 1, by omega, by go_num, SR.far (SR.far H2.out (by show b1 ≠ b2; omega) _) (by show b1 ≠ b2; omega) _, ?_, bSet (bSet HB2.out (by omega) _) (by omega) _⟩
        show TB _ _ _
        rw [← HM.out]
        exact TB.put H3.out k hlt c
      case measure => simp [intOf]; omega
    · obtain rfl : k = 31 := by omega
      obtain ⟨r2, k2⟩ := TB.facts H2.out
      obtain ⟨r3, k3⟩ := TB.facts H3.out
      rw [mix_all] at r3
      go_wp2_with fail
      exact bodyPost_ret (results_c1 Try.results28 _ _ b1 X rfl (SR.row H2.out _)) rfl ⟨rfl, bRow HB.out (by have := L1.out; omega) _⟩

/-- The error of a table, or of prefs, that may not be. -/
def errT (X : Tb) : Int := if mayT X = true then 0 else 1
theorem errT_cases (X : Tb) : (mayT X = true ∧ errT X = 0) ∨ (mayT X = false ∧ errT X = 1) := by
  unfold errT
  cases mayT X <;> simp
theorem tcheckE_any (X : Tb) (er : Int) (h : errT X = er) (w : World) : Calls Try.prog 24 #[tv X] w fun e w' => e = .returned (.int .i64 er) ∧ Below w.heap.size w w' := by
  subst h
  exact tcheck_any X (mayT X) rfl w
/-- The error of a triple that may not be. -/
def errTr (f lv : Int) : Int := if mayTr f lv = true then 0 else 1
theorem errTr_cases (f lv : Int) : (mayTr f lv = true ∧ errTr f lv = 0) ∨ (mayTr f lv = false ∧ errTr f lv = 1) := by
  unfold errTr
  cases mayTr f lv <;> simp
theorem scheckE_any (x : Tr) (er : Int) (h : errTr x.f x.lv = er) (w : World) : Calls Try.prog 25 #[vt x] w fun e w' => e = .returned (.int .i64 er) ∧ Below w.heap.size w w' := by
  subst h
  exact scheck_any x.f x.lv x.a x.i x.o x.v (mayTr x.f x.lv) rfl w

theorem check_any (X : Tb) (er : Int) (h : errT X = er) (w : World) : Calls Try.prog 13 #[tv X] w fun e w' => e = .returned (.int .i64 er) ∧ Below w.heap.size w w' := by
  have HC := keepd (cells_any X)
  have HT := keepd (tcheckE_any X er h)
  clear h
  go_enter Try.func13, Try.ntmps13
  go_upto_region 1 with fail
  generalize hW : w.alloc (.cells (cs X).toArray 25) = W
  obtain ⟨h1, h2, h3⟩ := one_new _ _ _ _ hW
  clear hW
  obtain ⟨r1, k1⟩ := PB.facts h1
  have HB := keepd h2
  clear h1 h2 h3
  go_wp2_with fail
  with_reducible refine (HC.out _).mono ?_
  rintro e w2 ⟨rfl, hb⟩
  have HB2 := keepd (bCall HB.out hb)
  clear hb HB r1 k1
  go_wp2_with fail
  with_reducible refine (HT.out _).mono ?_
  rintro e w3 ⟨rfl, hb⟩
  have HB3 := keepd (bCall HB2.out hb)
  clear hb HB2
  go_wp2
  go_returns
  exact ⟨rfl, HB3.out⟩

end Go.Proofs.Ytjchkpnfdamgnaa
