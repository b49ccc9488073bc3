/-
  The contract of table's With. No conditions beyond those each theorem states.
-/
import Derived.Test.YtjchkpnfdamgnaaT3
namespace Go.Proofs.Ytjchkpnfdamgnaa
open Go.RowKit
set_option maxRecDepth 100000

attribute [local go_sem ↓] ex_ld31 ex_st31 ex_al31 ex_bu31 ex_ix31 ex_eq31 ex_ne31 ex_eq29 ex_ne29 ex_ld25 ex_st25 ex_al25 ex_bu25 ex_ix25
attribute [local go_sem] ptrB_at okPtr_at aggC_at agg62 isC_at isT_at eqV_t eqV_c isRow_new isRow_newp World.setRow_alloc_new

/-- A table with another cell, and the error. -/
def withF (X : Tb) (f : Int) (c : Cl) : Tb × Int := if 0 < f ∧ f < 31 ∧ mayT (tset X f.toNat c) = true then (tset X f.toNat c, 0) else (X, 1)

theorem three_new (w : World) (X : Tb) (c : Cl) (W : World) (h : ((w.alloc (.cells (cs X).toArray 31)).alloc (.cells #[.int .i64 c.lv, .int .u8 c.v] 29)).alloc (.cells (cs zT).toArray 31) = W) :
    TB W w.heap.size X ∧ SR 29 W (w.heap.size + 1) [.int .i64 c.lv, .int .u8 c.v] ∧ TB W (w.heap.size + 1 + 1) zT ∧ Below w.heap.size w W ∧ W.heap.size = w.heap.size + 3 := by
  subst h
  exact ⟨((SR.new 31 w (cs X)).alloc _).alloc _, SR.alloc (t := 29) (cs := [.int .i64 c.lv, .int .u8 c.v]) (heap_alloc2_new w _ _) _, n4 w _ _ _, bAlloc (bAlloc (bAlloc (Below.refl _ _) _) _) _, by simp⟩

set_option maxHeartbeats 1000000 in
theorem with_any (X : Tb) (f : Int) (c : Cl) (Y : Tb) (er : Int) (hY : withF X f c = (Y, er)) (w : World) :
    Calls Try.prog 23 #[tv X, .int .i64 f, cv c] w fun e w' => e = .returned (.tuple #[tv Y, .int .i64 er]) ∧ Below w.heap.size w w' := by
  have HI := keepd (isFunction_any f)
  have HY := keepd hY
  clear hY
  go_enter Try.func23, Try.ntmps23
  go_upto_region 1 with fail
  generalize hW : ((w.alloc (.cells (cs X).toArray 31)).alloc (.cells #[.int .i64 c.lv, .int .u8 c.v] 29)).alloc (.cells (cs zT).toArray 31) = W
  obtain ⟨h1, h2, h3, h4, h5⟩ := three_new _ _ _ _ hW
  clear hW
  obtain ⟨r1, k1⟩ := TB.facts h1
  obtain ⟨r3, k3⟩ := TB.facts h3
  have H1 := keepd h1
  have H2 := keepd h2
  have H3 := keepd h3
  have HB := keepd h4
  have H5 := keepd h5
  clear h1 h2 h3 h4 h5
  by_cases hf : 0 < f ∧ f < 31
  · obtain ⟨n, rfl⟩ : ∃ n : Nat, f = n := ⟨f.toNat, by omega⟩
    have hn : n < 31 := by omega
    have hd : decide (0 < (n : Int) ∧ (n : Int) < 31) = true := decide_eq_true hf
    rw [hd] at HI
    go_upto_region 4 with (with_reducible refine (HI.out _).mono ?_; rintro e w4 ⟨rfl, rfl⟩)
    generalize hW1 : w4.alloc (.cells (cs X).toArray 31) = W1
    obtain ⟨h1, h2, h3, h4, h5⟩ : TB W1 w.heap.size X ∧ SR 29 W1 (w.heap.size + 1) [.int .i64 c.lv, .int .u8 c.v] ∧ TB W1 (w.heap.size + 1 + 1) zT ∧ Below w.heap.size w W1 ∧ TB W1 w4.heap.size X := by
      subst hW1
      exact ⟨H1.out.alloc _, H2.out.alloc _, H3.out.alloc _, bAlloc HB.out _, SR.new 31 _ _⟩
    clear hW1 r1 k1 r3 k3 H1 H2 H3 HB
    obtain ⟨g, hg⟩ : ∃ g, w4.heap.size = g := ⟨_, rfl⟩
    rw [hg] at h5 H5 ⊢
    obtain ⟨a0, a1⟩ := TB.at h5 n hn
    have f0 := SR.frozen h5 (n * 2)
    have f1 := SR.frozen h5 (n * 2 + 1)
    have e0 := SR.cell h2 0
    have e1 := SR.cell h2 1
    simp only [List.getElem?_cons_zero, List.getElem?_cons_succ] at e0 e1
    have i0 : (0 : Int) ≤ (n : Int) := by omega
    have i1 : (n : Int) < 31 := by omega
    have H1 := keepd h1
    have H3 := keepd h3
    have HB := keepd h4
    have HG := keepd h5
    have HF := keepd hf
    clear h1 h2 h3 h4 h5 hd hf hg
    go_upto_region 5 with fail
    generalize hW2 : (W1.setCell ⟨g, n * 2, none⟩ (.int .i64 c.lv)).setCell ⟨g, n * 2 + 1, none⟩ (.int .u8 c.v) = W2
    obtain ⟨h1, h3, h4, h5⟩ : TB W2 w.heap.size X ∧ TB W2 (w.heap.size + 1 + 1) zT ∧ Below w.heap.size w W2 ∧ TB W2 g (tset X n c) := by
      have hg := H5.out
      subst hW2
      have q1 : w.heap.size ≠ g := by omega
      have q2 : w.heap.size + 1 + 1 ≠ g := by omega
      exact ⟨SR.far (SR.far H1.out q1 _) q1 _, SR.far (SR.far H3.out q2 _) q2 _, bSet (bSet HB.out (by omega) _) (by omega) _, TB.put HG.out n hn c⟩
    clear hW2 H1 H3 HB HG a0 a1 f0 f1 e0 e1
    have e := HY.out
    unfold withF at e
    rw [Int.toNat_natCast] at e
    have HY2 : Hid ((if mayT (tset X n c) = true then (tset X n c, (0 : Int)) else (X, 1)) = (Y, er)) := by
      show _ = _
      rw [← e]
      by_cases hmt : mayT (tset X n c) = true
      · rw [if_pos hmt, if_pos ⟨HF.out.1, HF.out.2, hmt⟩]
      · rw [if_neg hmt, if_neg (fun h => hmt h.2.2)]
    clear e HY
    obtain ⟨r5, k5⟩ := TB.facts h5
    have H1 := keepd h1
    have H3 := keepd h3
    have HB := keepd h4
    have HG := keepd h5
    clear h1 h3 h4 h5
    generalize tset X n c = Z at *
    obtain ⟨m, hm⟩ : ∃ m, mayT Z = m := ⟨_, rfl⟩
    have HC := fun w => tcheck_any Z m hm w
    rw [hm] at HY2
    clear hm
    go_wp2_with fail
    with_reducible refine (HC _).mono ?_
    rintro e w5 ⟨rfl, hb⟩
    have h1 := H1.out.call hb H1.out.lt
    have h3 := H3.out.call hb H3.out.lt
    have h5 := HG.out.call hb HG.out.lt
    have HB5 := keepd (bCall HB.out hb)
    clear H1 H3 HG HB hb r5 k5 HC
    cases m
    · have e := HY2.out
      simp only [Bool.false_eq_true, if_false, Prod.mk.injEq] at e
      obtain ⟨rfl, rfl⟩ := e
      obtain ⟨r1, k1⟩ := TB.facts h1
      obtain ⟨r3, k3⟩ := TB.facts h3
      have H3 := keepd h3
      clear h1 h3 h5 HY2
      go_wp2_with fail
      exact bodyPost_ret (results_c2 Try.results23 _ _ (w.heap.size + 1 + 1) X rfl (SR.row H3.out _)) rfl ⟨rfl, bRow HB5.out (by omega) _⟩
    · have e := HY2.out
      simp only [if_true, Prod.mk.injEq] at e
      obtain ⟨rfl, rfl⟩ := e
      obtain ⟨r1, k1⟩ := TB.facts h5
      obtain ⟨r3, k3⟩ := TB.facts h3
      have H3 := keepd h3
      clear h1 h3 h5 HY2
      go_wp2_with fail
      exact bodyPost_ret (results_c2 Try.results23 _ _ (w.heap.size + 1 + 1) Z rfl (SR.row H3.out _)) rfl ⟨rfl, bRow HB5.out (by omega) _⟩
  · have hd : decide (0 < f ∧ f < 31) = false := decide_eq_false hf
    rw [hd] at HI
    have e := HY.out
    unfold withF at e
    rw [if_neg (fun h => hf ⟨h.1, h.2.1⟩), Prod.mk.injEq] at e
    obtain ⟨rfl, rfl⟩ := e
    clear hd HY hf
    go_wp2_with fail
    with_reducible refine (HI.out _).mono ?_
    rintro e w4 ⟨rfl, rfl⟩
    go_wp2_with fail
    exact bodyPost_ret (results_c2 Try.results23 _ _ (w.heap.size + 1 + 1) X rfl (SR.row H3.out _)) rfl ⟨rfl, bRow HB.out (by omega) _⟩

end Go.Proofs.Ytjchkpnfdamgnaa
