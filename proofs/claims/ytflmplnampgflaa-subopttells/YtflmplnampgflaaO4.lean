/-
  The contract of the library's Equal on rows of triples. No conditions beyond those each theorem states.
-/
import Derived.Test.YtflmplnampgflaaO2
import Derived.Test.YtflmplnampgflaaS4
namespace Go.Proofs.Ytflmplnampgflaa
open Go.RowKit
set_option maxRecDepth 100000

attribute [local go_sem ↓] ex_ld23 ex_st23 ex_al23 ex_bu23 ex_eq23 ex_ne23 ex_ld26 ex_st26 ex_al26 ex_ld23o ex_st23o ex_bu26 ex_bu26k ex_bu26m ex_bu26l ex_bu26v ex_bu26w ex_eq29 ex_ne29
attribute [local go_sem] ptrB_at okPtr_at aggC_at agg32 agg36 isM_at eqV_m isRow_new isRow_new26 World.setRow_alloc_new ptr3_at okPtr3_at cutM_at putM_at isI_at isL_at bK_at bKM_at bKL_at bKVM_at bKV_at isV_at toV_at

set_option maxHeartbeats 1000000 in
theorem equal_any (A A' : Option Addr) (L M : List Tr) (n m c c' : Nat) (v : Bool) (w : World) (hn : n = L.length) (hm : m = M.length) (h : RdT w A L c) (h' : RdT w A' M c') (hv : decide (L = M) = v) :
    Calls Try.prog 31 #[.slice A n c, .slice A' m c'] w fun e w' => e = .returned (.bool v) ∧ Below w.heap.size w w' := by
  have HR := keepd h
  have HR' := keepd h'
  have HN := keepd hn
  have HM := keepd hm
  have HV := keepd hv
  have c1 := h.1
  have c2 := h.2.1
  have c3 := h'.1
  have c4 := h'.2.1
  unfold maxLen at c2 c4
  rw [← hn] at c1
  rw [← hm] at c3
  clear h h' hn hm hv
  by_cases hnm : n = m
  · subst hnm
    go_enter Try.func31, Try.ntmps31
    go_wp2_with fail
    go_loopw [13] (fun vi wr => ∃ k : Nat, k ≤ n ∧ vi = .int .i64 k ∧ Hid (L.take k = M.take k) ∧ Hid (Below w.heap.size w wr)) (fun vi _ => n - (intOf vi).toNat)
    case atStart => exact ⟨0, by omega, rfl, by simp [Hid], Below.refl _ _⟩
    case round =>
      obtain ⟨k, hk, rfl, HT, HB⟩ := hrel
      by_cases hlt : k < n
      · have hkL : k < L.length := by rw [← HN.out]; exact hlt
        have hkM : k < M.length := by rw [← HM.out]; exact hlt
        obtain ⟨b, off, rfl, hbl, hce⟩ := (HR.out.at_ HB.out).get k hkL
        obtain ⟨b', off', rfl, hbl', hce'⟩ := (HR'.out.at_ HB.out).get k hkM
        have HX : Hid (L[k] = M[k] → L.take (k + 1) = M.take (k + 1)) := fun e => take_eq_succ hkL hkM HT.out e
        have HY : Hid (L[k] ≠ M[k] → L ≠ M) := fun hne e => hne (by subst e; rfl)
        generalize L[k] = X at *
        generalize M[k] = Y at *
        obtain ⟨f, lv, a, i, o, u⟩ := X
        obtain ⟨f', lv', a', i', o', u'⟩ := Y
        obtain ⟨e0, e1, e2, e3, e4, e5⟩ := hce
        obtain ⟨d0, d1, d2, d3, d4, d5⟩ := hce'
        simp only [] at e0 e1 e2 e3 e4 e5 d0 d1 d2 d3 d4 d5
        have i0 : (0 : Int) ≤ (k : Int) := by omega
        have i1 : (k : Int) < (n : Int) := by omega
        have hs := sameT_eq ⟨f, lv, a, i, o, u⟩ ⟨f', lv', a', i', o', u'⟩
        cases hq : sameT ⟨f, lv, a, i, o, u⟩ ⟨f', lv', a', i', o', u'⟩
        · rw [hq] at hs
          have HF : Hid (v = false) := by
            show _ = _
            rw [← HV.out]
            exact decide_eq_false (HY.out (of_decide_eq_false hs.symm))
          clear hs
          go_wp2_with fail
          go_quiet (fail)
          go_wp2
          go_ret
          exact ⟨by rw [HF.out]; rfl, bDrewN HB.out _⟩
        · rw [hq] at hs
          have HF : Hid (L.take (k + 1) = M.take (k + 1)) := HX.out (of_decide_eq_true hs.symm)
          clear hs
          go_wp2_with fail
          go_quiet (fail)
          go_wp2
          go_roundw
          case rel => exact ⟨k + 1, by omega, by go_num, HF, bDrewN HB.out _⟩
          case measure => simp [intOf]; omega
      · obtain rfl : k = n := by omega
        have HF : Hid (v = true) := by
          show _ = _
          rw [← HV.out]
          have := HT.out
          rw [List.take_of_length_le (by rw [← HN.out]; omega), List.take_of_length_le (by rw [← HM.out]; omega)] at this
          exact decide_eq_true this
        go_wp2
        go_ret
        exact ⟨by rw [HF.out]; rfl, HB.out⟩
  · have g1 : ((n : Int) != (m : Int)) = true := by simp; omega
    have HF : Hid (v = false) := by
      show _ = _
      rw [← HV.out]
      exact decide_eq_false (fun e => hnm (by rw [HN.out, HM.out, e]))
    go_enter Try.func31, Try.ntmps31
    go_wp2
    go_ret
    exact ⟨by rw [HF.out]; rfl, Below.refl _ _⟩

end Go.Proofs.Ytflmplnampgflaa
