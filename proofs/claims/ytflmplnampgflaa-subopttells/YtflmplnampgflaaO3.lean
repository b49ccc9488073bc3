/-
  The contracts of mayNotBe, and of the library's IndexFunc and ContainsFunc at it. No conditions beyond those each theorem states.
-/
import Derived.Test.YtflmplnampgflaaO2
import Derived.Test.YtflmplnampgflaaS5
namespace Go.Proofs.Ytflmplnampgflaa
open Go.RowKit
set_option maxRecDepth 100000

attribute [local go_sem ↓] ex_ld23 ex_st23 ex_al23 ex_bu23 ex_eq23 ex_ne23 ex_ld26 ex_st26 ex_al26 ex_ld23o ex_st23o ex_bu26 ex_bu26k ex_bu26m ex_bu26l ex_bu26v ex_bu26w ex_eq29 ex_ne29
attribute [local go_sem] ptrB_at okPtr_at aggC_at agg32 agg36 isM_at eqV_m isRow_new isRow_new26 World.setRow_alloc_new ptr3_at okPtr3_at cutM_at putM_at isI_at isL_at bK_at bKM_at bKL_at bKVM_at bKV_at isV_at toV_at

theorem upB {w1 w2 : World} {o : Obj} (hb : Below (w1.alloc o).heap.size (w1.alloc o) w2) : Below w1.heap.size w1 w2 := upA hb
theorem sv6 {W : World} {b : Nat} {x : Tr} (h : SR 60 W b x.cells) : W.cell? ⟨b, 0, none⟩ = some (.int .i64 x.f) ∧ W.cell? ⟨b, 1, none⟩ = some (.int .i64 x.lv) ∧ W.cell? ⟨b, 2, none⟩ = some (.bool x.a) ∧ W.cell? ⟨b, 3, none⟩ = some (.bool x.i) ∧ W.cell? ⟨b, 4, none⟩ = some (.bool x.o) ∧ W.cell? ⟨b, 5, none⟩ = some (.int .u8 (x.v.toNat : Int)) :=
  ⟨h.cell 0, h.cell 1, h.cell 2, h.cell 3, h.cell 4, h.cell 5⟩

theorem mayNot_any (f lv : Int) (a i o : Bool) (v : Int) (m : Bool) (hm : mayT f lv = m) (w : World) :
    Calls Try.prog 39 #[.agg #[.int .i64 f, .int .i64 lv, .bool a, .bool i, .bool o, .int .u8 v]] w fun e w' => e = .returned (.bool (!m)) ∧ Below w.heap.size w w' := by
  have C := keepd (check_any f lv a i o v m hm)
  have HB := keepd (bAlloc (Below.refl w.heap.size w) (.cells #[.int .i64 f, .int .i64 lv, .bool a, .bool i, .bool o, .int .u8 v] 60))
  clear hm
  cases m
  all_goals
    go_enter Try.func39, Try.ntmps39
    go_wp2_with fail
    with_reducible refine (C.out _).mono ?_
    rintro e w2 ⟨rfl, hb⟩
    have HB2 := keepd (bCall HB.out hb)
    clear hb
    go_wp2
    go_ret
    exact ⟨rfl, HB2.out⟩

set_option maxHeartbeats 1000000 in
theorem index_any (A : Option Addr) (L : List Tr) (n c : Nat) (v : Bool) (w : World) (hn : n = L.length) (h : RdT w A L c) (hv : allT L = v) :
    Calls Try.prog 45 #[.slice A n c, .func (.func 39) #[] #[]] w fun e w' => (∃ z : Int, e = .returned (.int .i64 z) ∧ (decide (0 ≤ z)) = !v) ∧ Below w.heap.size w w' := by
  have HR := keepd h
  have HN := keepd hn
  have HV := keepd hv
  have c1 := h.1
  have c2 := h.2.1
  unfold maxLen at c2
  rw [← hn] at c1
  clear h hn hv
  go_enter Try.func45, Try.ntmps45
  go_wp2_with fail
  go_loopw [8] (fun vi wr => ∃ k : Nat, k ≤ n ∧ vi = .int .i64 k ∧ Hid (allT (L.take k) = true) ∧ Hid (Below w.heap.size w wr)) (fun vi _ => n - (intOf vi).toNat)
  case atStart => exact ⟨0, by omega, rfl, rfl, Below.refl _ _⟩
  case round =>
    obtain ⟨k, hk, rfl, HT, HB⟩ := hrel
    by_cases hlt : k < n
    · have hkL : k < L.length := by rw [← HN.out]; exact hlt
      obtain ⟨b, off, rfl, hbl, hce⟩ := (HR.out.at_ HB.out).get k hkL
      have HA := keepd (allT_succ L k hkL)
      generalize L[k] = X at *
      obtain ⟨e0, e1, e2, e3, e4, e5⟩ := hce
      obtain ⟨m, hm⟩ : ∃ m, mayT X.f X.lv = m := ⟨_, rfl⟩
      have C := keepd (mayNot_any X.f X.lv X.a X.i X.o (X.v.toNat : Int) m hm)
      have HM := keepd hm
      have i0 : (0 : Int) ≤ (k : Int) := by omega
      have i1 : (k : Int) < (n : Int) := by omega
      clear hm
      cases m
      · go_wp2_with fail
        with_reducible refine (C.out _).mono ?_
        rintro e w2 ⟨rfl, hb2⟩
        have hb : Below w.heap.size w w2 := bCall HB.out hb2
        have HF : Hid (v = false) := by
          show _ = _
          rw [← HV.out]
          cases hal : allT L
          · rfl
          · have := allT_take hal (k + 1)
            rw [HA.out, show X.may = false from HM.out, Bool.and_false] at this
            cases this
        have HB2 := keepd hb
        clear hb hb2 e0 e1 e2 e3 e4 e5 C
        go_wp2
        go_ret
        exact ⟨⟨_, rfl, by rw [HF.out]; exact decide_eq_true i0⟩, HB2.out⟩
      · go_wp2_with fail
        with_reducible refine (C.out _).mono ?_
        rintro e w2 ⟨rfl, hb2⟩
        have HB2 := keepd (bCall HB.out hb2)
        have HT2 : Hid (allT (L.take (k + 1)) = true) := by
          show _ = _
          rw [HA.out, HT.out, show X.may = true from HM.out]
          rfl
        clear hb2 e0 e1 e2 e3 e4 e5 C
        go_wp2
        go_roundw
        case rel => exact ⟨k + 1, by omega, by go_num, HT2, HB2⟩
        case measure => simp [intOf]; omega
    · obtain rfl : k = n := by omega
      have HF : Hid (v = true) := by
        show _ = _
        rw [← HV.out]
        have := HT.out
        rw [List.take_of_length_le (by rw [← HN.out]; omega)] at this
        exact this
      go_wp2
      go_ret
      exact ⟨⟨_, rfl, by rw [HF.out]; rfl⟩, HB.out⟩

theorem contains_any (A : Option Addr) (L : List Tr) (n c : Nat) (v : Bool) (w : World) (hn : n = L.length) (h : RdT w A L c) (hv : allT L = v) :
    Calls Try.prog 38 #[.slice A n c, .func (.func 39) #[] #[]] w fun e w' => e = .returned (.bool (!v)) ∧ Below w.heap.size w w' := by
  have C := keepd (index_any A L n c v w hn h hv)
  clear h hn hv
  go_enter Try.func38, Try.ntmps38
  go_wp2_with fail
  with_reducible refine C.out.mono ?_
  rintro e w2 ⟨⟨z, rfl, hz⟩, hb⟩
  have HB := keepd hb
  clear hb
  cases v
  · have hz2 : decide (z ≥ 0) = true := hz
    go_wp2
    go_ret
    exact ⟨rfl, HB.out⟩
  · have hz2 : decide (z ≥ 0) = false := hz
    go_wp2
    go_ret
    exact ⟨rfl, HB.out⟩

end Go.Proofs.Ytflmplnampgflaa
