/-
  The panic, by need; a mode read. No conditions beyond those each theorem states.
-/
import Derived.Test.YtflmplnampgflaaO1
namespace Go.Proofs.Ytflmplnampgflaa
open Go.RowKit
set_option maxRecDepth 100000

attribute [local go_sem ↓] ex_ld23 ex_st23 ex_al23 ex_bu23 ex_eq23 ex_ne23 ex_ld26 ex_st26 ex_al26 ex_ld23o ex_st23o ex_bu26 ex_bu26k ex_bu26m ex_bu26l ex_bu26v ex_bu26w
attribute [local go_sem] ptrB_at okPtr_at aggC_at agg32 agg36 isM_at eqV_m isRow_new isRow_new26 World.setRow_alloc_new ptr3_at okPtr3_at cutM_at putM_at isI_at isL_at bK_at bKM_at bKL_at bKVM_at bKV_at

/-- What gives up. -/
def boom : List PanicEntry := [{ v := .iface 30 (.int .i64 2), recovered := false }]

theorem need_yes (w : World) : Calls Try.prog 36 #[.bool true] w fun e w' => e = .returned (.tuple #[]) ∧ w' = w := by
  go_enter Try.func36, Try.ntmps36
  go_wp2
  go_end0
  exact ⟨rfl, rfl⟩

theorem need_no (w : World) : Calls Try.prog 36 #[.bool false] w fun e w' => e = .panicked boom ∧ w' = w := by
  go_enter Try.func36, Try.ntmps36
  go_wp2
  exact ⟨rfl, rfl, rfl⟩

/-- Nothing. -/
abbrev nil_ : Value := .slice none 0 0

theorem mode_no (A : Option Addr) (n c : Nat) (w : World) (hn : n ≠ 1) : Calls Try.prog 42 #[.slice A n c] w fun e w' => e = .panicked boom ∧ Below w.heap.size w w' := by
  have HB := keepd (bAlloc (Below.refl w.heap.size w) (.cells (sc 0 0 0 zM nil_).toArray 26))
  have g1 : ((n : Int) == 1) = false := by simp; omega
  go_enter Try.func42, Try.ntmps42
  go_wp2_with fail
  with_reducible refine (need_no _).mono ?_
  rintro e w2 ⟨rfl, rfl⟩
  go_wp2
  exact ⟨rfl, rfl, HB.out⟩

theorem mode_yes (A : Option Addr) (b : List UInt8) (u : UInt8) (n c : Nat) (w : World) (hn : n = 1) (hb : b = [u]) (hr : Rd w w.heap.size A b c) :
    Calls Try.prog 42 #[.slice A n c] w fun e w' => e = .returned (sv 1 (u.toNat : Int) 0 zM nil_) ∧ Below w.heap.size w w' := by
  subst hn hb
  obtain ⟨g, off, rfl, hgl, d0⟩ := hr.form (k := 0) (by simp)
  have hu : wrap64 (u.toNat : Int) = (u.toNat : Int) := wrap64_u8 u
  have c1 := hr.1
  simp only [List.length_cons, List.length_nil, Nat.zero_add, Nat.add_zero, List.getElem_cons_zero] at c1 d0
  have HB := keepd (bAlloc (Below.refl w.heap.size w) (.cells (sc 1 (u.toNat : Int) 0 zM nil_).toArray 26))
  have HS := keepd (SR.new 26 w (sc 1 (u.toNat : Int) 0 zM nil_))
  clear hr
  go_enter Try.func42, Try.ntmps42
  go_wp2_with fail
  with_reducible refine (need_yes _).mono ?_
  rintro e w2 ⟨rfl, rfl⟩
  go_wp2_with fail

  exact bodyPost_ret (results_s Try.results42 _ _ w.heap.size _ _ _ _ _ rfl HS.out) rfl ⟨rfl, HB.out⟩

end Go.Proofs.Ytflmplnampgflaa
