/-
  The contract of Key. No conditions beyond those each theorem states.
-/
import Derived.Test.YtmjhagmniipcaaaDoorT3
namespace Go.Proofs.YtmjhagmniipcaaaDoor
open Go.RowKit
set_option maxRecDepth 100000

attribute [local go_sem ↓] ex_ld25 ex_st25 ex_al25 ex_bu25 ex_ix25 ex_eq25 ex_ne25 ex_eq23 ex_ne23
attribute [local go_sem] ptrB_at okPtr_at aggC_at agg62 isC_at isT_at eqV_t eqV_c

theorem SR.drew {t : TypeId} {W : World} {b : Nat} {cs : List Value} (h : SR t W b cs) : SR t W.drew b cs := h
theorem TB.range {V : World} {b : Nat} {X : Tb} (h : TB V b X) : V.rangeAt b 0 (cs X) := fun j v hv => by
  rw [Nat.zero_add, SR.cell h]
  exact hv
theorem tS {V : World} {b : Nat} {X : Tb} (h : TB V b X) {n : Nat} {c : Cl} (hn : n < 31) (hc : Hid (X n = c)) : V.rangeAt b 0 (cs X) ∧ V.cell? ⟨b, n * 2, none⟩ = some (.int .i64 c.lv) ∧ V.cell? ⟨b, n * 2 + 1, none⟩ = some (.int .u8 c.v) := by
  have h2 := TB.at h n hn
  rw [hc.out] at h2
  exact ⟨TB.range h, h2.1, h2.2⟩
theorem infoCs (X : Tb) : (Tryd.prog.info? 25).map (·.size) = some (cs X).length := by rw [info25, cs_len]

theorem key_any (X : Tb) (f : Int) (k : Int) (b : Bool) (hk : keyF X f = (k, b)) (w : World) : Calls Tryd.prog 9 #[tv X, .int .i64 f] w fun e w' => e = .returned (.tuple #[.int .u8 k, .bool b]) ∧ Below w.heap.size w w' := by
  have HK := keepd hk
  clear hk
  go_enter Tryd.func9, Tryd.ntmps9
  go_upto_region 1 with fail
  generalize hW : w.alloc (.cells (cs X).toArray 25) = W
  obtain ⟨h1, h2, h3⟩ := one_new _ _ _ _ hW
  clear hW
  obtain ⟨r1, k1⟩ := TB.facts h1
  have HT := keepd h1
  have HB := keepd h2
  clear h1 h2
  by_cases h31 : f = 31
  · subst h31
    have e := HK.out
    simp only [keyF, if_true, Prod.mk.injEq] at e
    obtain ⟨rfl, rfl⟩ := e
    go_wp2
    go_returns
    exact ⟨rfl, HB.out⟩
  have g31 : (f == 31) = false := by simpa using h31
  have HI := keepd (isFunction_any f)
  by_cases hf : 0 < f ∧ f < 31
  · obtain ⟨n, rfl⟩ : ∃ n : Nat, f = n := ⟨f.toNat, by omega⟩
    have hn : n < 31 := by omega
    obtain ⟨c0, c1⟩ := TB.at HT.out n hn
    have hd : decide (0 < (n : Int) ∧ (n : Int) < 31) = true := decide_eq_true hf
    rw [hd] at HI
    have e := HK.out
    unfold keyF at e
    rw [if_neg h31, Int.toNat_natCast] at e
    have HE := keepd e
    clear hd e HK h31
    obtain ⟨c, hc⟩ : ∃ c, X n = c := ⟨_, rfl⟩
    rw [hc] at c0 c1 HE
    have HC := keepd hc
    clear hc
    obtain ⟨m, hm⟩ : ∃ m, meanF X c.v = m := ⟨_, rfl⟩
    have HM := keepd (meaning_any X c.v m hm)
    rw [hm] at HE
    clear hm
    by_cases hmn : m = n
    · have e := HE.out
      rw [if_pos ⟨hf.1, hf.2, hmn⟩, Prod.mk.injEq] at e
      obtain ⟨rfl, rfl⟩ := e
      subst hmn
      clear HE hf
      go_wp2_with fail
      have hu := Tryd.underlying25
      have hi := infoCs X
      have i0 : (0 : Int) ≤ (m : Int) := by omega
      have i1 : (m : Int) < 31 := by omega
      go_region_held3 (fun V => V.rangeAt w.heap.size 0 (cs X) ∧ V.cell? ⟨w.heap.size, m * 2, none⟩ = some (.int .i64 c.lv) ∧ V.cell? ⟨w.heap.size, m * 2 + 1, none⟩ = some (.int .u8 c.v))
        ((refine tS ?_ hn HC; repeat (first | assumption | exact HT.out | with_reducible refine SR.drew ?_)))
        (first | (go_at_call 19; (with_reducible refine (HI.out _).mono ?_); rintro e w4 ⟨rfl, rfl⟩)
               | (go_at_call 13; (with_reducible refine (HM.out _).mono ?_); rintro e w5 ⟨rfl, hb5⟩; have hbb : Below W.heap.size W w5 := noDrew hb5; have hq := HT.out.call hbb HT.out.lt))
      have HB5 := keepd (bCall HB.out hbb)
      obtain ⟨d0, d1⟩ := TB.at hq m hn
      rw [HC.out] at d0 d1
      clear hbb hb5 c0 c1 r1 k1
      go_wp2
      go_returns
      exact ⟨rfl, HB5.out⟩
    · have e := HE.out
      rw [if_neg (fun h => hmn h.2.2), Prod.mk.injEq] at e
      obtain ⟨rfl, rfl⟩ := e
      have gmn : ((m : Int) == (n : Int)) = false := by simp; omega
      clear HE hf
      go_wp2_with fail
      have hu := Tryd.underlying25
      have hi := infoCs X
      have i0 : (0 : Int) ≤ (n : Int) := by omega
      have i1 : (n : Int) < 31 := by omega
      go_region_held3 (fun V => V.rangeAt w.heap.size 0 (cs X) ∧ V.cell? ⟨w.heap.size, n * 2, none⟩ = some (.int .i64 c.lv) ∧ V.cell? ⟨w.heap.size, n * 2 + 1, none⟩ = some (.int .u8 c.v))
        ((refine tS ?_ hn HC; repeat (first | assumption | exact HT.out | with_reducible refine SR.drew ?_)))
        (first | (go_at_call 19; (with_reducible refine (HI.out _).mono ?_); rintro e w4 ⟨rfl, rfl⟩)
               | (go_at_call 13; (with_reducible refine (HM.out _).mono ?_); rintro e w5 ⟨rfl, hb5⟩; have hbb : Below W.heap.size W w5 := noDrew hb5; have hq := HT.out.call hbb HT.out.lt))
      have HB5 := keepd (bCall HB.out hbb)
      clear hbb hb5 c0 c1 r1 k1
      go_wp2
      go_returns
      exact ⟨rfl, HB5.out⟩
  · have hd : decide (0 < f ∧ f < 31) = false := decide_eq_false hf
    rw [hd] at HI
    have e := HK.out
    unfold keyF at e
    rw [if_neg h31, if_neg (fun h => hf ⟨h.1, h.2.1⟩), Prod.mk.injEq] at e
    obtain ⟨rfl, rfl⟩ := e
    clear hd HK hf
    go_wp2_with fail
    go_quiet ((go_at_call 19; exact Calls.quiet_of_same (HI.out _)))
    go_wp2
    go_returns
    exact ⟨rfl, bDrewN HB.out _⟩

end Go.Proofs.YtmjhagmniipcaaaDoor
