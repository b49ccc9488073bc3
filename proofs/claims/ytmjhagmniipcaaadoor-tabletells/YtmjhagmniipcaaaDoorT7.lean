/-
  The contract of awake. No conditions beyond those each theorem states.
-/
import Derived.Test.YtmjhagmniipcaaaDoorT6
namespace Go.Proofs.YtmjhagmniipcaaaDoor
open Go.RowKit
set_option maxRecDepth 100000

attribute [local go_sem ↓] ex_ld25 ex_st25 ex_al25 ex_bu25 ex_ix25 ex_eq25 ex_ne25 ex_eq23 ex_ne23
attribute [local go_sem] ptrB_at okPtr_at aggC_at agg62 isC_at isT_at eqV_t eqV_c isRow_new World.setRow_alloc_new

def uT : Tb := tset stdT 11 ⟨2, 127⟩
def vT : Tb := tset uT 10 ⟨0, 0⟩
theorem w1_eq : withF stdT 11 ⟨2, 127⟩ = (uT, 0) := by
  unfold withF
  rw [if_pos ⟨by omega, by omega, by decide +kernel⟩]
  rfl
theorem w2_eq : withF uT 10 ⟨0, 0⟩ = (vT, 0) := by
  unfold withF
  rw [if_pos ⟨by omega, by omega, by decide +kernel⟩]
  rfl
theorem k1_eq : keyF stdT 10 = (127, true) := by decide +kernel
theorem m1_eq : meanF stdT 3 = 3 := by decide +kernel
theorem m2_eq : meanF stdT 127 = 10 := by decide +kernel
theorem m3_eq : meanF stdT 13 = 31 := by decide +kernel
theorem m4_eq : meanF stdT 97 = 0 := by decide +kernel
theorem m5_eq : meanF uT 127 = 10 := by decide +kernel
theorem m6_eq : meanF vT 127 = 11 := by decide +kernel

set_option maxHeartbeats 2000000 in
theorem awake_any (w : World) (hL : Laid w) : Calls Tryd.prog 18 #[] w fun e w' => e = .returned (.bool true) ∧ Below w.heap.size w w' := by
  have C0 := keepd (standard_any w hL)
  have C1 := keepd (with_any stdT 11 ⟨2, 127⟩ uT 0 w1_eq)
  have C2 := keepd (with_any uT 10 ⟨0, 0⟩ vT 0 w2_eq)
  have C3 := keepd (key_any stdT 10 127 true k1_eq)
  have M1 := keepd (meaning_any stdT 3 3 m1_eq)
  have M2 := keepd (meaning_any stdT 127 10 m2_eq)
  have M3 := keepd (meaning_any stdT 13 31 m3_eq)
  have M4 := keepd (meaning_any stdT 97 0 m4_eq)
  have M5 := keepd (meaning_any uT 127 10 m5_eq)
  have M6 := keepd (meaning_any vT 127 11 m6_eq)
  clear hL
  generalize stdT = X at *
  generalize uT = Y at *
  generalize vT = Z at *
  go_enter Tryd.func18, Tryd.ntmps18
  go_wp2_with fail
  with_reducible refine C0.out.mono ?_
  rintro e w1 ⟨rfl, hb⟩
  have HB := keepd (bAlloc hb (.cells (cs X).toArray 25))
  have H1 := keepd (SR.new 25 w1 (cs X))
  clear hb
  go_upto_region 2 with fail
  generalize w1.alloc (.cells (cs X).toArray 25) = W1 at *
  obtain ⟨p1, hp⟩ : ∃ p, w1.heap.size = p := ⟨_, rfl⟩
  rw [hp] at H1 ⊢
  clear hp
  obtain ⟨r1, k1⟩ := TB.facts H1.out
  go_wp2_with fail
  with_reducible refine (C1.out _).mono ?_
  rintro e w2 ⟨rfl, hb⟩
  have HB2 := keepd (bAlloc (bCall HB.out hb) (.cells (cs Y).toArray 25))
  have H12 := keepd ((H1.out.call hb H1.out.lt).alloc (.cells (cs Y).toArray 25))
  have H2 := keepd (SR.new 25 w2 (cs Y))
  clear hb r1 k1 HB H1
  go_upto_region 3 with fail
  generalize w2.alloc (.cells (cs Y).toArray 25) = W2 at *
  obtain ⟨p2, hp⟩ : ∃ p, w2.heap.size = p := ⟨_, rfl⟩
  rw [hp] at H2 ⊢
  clear hp
  obtain ⟨r2, k2⟩ := TB.facts H2.out
  go_wp2_with fail
  with_reducible refine (C2.out _).mono ?_
  rintro e w3 ⟨rfl, hb⟩
  have HB3 := keepd (bAlloc (bCall HB2.out hb) (.cells (cs Z).toArray 25))
  have H13 := keepd ((H12.out.call hb H12.out.lt).alloc (.cells (cs Z).toArray 25))
  have H23 := keepd ((H2.out.call hb H2.out.lt).alloc (.cells (cs Z).toArray 25))
  have H3 := keepd (SR.new 25 w3 (cs Z))
  clear hb r2 k2 HB2 H12 H2
  go_upto_region 4 with fail
  generalize w3.alloc (.cells (cs Z).toArray 25) = V0 at *
  obtain ⟨p3, hp⟩ : ∃ p, w3.heap.size = p := ⟨_, rfl⟩
  rw [hp] at H3 ⊢
  clear hp
  have HB0 := HB3
  have H10 := H13
  have H20 := H23
  have H30 := H3
  clear HB3 H13 H23 H3

  obtain ⟨r, kk⟩ := TB.facts H10.out
  go_wp2_with fail
  with_reducible refine (C3.out _).mono ?_
  rintro e V1 ⟨rfl, hb⟩
  have HB1 := keepd (bCall HB0.out hb)
  have H11 := keepd (SR.call H10.out hb (SR.lt H10.out))
  have H21 := keepd (SR.call H20.out hb (SR.lt H20.out))
  have H31 := keepd (SR.call H30.out hb (SR.lt H30.out))
  clear hb r kk HB0 H10 H20 H30 C3
  obtain ⟨r, kk⟩ := TB.facts H11.out
  go_wp2_with fail
  with_reducible refine (M1.out _).mono ?_
  rintro e V2 ⟨rfl, hb⟩
  have HB2 := keepd (bCall HB1.out hb)
  have H12 := keepd (SR.call H11.out hb (SR.lt H11.out))
  have H22 := keepd (SR.call H21.out hb (SR.lt H21.out))
  have H32 := keepd (SR.call H31.out hb (SR.lt H31.out))
  clear hb r kk HB1 H11 H21 H31 M1
  obtain ⟨r, kk⟩ := TB.facts H12.out
  go_wp2_with fail
  with_reducible refine (M2.out _).mono ?_
  rintro e V3 ⟨rfl, hb⟩
  have HB3 := keepd (bCall HB2.out hb)
  have H13 := keepd (SR.call H12.out hb (SR.lt H12.out))
  have H23 := keepd (SR.call H22.out hb (SR.lt H22.out))
  have H33 := keepd (SR.call H32.out hb (SR.lt H32.out))
  clear hb r kk HB2 H12 H22 H32 M2
  obtain ⟨r, kk⟩ := TB.facts H13.out
  go_wp2_with fail
  with_reducible refine (M3.out _).mono ?_
  rintro e V4 ⟨rfl, hb⟩
  have HB4 := keepd (bCall HB3.out hb)
  have H14 := keepd (SR.call H13.out hb (SR.lt H13.out))
  have H24 := keepd (SR.call H23.out hb (SR.lt H23.out))
  have H34 := keepd (SR.call H33.out hb (SR.lt H33.out))
  clear hb r kk HB3 H13 H23 H33 M3
  obtain ⟨r, kk⟩ := TB.facts H14.out
  go_wp2_with fail
  with_reducible refine (M4.out _).mono ?_
  rintro e V5 ⟨rfl, hb⟩
  have HB5 := keepd (bCall HB4.out hb)
  have H15 := keepd (SR.call H14.out hb (SR.lt H14.out))
  have H25 := keepd (SR.call H24.out hb (SR.lt H24.out))
  have H35 := keepd (SR.call H34.out hb (SR.lt H34.out))
  clear hb r kk HB4 H14 H24 H34 M4
  obtain ⟨r, kk⟩ := TB.facts H25.out
  go_wp2_with fail
  with_reducible refine (M5.out _).mono ?_
  rintro e V6 ⟨rfl, hb⟩
  have HB6 := keepd (bCall HB5.out hb)
  have H16 := keepd (SR.call H15.out hb (SR.lt H15.out))
  have H26 := keepd (SR.call H25.out hb (SR.lt H25.out))
  have H36 := keepd (SR.call H35.out hb (SR.lt H35.out))
  clear hb r kk HB5 H15 H25 H35 M5
  obtain ⟨r, kk⟩ := TB.facts H36.out
  go_wp2_with fail
  with_reducible refine (M6.out _).mono ?_
  rintro e V7 ⟨rfl, hb⟩
  have HB7 := keepd (bCall HB6.out hb)
  have H17 := keepd (SR.call H16.out hb (SR.lt H16.out))
  have H27 := keepd (SR.call H26.out hb (SR.lt H26.out))
  have H37 := keepd (SR.call H36.out hb (SR.lt H36.out))
  clear hb r kk HB6 H16 H26 H36 M6
  go_wp2
  go_returns
  exact ⟨rfl, HB7.out⟩

end Go.Proofs.YtmjhagmniipcaaaDoor
