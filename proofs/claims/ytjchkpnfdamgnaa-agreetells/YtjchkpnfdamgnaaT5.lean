/-
  The contract of awake. No conditions beyond those each theorem states.
-/
import Derived.Test.YtjchkpnfdamgnaaT4
namespace Go.Proofs.Ytjchkpnfdamgnaa
open Go.RowKit
set_option maxRecDepth 100000

attribute [local go_sem ↓] ex_ld31 ex_st31 ex_al31 ex_bu31 ex_ix31 ex_eq31 ex_ne31 ex_eq29 ex_ne29 ex_ld25 ex_st25 ex_al25 ex_bu25 ex_ix25 ex_ld27 ex_st27
attribute [local go_sem] ptrB_at okPtr_at aggC_at agg62 isC_at isT_at eqV_t eqV_c isRow_new isRow_newp World.setRow_alloc_new agg6 isRow_new6


/-- The prefs of the examples. -/
def pT : Tb := tset (tset zT 3 ⟨2, 3⟩) 10 ⟨1, 3⟩
theorem built25 : Try.prog.built 25 [(3, .agg #[.int .i64 2, .int .u8 3]), (10, .agg #[.int .i64 1, .int .u8 3])] = some (cs pT).toArray := by kernel_rfl
theorem ex_bp25 (ρ : Operand → Value) (dst : Option Tmp) (x y : Operand) (ty : TypeId) (pos : String) (af : Array Edge) (gd : Option (Nat × Bool)) (W : World) (hx : ρ x = .agg #[.int .i64 2, .int .u8 3]) (hy : ρ y = .agg #[.int .i64 1, .int .u8 3]) :
    Sem.run Try.prog (execOp ρ ⟨dst, .build 25 #[(3, x), (10, y)], ty, pos, af, gd⟩) W = .ok (.value (tv pT)) W := by
  unfold execOp
  simp only [List.map_toArray, List.map_cons, List.map_nil, hx, hy, Sem.run_bind]
  rw [run_build W 25 _ _ built25]
  rfl
theorem aw1 : settleF pT ⟨3, 1, false, false, false, 9⟩ = (⟨1, 9⟩, 0) := by decide +kernel
theorem aw2 : settleF pT ⟨10, 2, false, false, false, 9⟩ = (⟨1, 3⟩, 0) := by decide +kernel
theorem aw3 : settleF pT ⟨10, 1, false, false, false, 9⟩ = (⟨0, 0⟩, 0) := by decide +kernel
attribute [local go_sem ↓] ex_bp25

set_option maxHeartbeats 1000000 in
theorem awake_any (w : World) : Calls Try.prog 20 #[] w fun e w' => e = .returned (.bool true) ∧ Below w.heap.size w w' := by
  have C1 := keepd (settle_any pT _ _ _ aw1)
  have C2 := keepd (settle_any pT _ _ _ aw2)
  have C3 := keepd (settle_any pT _ _ _ aw3)
  go_enter Try.func20, Try.ntmps20
  go_upto_region 2 with fail
  generalize pT = X at *
  have HB := keepd (bAlloc (Below.refl w.heap.size w) (.cells (cs X).toArray 25))
  have H1 := keepd (SR.new 25 w (cs X))
  generalize w.alloc (.cells (cs X).toArray 25) = W at *
  obtain ⟨b0, hb0⟩ : ∃ b, w.heap.size = b := ⟨_, rfl⟩
  rw [hb0] at H1 ⊢
  clear hb0
  obtain ⟨r1, k1⟩ := PB.facts H1.out
  go_wp2_with fail
  with_reducible refine (C1.out _).mono ?_
  rintro e v2 ⟨rfl, hb⟩
  have HB2 := keepd (bAlloc (bCall HB.out hb) (.cells #[.int .i64 1, .int .u8 9] 29))
  have H12 := keepd (SR.alloc (SR.call H1.out hb (SR.lt H1.out)) (.cells #[.int .i64 1, .int .u8 9] 29))
  have HA := keepd (SR.new 29 v2 (cl ⟨1, 9⟩))
  clear hb r1 k1 HB H1 C1
  go_upto_region 3 with fail
  generalize v2.alloc (.cells #[.int .i64 1, .int .u8 9] 29) = w2 at *
  obtain ⟨b1, hp⟩ : ∃ p, v2.heap.size = p := ⟨_, rfl⟩
  rw [hp] at HA ⊢
  clear hp
  obtain ⟨r1, k1⟩ := PB.facts H12.out
  go_wp2_with fail
  with_reducible refine (C2.out _).mono ?_
  rintro e v3 ⟨rfl, hb⟩
  have HB3 := keepd (bAlloc (bCall HB2.out hb) (.cells #[.int .i64 1, .int .u8 3] 29))
  have H13 := keepd (SR.alloc (SR.call H12.out hb (SR.lt H12.out)) (.cells #[.int .i64 1, .int .u8 3] 29))
  have HA3 := keepd (SR.alloc (SR.call HA.out hb (SR.lt HA.out)) (.cells #[.int .i64 1, .int .u8 3] 29))
  have HC := keepd (SR.new 29 v3 (cl ⟨1, 3⟩))
  clear hb r1 k1 HB2 H12 HA C2
  go_upto_region 4 with fail
  generalize v3.alloc (.cells #[.int .i64 1, .int .u8 3] 29) = w3 at *
  obtain ⟨b2, hp⟩ : ∃ p, v3.heap.size = p := ⟨_, rfl⟩
  rw [hp] at HC ⊢
  clear hp
  obtain ⟨r1, k1⟩ := PB.facts H13.out
  go_wp2_with fail
  with_reducible refine (C3.out _).mono ?_
  rintro e v4 ⟨rfl, hb⟩
  have HB4 := keepd (bAlloc (bCall HB3.out hb) (.cells #[.int .i64 0, .int .u8 0] 29))
  have HA4 := keepd (SR.alloc (SR.call HA3.out hb (SR.lt HA3.out)) (.cells #[.int .i64 0, .int .u8 0] 29))
  have HC4 := keepd (SR.alloc (SR.call HC.out hb (SR.lt HC.out)) (.cells #[.int .i64 0, .int .u8 0] 29))
  have HD := keepd (SR.new 29 v4 (cl ⟨0, 0⟩))
  clear hb r1 k1 HB3 H13 HA3 HC C3
  go_upto_region 5 with fail
  generalize v4.alloc (.cells #[.int .i64 0, .int .u8 0] 29) = w4 at *
  obtain ⟨b3, hp⟩ : ∃ p, v4.heap.size = p := ⟨_, rfl⟩
  rw [hp] at HD ⊢
  clear hp
  obtain ⟨a0, a1, _, _⟩ := SR.clF HA4.out
  obtain ⟨c0, c1, _, _⟩ := SR.clF HC4.out
  obtain ⟨d0, d1, _, _⟩ := SR.clF HD.out
  go_wp2
  go_returns
  exact ⟨rfl, HB4.out⟩

end Go.Proofs.Ytjchkpnfdamgnaa
