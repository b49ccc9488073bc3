/-
  The contract of awake. No conditions beyond those each theorem states.
-/
import Derived.Test.YtopomoghkedbkaaT4
import Derived.Test.YtopomoghkedbkaaT6
namespace Go.Proofs.Ytopomoghkedbkaa
open Go.RowKit
set_option maxRecDepth 100000

attribute [local go_sem ↓] ex_ld23 ex_st23 ex_al23 ex_bu23 ex_eq23 ex_ne23 ex_ld45 ex_st45 ex_al45 ex_bu45
attribute [local go_sem] ptrB_at okPtr_at aggC_at agg32 agg256 isM_at eqV_m isRow_new isRow_newr World.setRow_alloc_new

theorem new_rd (w : World) (cs : Array Value) (l : List UInt8) (n : Nat) (h : cs = (l.map bv).toArray) (hn : l.length = n) (hl : n ≤ 1000) : Rd (w.alloc (.cells cs 5)) (w.alloc (.cells cs 5)).heap.size (some ⟨w.heap.size, 0, none⟩) l n := by
  subst h
  exact Bk.rdN (heap_alloc_new w _) hn (by omega)

theorem new_m (v : World) (X : Mk) (W : World) (h : v.alloc (.cells (ms X).toArray 23) = W) : MB W v.heap.size X ∧ Below v.heap.size v W := by
  subst h
  exact ⟨SR.new 23 v _, bAlloc (Below.refl _ _) _⟩

theorem aw1 : ((ofM [0, 9]).at 0).toNat = 128 ∧ ((ofM [0, 9]).at 1).toNat = 64 ∧ trimM (ofM [0, 9]) = [128, 64] := by decide +kernel
theorem aw2 : keysM (padM [0, 1]) = [15] := by decide +kernel

set_option maxHeartbeats 1000000 in
theorem awake_any (w : World) : Calls Try.prog 23 #[] w fun e w' => e = .returned (.bool true) ∧ Below w.heap.size w w' := by
  have x1 := fun w : World => of_any _ [0, 9] 2 2 rfl (by omega) _ (new_rd w #[.int .u8 0, .int .u8 9] [0, 9] 2 rfl rfl (by omega)) _ rfl
  have x2 := fun w : World => get_any _ [0, 1] 2 2 rfl _ (new_rd w #[.int .u8 0, .int .u8 1] [0, 1] 2 rfl rfl (by omega)) (padM [0, 1]) 0 rfl
  have x3 := fun w : World => get_any _ (zeros 33) 33 33 rfl _ (new_rd w ((zeros 33).map bv).toArray (zeros 33) 33 rfl rfl (by omega)) zM 3 rfl
  have hmk : ∀ W : World, (Instr.makeSlice 26 (.int .i64 33) (.int .i64 33)).run Try.prog W = .ok (.slice (some ⟨W.heap.size, 0, none⟩) 33 33) (W.alloc (.cells ((zeros 33).map bv).toArray 5)) := fun W => make_run 33 (by omega) W
  have x4 := fun w : World => put_any (ofM [0, 9]) w
  have x5 := fun w : World => keys_any (padM [0, 1]) w
  obtain ⟨a1, a2, a3⟩ := aw1
  rw [a3] at x4
  rw [aw2] at x5
  generalize ofM [0, 9] = X at *
  generalize padM [0, 1] = Y at *
  generalize zeros 33 = z33 at *
  have X1 := keepd x1
  have X2 := keepd x2
  have X3 := keepd x3
  have X4 := keepd x4
  have X5 := keepd x5
  have A1 := keepd a1
  have A2 := keepd a2
  clear x1 x2 x3 x4 x5 a1 a2 a3
  go_enter Try.func23, Try.ntmps23
  go_upto_region 2 with (with_reducible refine (X1.out w).mono ?_; rintro e w1 ⟨rfl, hb1⟩)
  obtain ⟨V1, hV⟩ : ∃ V, w1.alloc (.cells (ms X).toArray 23) = V := ⟨_, rfl⟩
  obtain ⟨m1, q1⟩ := new_m _ _ _ hV
  rw [hV]
  obtain ⟨b1, hp⟩ : ∃ b, w1.heap.size = b := ⟨_, rfl⟩
  have B1 := keepd (bCall (upA hb1) q1)
  have M1 := keepd m1
  rw [hp] at M1 ⊢
  clear hV hp m1 q1 hb1 X1
  go_upto_region 3 with (with_reducible refine (X2.out _).mono ?_; rintro e w2 ⟨rfl, hb2⟩)
  obtain ⟨V2, hV⟩ : ∃ V, w2.alloc (.cells (ms Y).toArray 23) = V := ⟨_, rfl⟩
  obtain ⟨m2, q2⟩ := new_m _ _ _ hV
  rw [hV]
  have hb := bCall (upA hb2) q2
  have M12 := keepd (SR.call M1.out hb (SR.lt M1.out))
  have B2 := keepd (bCall B1.out hb)
  obtain ⟨b2, hp⟩ : ∃ b, w2.heap.size = b := ⟨_, rfl⟩
  have M2 := keepd m2
  rw [hp] at M2 ⊢
  clear hV hp m2 q2 hb hb2 X2 M1 B1
  go_upto_region 4 with (with_reducible refine (X3.out _).mono ?_; rintro e w3 ⟨rfl, hb3⟩)
  obtain ⟨V3, hV⟩ : ∃ V, w3.alloc (.cells (ms zM).toArray 23) = V := ⟨_, rfl⟩
  obtain ⟨m3, q3⟩ := new_m _ _ _ hV
  rw [hV]
  have hb := bCall (upA hb3) q3
  have M13 := keepd (SR.call M12.out hb (SR.lt M12.out))
  have M23 := keepd (SR.call M2.out hb (SR.lt M2.out))
  have B3 := keepd (bCall B2.out hb)
  obtain ⟨b3, hp⟩ : ∃ b, w3.heap.size = b := ⟨_, rfl⟩
  rw [hp]
  clear hV hp m3 q3 hb hb3 X3 M12 M2 B2 hmk
  have c0 : V3.cell? ⟨b1, 0, none⟩ = some (.int .u8 128) := by
    have := MB.at M13.out (i := 0) (by omega)
    rwa [A1.out] at this
  have c1 : V3.cell? ⟨b1, 1, none⟩ = some (.int .u8 64) := by
    have := MB.at M13.out (i := 1) (by omega)
    rwa [A2.out] at this
  obtain ⟨r1, k1⟩ := MB.facts M13.out
  obtain ⟨r2, k2⟩ := MB.facts M23.out
  go_wp2_with fail
  with_reducible refine (X4.out _).mono ?_
  rintro e w4 ⟨P4, d4, rfl, hr4, hb4⟩
  have s4 : (convert 26 9 (.slice P4 2 d4)).run Try.prog w4 = .ok (.string ⟨#[128, 64]⟩) w4 := conv_str hr4
  have M24 := keepd (SR.call M23.out hb4 (SR.lt M23.out))
  have B4 := keepd (bCall B3.out hb4)
  clear r1 k1 r2 k2 c0 c1 M23 B3 hr4 hb4 X4 M13
  obtain ⟨r2, k2⟩ := MB.facts M24.out
  go_wp2_with fail
  with_reducible refine (X5.out _).mono ?_
  rintro e w5 ⟨P5, d5, rfl, hr5, hb5⟩
  have s5 : (convert 26 9 (.slice P5 1 d5)).run Try.prog w5 = .ok (.string ⟨#[15]⟩) w5 := conv_str hr5
  have B5 := keepd (bCall B4.out hb5)
  clear r2 k2 hr5 hb5 B4 X5 M24 s4
  go_wp2
  go_ret
  exact ⟨rfl, B5.out⟩

end Go.Proofs.Ytopomoghkedbkaa
