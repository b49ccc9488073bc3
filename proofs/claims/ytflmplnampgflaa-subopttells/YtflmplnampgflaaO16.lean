/-
  The examples. No conditions beyond those each theorem states.
-/
import Derived.Test.YtflmplnampgflaaO15
namespace Go.Proofs.Ytflmplnampgflaa
open Go.RowKit
set_option maxRecDepth 100000

attribute [local go_sem ↓] ex_ld23 ex_st23 ex_al23 ex_bu23 ex_eq23 ex_ne23 ex_ld26 ex_st26 ex_al26 ex_ld23o ex_st23o ex_bu26 ex_bu26k ex_bu26m ex_bu26l ex_bu26v ex_bu26w ex_eq29 ex_ne29
attribute [local go_sem] ptrB_at okPtr_at aggC_at agg32 agg36 isM_at eqV_m isRow_new isRow_new26 World.setRow_alloc_new ptr3_at okPtr3_at cutM_at putM_at isI_at isL_at bK_at bKM_at bKL_at bKVM_at bKV_at isV_at toV_at

theorem ex13 : getP [1, 3] = (⟨1, 3, 0, zM, []⟩, 0) := by decide +kernel
theorem ex253 : getP [253, 2, 128] = (⟨2, 0, 253, padM [128], []⟩, 0) := by decide +kernel
theorem ex251 : getP [251, 2, 0] = (zS, 2) := by decide +kernel
theorem ex0 : getP [] = (zS, 2) := by decide +kernel
theorem has128 : has (padM [128]) 0 = true := by decide +kernel

/-- A sub answered, and an error, told without its row. -/
def GotN (w : World) (k m v : Int) (M : Mk) (er : Int) (e : Ending) (w' : World) : Prop :=
  ∃ A n c, e = .returned (.tuple #[sv k m v M (.slice A n c), .int .i64 er]) ∧ Below w.heap.size w w'
theorem GetAns.gotN {w : World} {k m v : Int} {M : Mk} {L : List Tr} {er : Int} {e : Ending} {w' : World} (h : GetAns w k m v M L er e w') : GotN w k m v M er e w' := by
  obtain ⟨A, n, c, h1, _, _, h4⟩ := h
  exact ⟨A, n, c, h1, h4⟩

set_option maxHeartbeats 4000000 in
theorem awake_any (w : World) : Calls Try.prog 18 #[] w fun e w' => e = .returned (.bool true) ∧ Below w.heap.size w w' := by
  have x1 := fun w : World => (sget_any _ [1, 3] 2 2 _ _ _ _ _ _ _ rfl (new_rd w #[.int .u8 1, .int .u8 3] [1, 3] 2 rfl rfl (by omega)) ex13).mono fun _ _ h => h.gotN
  have x2 := fun w : World => (sget_any _ [253, 2, 128] 3 3 _ _ _ _ _ _ _ rfl (new_rd w #[.int .u8 253, .int .u8 2, .int .u8 128] [253, 2, 128] 3 rfl rfl (by omega)) ex253).mono fun _ _ h => h.gotN
  have x3 := fun w : World => (sget_any _ [251, 2, 0] 3 3 _ _ _ _ _ _ _ rfl (new_rd w #[.int .u8 251, .int .u8 2, .int .u8 0] [251, 2, 0] 3 rfl rfl (by omega)) ex251).mono fun _ _ h => h.gotN
  have x4 := fun w : World => (sget_any none [] 0 0 _ _ _ _ _ _ w rfl (Rd.nil w _) ex0).mono fun _ _ h => h.gotN
  have HP : Hid (has (padM [128]) 0 = true) := has128
  obtain ⟨P, hP⟩ : ∃ P, padM [128] = P := ⟨_, rfl⟩
  rw [hP] at HP
  simp only [hP] at x2
  clear hP
  have xh : ∀ w : World, Calls Try.prog 32 #[mv P, .int .u8 0] w fun e w' => e = .returned (.bool true) ∧ Below w.heap.size w w' := fun w => has_any P 0 (by omega) true HP.out w
  have X1 := keepd x1
  have X2 := keepd x2
  have X3 := keepd x3
  have X4 := keepd x4
  have XH := keepd xh
  clear x1 x2 x3 x4 xh HP
  have HB0 := keepd (bAlloc (Below.refl w.heap.size w) (.cells #[.int .u8 1, .int .u8 3] 5))
  go_enter Try.func18, Try.ntmps18
  go_wp2_with fail
  with_reducible refine (X1.out _).mono ?_
  rintro e w2 ⟨A1, n1, c1, rfl, hb⟩
  have HB1 := keepd (bCall HB0.out hb)
  clear hb HB0
  go_upto_region 2 with fail
  obtain ⟨V1, hV1⟩ : ∃ V, w2.alloc (.cells (sc 1 3 0 zM (.slice A1 n1 c1)).toArray 26) = V := ⟨_, rfl⟩
  obtain ⟨G1, hG1⟩ : ∃ G, w2.heap.size = G := ⟨_, rfl⟩
  have s1 := SR.new 26 w2 (sc 1 3 0 zM (.slice A1 n1 c1))
  rw [hV1, hG1] at s1
  have hbv := bAlloc HB1.out (.cells (sc 1 3 0 zM (.slice A1 n1 c1)).toArray 26)
  rw [hV1] at hbv
  have hbu := bAlloc (Below.refl w2.heap.size w2) (.cells (sc 1 3 0 zM (.slice A1 n1 c1)).toArray 26)
  rw [hV1] at hbu
  rw [hV1, hG1]
  have S1 := keepd s1
  clear s1
  have HBV1 := keepd hbv
  clear hbv hbu hV1 hG1 HB1
  have HBn := keepd (bAlloc HBV1.out (.cells #[.int .u8 253, .int .u8 2, .int .u8 128] 5))
  have T1 := keepd (SR.alloc S1.out (.cells #[.int .u8 253, .int .u8 2, .int .u8 128] 5))
  go_wp2_with fail
  with_reducible refine (X2.out _).mono ?_
  rintro e w3 ⟨A2, n2, c2, rfl, hb⟩
  have HB2 := keepd (bCall HBn.out hb)
  have S1b := SR.call T1.out hb T1.out.lt
  clear S1 T1
  have S1 := keepd S1b
  clear S1b
  clear hb HBn HBV1
  go_upto_region 3 with fail
  obtain ⟨V2, hV2⟩ : ∃ V, w3.alloc (.cells (sc 2 0 253 P (.slice A2 n2 c2)).toArray 26) = V := ⟨_, rfl⟩
  obtain ⟨G2, hG2⟩ : ∃ G, w3.heap.size = G := ⟨_, rfl⟩
  have s2 := SR.new 26 w3 (sc 2 0 253 P (.slice A2 n2 c2))
  rw [hV2, hG2] at s2
  have hbv := bAlloc HB2.out (.cells (sc 2 0 253 P (.slice A2 n2 c2)).toArray 26)
  rw [hV2] at hbv
  have hbu := bAlloc (Below.refl w3.heap.size w3) (.cells (sc 2 0 253 P (.slice A2 n2 c2)).toArray 26)
  rw [hV2] at hbu
  rw [hV2, hG2]
  have S1b := SR.call S1.out hbu S1.out.lt
  clear S1
  have S1 := keepd S1b
  clear S1b
  have S2 := keepd s2
  clear s2
  have HBV2 := keepd hbv
  clear hbv hbu hV2 hG2 HB2
  have HBn := keepd (bAlloc HBV2.out (.cells #[.int .u8 251, .int .u8 2, .int .u8 0] 5))
  have T1 := keepd (SR.alloc S1.out (.cells #[.int .u8 251, .int .u8 2, .int .u8 0] 5))
  have T2 := keepd (SR.alloc S2.out (.cells #[.int .u8 251, .int .u8 2, .int .u8 0] 5))
  go_wp2_with fail
  with_reducible refine (X3.out _).mono ?_
  rintro e w4 ⟨A3, n3, c3, rfl, hb⟩
  have HB3 := keepd (bCall HBn.out hb)
  have S1b := SR.call T1.out hb T1.out.lt
  clear S1 T1
  have S1 := keepd S1b
  clear S1b
  have S2b := SR.call T2.out hb T2.out.lt
  clear S2 T2
  have S2 := keepd S2b
  clear S2b
  clear hb HBn HBV2
  go_upto_region 4 with fail
  obtain ⟨V3, hV3⟩ : ∃ V, w4.alloc (.cells (sc 0 0 0 zM (.slice A3 n3 c3)).toArray 26) = V := ⟨_, rfl⟩
  obtain ⟨G3, hG3⟩ : ∃ G, w4.heap.size = G := ⟨_, rfl⟩
  have s3 := SR.new 26 w4 (sc 0 0 0 zM (.slice A3 n3 c3))
  rw [hV3, hG3] at s3
  have hbv := bAlloc HB3.out (.cells (sc 0 0 0 zM (.slice A3 n3 c3)).toArray 26)
  rw [hV3] at hbv
  have hbu := bAlloc (Below.refl w4.heap.size w4) (.cells (sc 0 0 0 zM (.slice A3 n3 c3)).toArray 26)
  rw [hV3] at hbu
  rw [hV3, hG3]
  have S1b := SR.call S1.out hbu S1.out.lt
  clear S1
  have S1 := keepd S1b
  clear S1b
  have S2b := SR.call S2.out hbu S2.out.lt
  clear S2
  have S2 := keepd S2b
  clear S2b
  have S3 := keepd s3
  clear s3
  have HBV3 := keepd hbv
  clear hbv hbu hV3 hG3 HB3
  have HBn := HBV3
  have T1 := S1
  have T2 := S2
  have T3 := S3
  go_wp2_with fail
  with_reducible refine (X4.out _).mono ?_
  rintro e w5 ⟨A4, n4, c4, rfl, hb⟩
  have HB4 := keepd (bCall HBn.out hb)
  have S1b := SR.call T1.out hb T1.out.lt
  clear S1 T1
  have S1 := keepd S1b
  clear S1b
  have S2b := SR.call T2.out hb T2.out.lt
  clear S2 T2
  have S2 := keepd S2b
  clear S2b
  have S3b := SR.call T3.out hb T3.out.lt
  clear S3 T3
  have S3 := keepd S3b
  clear S3b
  clear hb HBn HBV3
  go_upto_region 5 with fail
  obtain ⟨V4, hV4⟩ : ∃ V, w5.alloc (.cells (sc 0 0 0 zM (.slice A4 n4 c4)).toArray 26) = V := ⟨_, rfl⟩
  obtain ⟨G4, hG4⟩ : ∃ G, w5.heap.size = G := ⟨_, rfl⟩
  have s4 := SR.new 26 w5 (sc 0 0 0 zM (.slice A4 n4 c4))
  rw [hV4, hG4] at s4
  have hbv := bAlloc HB4.out (.cells (sc 0 0 0 zM (.slice A4 n4 c4)).toArray 26)
  rw [hV4] at hbv
  have hbu := bAlloc (Below.refl w5.heap.size w5) (.cells (sc 0 0 0 zM (.slice A4 n4 c4)).toArray 26)
  rw [hV4] at hbu
  rw [hV4, hG4]
  have S1b := SR.call S1.out hbu S1.out.lt
  clear S1
  have S1 := keepd S1b
  clear S1b
  have S2b := SR.call S2.out hbu S2.out.lt
  clear S2
  have S2 := keepd S2b
  clear S2b
  have S3b := SR.call S3.out hbu S3.out.lt
  clear S3
  have S3 := keepd S3b
  clear S3b
  have S4 := keepd s4
  clear s4
  have HBV4 := keepd hbv
  clear hbv hbu hV4 hG4 HB4
  obtain ⟨a0, a1, a2, a3⟩ := SB.cells S1.out
  obtain ⟨b0, b1, b2, b3⟩ := SB.cells S2.out
  obtain ⟨b4, b5⟩ := SB.facts S2.out
  go_wp2_with fail
  with_reducible refine (XH.out _).mono ?_
  rintro e w6 ⟨rfl, hb⟩
  have HB6 := keepd (bCall HBV4.out hb)
  clear hb
  go_wp2_with fail
  go_ret
  exact ⟨rfl, HB6.out⟩

end Go.Proofs.Ytflmplnampgflaa
