/-
  The examples of the chapter, run. No conditions beyond those each theorem states.
-/
import Derived.Test.YtjhocmeenejjpaaDoorE15
import Derived.Test.YtjhocmeenejjpaaDoorE16
import Derived.Test.YtjhocmeenejjpaaDoorE12
import Derived.Test.YtjhocmeenejjpaaDoorT14
namespace Go.Proofs.YtjhocmeenejjpaaDoor
open Go.RowKit
set_option maxRecDepth 100000

attribute [local go_sem ↓] ex_ld25 ex_st25 ex_al25 ex_bu25 ex_ix25 ex_eq25 ex_ne25 ex_eq23 ex_ne23 ex_ld25o ex_st65 ex_al65 ex_bu65 ex_bu65s
attribute [local go_sem] ptrB_at okPtr_at aggC_at agg62 agg69 isC_at isT_at eqV_t eqV_c isRow_new isRow_new65 World.setRow_alloc_new ptr4_at okPtr4_at cutT_at isI_at isS_at bW_at bWs_at

theorem pl1 (V : World) : Calls Tryd.prog 11 #[tv stdT, .int .i64 99, .agg #[.slice none 0 0, .int .i64 0, .bool false, .bool false], .slice (some ⟨V.heap.size, 0, none⟩) 4 4] (V.alloc (.cells #[.int .u8 97, .int .u8 98, .int .u8 127, .int .u8 13] 5)) (GotP (V.alloc (.cells #[.int .u8 97, .int .u8 98, .int .u8 127, .int .u8 13] 5)) [] 0 0 false false [⟨1, 0, [97]⟩] 1 0) :=
  play_any stdT 99 none [] 0 0 0 false false _ [97, 98, 127, 13] 4 4 _ rfl (Rd.nil _ _) (Nat.le_refl _) (by omega) rfl (lit_rd V [97, 98, 127, 13] #[.int .u8 97, .int .u8 98, .int .u8 127, .int .u8 13] _ rfl (by simp)) (by omega) [] 0 0 false false [⟨1, 0, [97]⟩] 1 0 eaw1 rfl rfl
theorem pl2 (V : World) : Calls Tryd.prog 11 #[tv stdT, .int .i64 99, .agg #[.slice none 0 0, .int .i64 0, .bool false, .bool false], .slice (some ⟨V.heap.size, 0, none⟩) 3 3] (V.alloc (.cells #[.int .u8 22, .int .u8 3, .int .u8 3] 5)) (GotP (V.alloc (.cells #[.int .u8 22, .int .u8 3, .int .u8 3] 5)) [] 0 0 false false [⟨3, 3, []⟩] 1 0) :=
  play_any stdT 99 none [] 0 0 0 false false _ [22, 3, 3] 3 3 _ rfl (Rd.nil _ _) (Nat.le_refl _) (by omega) rfl (lit_rd V [22, 3, 3] #[.int .u8 22, .int .u8 3, .int .u8 3] _ rfl (by simp)) (by omega) [] 0 0 false false [⟨3, 3, []⟩] 1 0 eaw2 rfl rfl
theorem pl3 (V : World) : Calls Tryd.prog 11 #[tv stdT, .int .i64 1, .agg #[.slice none 0 0, .int .i64 0, .bool false, .bool false], .slice (some ⟨V.heap.size, 0, none⟩) 2 2] (V.alloc (.cells #[.int .u8 97, .int .u8 98] 5 (2, 3))) (GotP (V.alloc (.cells #[.int .u8 97, .int .u8 98] 5 (2, 3))) [97] 1 1 false false [] 0 1) :=
  play_any stdT 1 none [] 0 0 0 false false _ [97, 98] 2 2 _ rfl (Rd.nil _ _) (Nat.le_refl _) (by omega) rfl (lit_rd V [97, 98] #[.int .u8 97, .int .u8 98] _ rfl (by simp)) (by omega) [97] 1 1 false false [] 0 1 eaw3 rfl rfl

theorem like1 {w V : World} {B : Option Addr} {d : Nat} {L : List EvM} (h : RdE V B L d) (hL : L.map EvM.abs = [⟨1, 0, [97]⟩]) (hn : L.length = 1) (hb : Below V.heap.size V w) :
    Calls Tryd.prog 21 #[.slice B 1 d, .slice (some ⟨w.heap.size + 1, 0, none⟩) 1 1] ((w.alloc (.cells #[.int .u8 97] 5 (1, 2))).alloc (.cells #[.int .i64 1, .int .i64 0, .slice (some ⟨w.heap.size, 0, none⟩) 1 1] 53)) fun e w' => e = .returned (.bool true) ∧ Below ((w.alloc (.cells #[.int .u8 97] 5 (1, 2))).alloc (.cells #[.int .i64 1, .int .i64 0, .slice (some ⟨w.heap.size, 0, none⟩) 1 1] 53)).heap.size ((w.alloc (.cells #[.int .u8 97] 5 (1, 2))).alloc (.cells #[.int .i64 1, .int .i64 0, .slice (some ⟨w.heap.size, 0, none⟩) 1 1] 53)) w' := by
  have h1 := one_rdE (w.alloc (.cells #[.int .u8 97] 5 (1, 2))) ⟨1, 0, some ⟨w.heap.size, 0, none⟩, [97], 1⟩ (lit_rd w [97] #[.int .u8 97] (1, 2) rfl (by simp))
  rw [World.size_alloc] at h1
  exact alike_any B _ L [⟨1, 0, some ⟨w.heap.size, 0, none⟩, [97], 1⟩] 1 1 d 1 true _ hn.symm rfl (h.at_ (bAlloc (bAlloc hb _) _)) h1 (likeE_iff.2 (by rw [hL]; rfl)) (by omega)
theorem like2 {w V : World} {B : Option Addr} {d : Nat} {L : List EvM} (h : RdE V B L d) (hL : L.map EvM.abs = [⟨3, 3, []⟩]) (hn : L.length = 1) (hb : Below V.heap.size V w) :
    Calls Tryd.prog 21 #[.slice B 1 d, .slice (some ⟨w.heap.size, 0, none⟩) 1 1] (w.alloc (.cells #[.int .i64 3, .int .i64 3, .slice none 0 0] 53)) fun e w' => e = .returned (.bool true) ∧ Below (w.alloc (.cells #[.int .i64 3, .int .i64 3, .slice none 0 0] 53)).heap.size (w.alloc (.cells #[.int .i64 3, .int .i64 3, .slice none 0 0] 53)) w' := by
  have h1 := one_rdE w ⟨3, 3, none, [], 0⟩ (Rd.nil _ _)
  exact alike_any B _ L [⟨3, 3, none, [], 0⟩] 1 1 d 1 true _ hn.symm rfl (h.at_ (bAlloc hb _)) h1 (likeE_iff.2 (by rw [hL]; rfl)) (by omega)
theorem tab_new (w : World) (X : Tb) (V : World) (hV : w.alloc (.cells (cs X).toArray 25) = V) : Hid (TB V w.heap.size X) ∧ Hid (Below w.heap.size w V) := by
  subst hV
  exact ⟨SR.new 25 w _, bAlloc (Below.refl _ _) _⟩

set_option maxHeartbeats 8000000 in
theorem eawake_any (w : World) (hL : Laid w) : Calls Tryd.prog 17 #[] w fun e w' => e = .returned (.bool true) ∧ Below w.heap.size w w' := by
  have CS := keepd (standard_any w hL)
  have C1 := keepd pl1
  have C2 := keepd pl2
  have C3 := keepd pl3
  have hc1 := fun w : World => conv_lit w #[.int .u8 97, .int .u8 98] 2 (2, 3) rfl
  have hc2 := fun w : World => conv_lit w #[.int .u8 97] 1 (1, 2) rfl
  clear hL
  go_enter Tryd.func17, Tryd.ntmps17
  go_wp2_with fail
  with_reducible refine CS.out.mono ?_
  rintro e w0 ⟨rfl, hb0⟩
  have HB0 := keepd hb0
  clear hb0 CS
  go_upto_region 2 with fail
  generalize hV : w0.alloc (.cells (cs stdT).toArray 25) = V0
  obtain ⟨HT0, HBV0⟩ := tab_new _ _ _ hV
  have HBA := keepd (bCall HB0.out HBV0.out)
  obtain ⟨q0, q1⟩ := TB.facts HT0.out
  clear hV HBV0 HB0
  go_wp2_with fail
  with_reducible refine (C1.out _).mono ?_
  rintro e w1 ⟨A1, c1, B1, d1, L1, rfl, hl, hm, hr, hre, hbx⟩
  have hb : Below V0.heap.size V0 w1 := upA hbx
  go_upto_region 3 with fail
  generalize hV : w1.alloc (.cells #[.slice A1 0 c1, .int .i64 0, .bool false, .bool false] 30) = V1
  obtain ⟨HS1, HBV⟩ := st_new _ _ _ _ _ _ hV
  have HBW := keepd (bCall hb HBV.out)
  have HR1 := keepd (hr.at_ HBV.out)
  have HE1 := keepd (hre.at_ HBV.out)
  have HL1 := keepd (And.intro hl hm)
  replace HT0 := keepd (SR.call HT0.out HBW.out (SR.lt HT0.out))
  replace HBA := keepd (bCall HBA.out HBW.out)
  clear q0 q1
  obtain ⟨q0, q1⟩ := TB.facts HT0.out
  clear hV hb hbx hl hm hr hre HBV HBW C1
  go_wp2_with fail
  with_reducible refine (C2.out _).mono ?_
  rintro e w2 ⟨A2, c2, B2, d2, L2, rfl, hl, hm, hr, hre, hbx⟩
  have hb : Below V1.heap.size V1 w2 := upA hbx
  go_upto_region 4 with fail
  generalize hV : w2.alloc (.cells #[.slice A2 0 c2, .int .i64 0, .bool false, .bool false] 30) = V2
  obtain ⟨HS2, HBV⟩ := st_new _ _ _ _ _ _ hV
  have HBW := keepd (bCall hb HBV.out)
  have HR2 := keepd (hr.at_ HBV.out)
  have HE2 := keepd (hre.at_ HBV.out)
  have HL2 := keepd (And.intro hl hm)
  replace HS1 := keepd (SR.call HS1.out HBW.out HS1.out.lt)
  replace HR1 := keepd (HR1.out.at_ HBW.out)
  replace HE1 := keepd (HE1.out.at_ HBW.out)
  replace HT0 := keepd (SR.call HT0.out HBW.out (SR.lt HT0.out))
  replace HBA := keepd (bCall HBA.out HBW.out)
  clear q0 q1
  obtain ⟨q0, q1⟩ := TB.facts HT0.out
  clear hV hb hbx hl hm hr hre HBV HBW C2
  go_wp2_with fail
  with_reducible refine (C3.out _).mono ?_
  rintro e w3 ⟨A3, c3, B3, d3, L3, rfl, hl, hm, hr, hre, hbx⟩
  have hb : Below V2.heap.size V2 w3 := upA hbx
  go_upto_region 5 with fail
  generalize hV : w3.alloc (.cells #[.slice A3 1 c3, .int .i64 1, .bool false, .bool false] 30) = V3
  obtain ⟨HS3, HBV⟩ := st_new _ _ _ _ _ _ hV
  have HBW := keepd (bCall hb HBV.out)
  have HR3 := keepd (hr.at_ HBV.out)
  have HE3 := keepd (hre.at_ HBV.out)
  have HL3 := keepd (And.intro hl hm)
  replace HS1 := keepd (SR.call HS1.out HBW.out HS1.out.lt)
  replace HR1 := keepd (HR1.out.at_ HBW.out)
  replace HE1 := keepd (HE1.out.at_ HBW.out)
  replace HS2 := keepd (SR.call HS2.out HBW.out HS2.out.lt)
  replace HR2 := keepd (HR2.out.at_ HBW.out)
  replace HE2 := keepd (HE2.out.at_ HBW.out)
  replace HT0 := keepd (SR.call HT0.out HBW.out (SR.lt HT0.out))
  replace HBA := keepd (bCall HBA.out HBW.out)
  clear q0 q1
  obtain ⟨q0, q1⟩ := TB.facts HT0.out
  clear hV hb hbx hl hm hr hre HBV HBW C3
  obtain ⟨k0, k1, k2, k3, _, _, _, _, kt⟩ := st_facts HS1.out
  have CE := keepd (esame_any A1 none [] [] 0 0 c1 0 0 0 false false false false true V3 rfl rfl HR1.out (Rd.nil _ _) rfl)
  have CL1 := keepd fun (W : World) (hb : Below V3.heap.size V3 W) => like1 HE1.out HL1.out.1 HL1.out.2 hb
  have CL2 := keepd fun (W : World) (hb : Below V3.heap.size V3 W) => like2 HE2.out HL2.out.1 HL2.out.2 hb
  clear HS1 HS2 HS3 HR1 HR2 HR3 HT0 q0 q1 hc1
  go_wp2_with fail
  with_reducible refine CE.out.mono ?_
  rintro e w4 ⟨rfl, hb4⟩
  have HB4 := keepd hb4
  clear hb4 CE
  go_wp2_with fail
  with_reducible refine (CL1.out _ HB4.out).mono ?_
  rintro e w5 ⟨rfl, hb5⟩
  have HB5 := keepd (bCall HB4.out (upA (upA hb5)))
  clear hb5 CL1
  go_wp2_with fail
  with_reducible refine (CL2.out _ HB5.out).mono ?_
  rintro e w6 ⟨rfl, hb6⟩
  have HB6 := keepd (bCall HB5.out (upA hb6))
  clear hb6 CL2
  go_wp2_with fail
  go_ret
  exact ⟨rfl, bCall HBA.out HB6.out⟩

end Go.Proofs.YtjhocmeenejjpaaDoor
