/-
  The examples of the chapter, run; keys of any state. No conditions beyond those each theorem states.
-/
import Derived.Test.YtecihodifgjkoaaDoorN5
namespace Go.Proofs.YtecihodifgjkoaaDoor
open Go.RowKit
set_option maxRecDepth 100000

attribute [local go_sem ↓] ex_ld25 ex_st25 ex_al25 ex_bu25 ex_ix25 ex_eq25 ex_ne25 ex_eq23 ex_ne23 ex_ld25o ex_st65 ex_al65 ex_bu65 ex_bu65s
attribute [local go_sem] ptrB_at okPtr_at aggC_at agg62 agg69 isC_at isT_at eqV_t eqV_c isRow_new isRow_new65 World.setRow_alloc_new ptr4_at okPtr4_at cutT_at isI_at isS_at bW_at bWs_at

theorem stdO : TbO stdT := fun i => by
  show 0 ≤ (stdC i).v ∧ (stdC i).v ≤ 255
  unfold stdC
  rcases Nat.lt_or_ge i 31 with h | h
  · have : ∀ i : Fin 31, 0 ≤ stdR.getD i.1 0 ∧ stdR.getD i.1 0 ≤ 255 := by decide +kernel
    have := this ⟨i, h⟩
    split
    · exact ⟨by decide, by decide⟩
    · exact this
  · rw [if_pos (by simp [stdR, List.getD_eq_getElem?_getD, List.getElem?_eq_none (show (([0, 0, 0, 3, 15, 20, 0, 28, 4, 26, 127, 21, 23, 18, 22, 17, 19, 0, 0, 2, 6, 25, 24, 1, 5, 9, 16, 8, 14, 29, 11] : List Int)).length ≤ i from h)])]
    exact ⟨by decide, by decide⟩
/-- What keys lead to any state, and none of one that may not be. -/
def keysG (X : Tb) (l : List UInt8) (z : Int) (ov li : Bool) : List UInt8 := if mayV l.length z then keysL X ⟨l, z.toNat, ov, li⟩ else []
theorem keys_go (X : Tb) (hX : TbO X) (A : Option Addr) (l : List UInt8) (n c : Nat) (z : Int) (ov li : Bool) (w : World) (hn : n = l.length) (hr : Rd w w.heap.size A l c) (L : List UInt8) (m : Nat) (hL : keysG X l z ov li = L) (hm : L.length = m) :
    Calls Tryd.prog 13 #[tv X, .agg #[.slice A n c, .int .i64 z, .bool ov, .bool li]] w (GotKy w L m) := by
  subst hL hm
  unfold keysG
  cases h : mayV l.length z
  · exact kbad_any X A n c z ov li w (by rw [hn]; exact h)
  · obtain ⟨h1, h2⟩ := mayV_ok (ov := ov) (li := li) h
    have := kgood_any X hX A l n c z.toNat ov li w hn hr (by rw [hn]; exact h1.1) (by rw [hn]; exact h1.2) _ _ rfl rfl
    rw [h2] at this
    exact this
theorem ka1 (V : World) : Calls Tryd.prog 13 #[tv stdT, .agg #[.slice (some ⟨V.heap.size, 0, none⟩) 2 2, .int .i64 2, .bool false, .bool false]] (V.alloc (.cells #[.int .u8 97, .int .u8 98] 5 (2, 3))) (GotR (V.alloc (.cells #[.int .u8 97, .int .u8 98] 5 (2, 3))) [97, 98] 2) :=
  (kgood_any stdT stdO _ [97, 98] 2 2 2 false false _ rfl (lit_rd V [97, 98] #[.int .u8 97, .int .u8 98] (2, 3) rfl (by simp)) (by omega) (by omega) [97, 98] 2 (by decide +kernel) rfl).mono fun _ _ h => h.r
theorem ka2 (V : World) : Calls Tryd.prog 13 #[tv stdT, .agg #[.slice (some ⟨V.heap.size, 0, none⟩) 2 2, .int .i64 1, .bool false, .bool false]] (V.alloc (.cells #[.int .u8 97, .int .u8 98] 5 (2, 3))) (GotR (V.alloc (.cells #[.int .u8 97, .int .u8 98] 5 (2, 3))) [98, 1, 97] 3) :=
  (kgood_any stdT stdO _ [97, 98] 2 2 1 false false _ rfl (lit_rd V [97, 98] #[.int .u8 97, .int .u8 98] (2, 3) rfl (by simp)) (by omega) (by omega) [98, 1, 97] 3 (by decide +kernel) rfl).mono fun _ _ h => h.r
theorem ka3 (V : World) : Calls Tryd.prog 13 #[tv stdT, .agg #[.slice (some ⟨V.heap.size, 0, none⟩) 1 1, .int .i64 1, .bool true, .bool false]] (V.alloc (.cells #[.int .u8 3] 5)) (GotR (V.alloc (.cells #[.int .u8 3] 5)) [22, 3, 16] 3) :=
  (kgood_any stdT stdO _ [3] 1 1 1 true false _ rfl (lit_rd V [3] #[.int .u8 3] (0, 0) rfl (by simp)) (by omega) (by omega) [22, 3, 16] 3 (by decide +kernel) rfl).mono fun _ _ h => h.r

set_option maxHeartbeats 4000000 in
theorem awake_any (w : World) (hL : Laid w) : Calls Tryd.prog 15 #[] w fun e w' => e = .returned (.bool true) ∧ Below w.heap.size w w' := by
  have CS := keepd (standard_any w hL)
  have C1 := keepd ka1
  have C2 := keepd ka2
  have C3 := keepd ka3
  have CP1 := keepd fun W : World => plain_any stdT 97 true (by decide +kernel) W
  have CP2 := keepd fun W : World => plain_any stdT 13 false (by decide +kernel) W
  rw [show (((97 : UInt8).toNat : Nat) : Int) = 97 from rfl] at CP1
  rw [show (((13 : UInt8).toNat : Nat) : Int) = 13 from rfl] at CP2
  have hc1 := fun w : World => conv_lit w #[.int .u8 97, .int .u8 98] 2 (2, 3) rfl
  clear hL
  go_enter Tryd.func15, Tryd.ntmps15
  go_wp2_with fail
  with_reducible refine CS.out.mono ?_
  rintro e w0 ⟨rfl, hb0⟩
  have HB0 := keepd hb0
  clear hb0 CS
  go_upto_region 2 with fail
  generalize hV : w0.alloc (.cells (cs stdT).toArray 25) = V0
  obtain ⟨HT0, HBV0⟩ := tab_new _ _ _ hV
  have HBA := keepd (bCall HB0.out HBV0.out)
  obtain ⟨q0, q1⟩ := TB.facts HT0.out
  clear hV HBV0 HB0
  go_wp2_with fail
  with_reducible refine (C1.out _).mono ?_
  rintro e w1 ⟨⟨A1, c1, rfl, hr1⟩, hb1⟩
  have HB1 : Hid (Below V0.heap.size V0 w1) := upA hb1
  have HT1 := keepd (SR.call HT0.out HB1.out (SR.lt HT0.out))
  have HR1 := keepd hr1
  clear q0 q1 hb1 hr1 C1
  obtain ⟨q0, q1⟩ := TB.facts HT1.out
  go_wp2_with fail
  with_reducible refine (C2.out _).mono ?_
  rintro e w2 ⟨⟨A2, c2, rfl, hr2⟩, hb2'⟩
  have hb2 : Below w1.heap.size w1 w2 := upA hb2'
  have HB2 := keepd (bCall HB1.out hb2)
  have HT2 := keepd (SR.call HT1.out hb2 (SR.lt HT1.out))
  have HR12 := keepd (HR1.out.at_ hb2)
  have HR2 := keepd hr2
  clear q0 q1 hb2 hb2' hr2 C2 HR1 HB1 HT1 HT0
  obtain ⟨q0, q1⟩ := TB.facts HT2.out
  go_wp2_with fail
  with_reducible refine (C3.out _).mono ?_
  rintro e w3 ⟨⟨A3, c3, rfl, hr3⟩, hb3'⟩
  have hb3 : Below w2.heap.size w2 w3 := upA hb3'
  have HB3 := keepd (bCall HB2.out hb3)
  have HT3 := keepd (SR.call HT2.out hb3 (SR.lt HT2.out))
  have d1 : (convert 26 9 (.slice A1 2 c1)).run Tryd.prog w3 = .ok (.string ⟨#[97, 98]⟩) w3 := conv_str (HR12.out.at_ hb3)
  have d2 : (convert 26 9 (.slice A2 3 c2)).run Tryd.prog w3 = .ok (.string ⟨#[98, 1, 97]⟩) w3 := conv_str (HR2.out.at_ hb3)
  have d3 : (convert 26 9 (.slice A3 3 c3)).run Tryd.prog w3 = .ok (.string ⟨#[22, 3, 16]⟩) w3 := conv_str hr3
  clear q0 q1 hb3 hb3' hr3 C3 HR12 HR2 HB2 HT2
  obtain ⟨q0, q1⟩ := TB.facts HT3.out
  go_wp2_with fail
  with_reducible refine (CP1.out _).mono ?_
  rintro e w4 ⟨rfl, hb4⟩
  have HB4 := keepd (bCall HB3.out hb4)
  have HT4 := keepd (SR.call HT3.out hb4 (SR.lt HT3.out))
  clear q0 q1 hb4 CP1 HT3 HB3
  obtain ⟨q0, q1⟩ := TB.facts HT4.out
  go_wp2_with fail
  with_reducible refine (CP2.out _).mono ?_
  rintro e w5 ⟨rfl, hb5⟩
  have HB5 := keepd (bCall HBA.out (bCall HB4.out hb5))
  clear q0 q1 hb5 CP2 HT4 HB4
  go_wp2_with fail
  go_ret
  exact ⟨rfl, HB5.out⟩

end Go.Proofs.YtecihodifgjkoaaDoor
