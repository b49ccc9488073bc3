/-
  Several texts in one: E16 E17. No conditions beyond those each theorem states.
-/
import Derived.Test.YtlfmbfecajhffaaDoorE10
import Derived.Test.YtlfmbfecajhffaaDoorA5
import Derived.Test.YtlfmbfecajhffaaDoorE12
import Derived.Test.YtlfmbfecajhffaaDoorA2
/-
  A state and keys cut down to what is looked at; the examples of the chapter on lists. No conditions beyond those each theorem states.
-/
namespace Go.Proofs.YtlfmbfecajhffaaDoor
open Go.RowKit
set_option maxRecDepth 100000

attribute [local go_sem ↓] ex_ld25 ex_st25 ex_al25 ex_bu25 ex_ix25 ex_eq25 ex_ne25 ex_eq23 ex_ne23 ex_ld25o ex_st65 ex_al65 ex_bu65 ex_bu65s
attribute [local go_sem] ptrB_at okPtr_at aggC_at agg62 agg69 isC_at isT_at eqV_t eqV_c isRow_new isRow_new65 World.setRow_alloc_new ptr4_at okPtr4_at cutT_at isI_at isS_at bW_at bWs_at

set_option maxHeartbeats 1000000 in
/-- A state cut down to what is looked at. -/
theorem one_any (A : Option Addr) (l : List UInt8) (n c m : Nat) (z : Int) (ov li : Bool) (w : World) (hn : n = l.length) (hr : Rd w w.heap.size A l c) (hm : (fewL l).length = m) :
    Calls Tryd.prog 26 #[.agg #[.slice A n c, .int .i64 z, .bool ov, .bool li]] w fun e w' => e = .returned (.agg #[.slice A m c, .int .i64 z, .bool ov, .bool li]) ∧ Below w.heap.size w w' := by
  have HR := keepd hr
  have HN := keepd hn
  have HM := keepd hm
  clear hr hn hm
  go_enter Tryd.func26, Tryd.ntmps26
  go_upto_region 1 with fail
  generalize hV : (w.alloc (.cells #[.slice A n c, .int .i64 z, .bool ov, .bool li] 32)).alloc (.cells #[.slice none 0 0, .int .i64 0, .bool false, .bool false] 32) = V
  obtain ⟨H, H2, HB⟩ := st_new2 _ _ _ _ _ _ _ _ _ _ hV
  obtain ⟨k0, k1, k2, k3, _, _, _, _, kt⟩ := st_facts H.out
  have CK := keepd (few_any A l n c m z V HN.out (HR.out.at_ HB.out) HM.out)
  clear hV
  go_wp2_with fail
  with_reducible refine CK.out.mono ?_
  rintro e w1 ⟨rfl, hb1⟩
  have HB1 := keepd (bCall HB.out hb1)
  have H3 := keepd (SR.call H.out hb1 H.out.lt)
  have H4 := keepd (SR.call H2.out hb1 H2.out.lt)
  obtain ⟨k0, k1, k2, k3, r0, r1, r2, r3, kt⟩ := st_facts H3.out
  clear hb1 H H2 CK HB
  go_upto_region 2 with fail
  generalize hV : (w1.setCell ⟨w.heap.size, 0, none⟩ (.slice A m c)).setCell ⟨w.heap.size, 1, none⟩ (.int .i64 z) = V2
  have HX : Hid (SR 32 V2 w.heap.size [.slice A m c, .int .i64 z, .bool ov, .bool li]) := by rw [← hV]; exact (H3.out.set 0 _).set 1 _
  have HY : Hid (SR 32 V2 (w.heap.size + 1) [.slice none 0 0, .int .i64 0, .bool false, .bool false]) := by rw [← hV]; exact (H4.out.far (by show w.heap.size + 1 ≠ w.heap.size; omega) _).far (by show w.heap.size + 1 ≠ w.heap.size; omega) _
  have HB2 : Hid (Below w.heap.size w V2) := by rw [← hV]; exact set2_below HB1.out (Nat.le_refl _) _ _
  clear hV H3 H4 HB1 k0 k1 k2 k3 r0 r1 r2 r3 kt
  obtain ⟨k0, k1, k2, k3, _, _, _, _, kt⟩ := st_facts HX.out
  obtain ⟨j0, j1, j2, j3, r0, r1, r2, r3, jt⟩ := st_facts HY.out
  go_wp2_with fail
  refine bodyPost_ret (v := .agg #[.slice A m c, .int .i64 z, .bool ov, .bool li]) (by simp [results, Tryd.results26, go_sem, j0, j1, j2, j3]) rfl ?_
  exact ⟨rfl, bSet (bSet (bSet (bSet HB2.out (by omega) _) (by omega) _) (by omega) _) (by omega) _⟩

/-- Keys cut down to what is looked at. -/
def fewK (l : List UInt8) : List UInt8 := l.take 200
theorem fewK_le (l : List UInt8) : (fewK l).length ≤ 200 := by simp [fewK]; omega
theorem lawFew_any (A : Option Addr) (l : List UInt8) (n c m : Nat) (w : World) (hn : n = l.length) (hc : n ≤ c) (hm : (fewK l).length = m) : Calls Tryd.prog 48 #[.slice A n c] w fun e w' => e = .returned (.slice A m c) ∧ w' = w := by
  by_cases h : 200 < n
  · have a1 : (n : Int) > 200 := by omega
    have a2 : (200 : Int) ≤ (n : Int) := by omega
    have a3 : (200 : Int) < (n : Int) := by omega
    have em : m = 200 := by rw [← hm]; simp [fewK]; omega
    subst em
    clear hm hn
    go_enter Tryd.func48, Tryd.ntmps48
    go_wp2_with fail
    go_ret
    exact ⟨rfl, rfl⟩
  · have a1 : ¬ (n : Int) > 200 := by omega
    have a3 : ¬ (200 : Int) < (n : Int) := by omega
    have em : m = n := by rw [← hm, hn]; simp [fewK]; omega
    subst em
    clear hm hn
    go_enter Tryd.func48, Tryd.ntmps48
    go_wp2_with fail
    go_ret
    exact ⟨rfl, rfl⟩
theorem keys_any (A : Option Addr) (l : List UInt8) (n c m : Nat) (w : World) (hn : n = l.length) (hc : n ≤ c) (hm : (fewK l).length = m) : Calls Tryd.prog 25 #[.slice A n c] w fun e w' => e = .returned (.slice A m c) ∧ w' = w := by
  have C := keepd (lawFew_any A l n c m w hn hc hm)
  clear hn hc hm
  go_enter Tryd.func25, Tryd.ntmps25
  go_wp2_with fail
  with_reducible refine C.out.mono ?_
  rintro e w1 ⟨rfl, rfl⟩
  go_wp2_with fail
  go_ret
  exact ⟨rfl, rfl⟩

theorem eaw1 : playE stdT 99 ⟨⟨[], 0, false, false⟩, [], 0⟩ [97, 98, 127, 13] = ⟨⟨[], 0, false, false⟩, [⟨1, 0, [97]⟩], 0⟩ := by kernel_rfl
theorem eaw2 : playE stdT 99 ⟨⟨[], 0, false, false⟩, [], 0⟩ [22, 3, 3] = ⟨⟨[], 0, false, false⟩, [⟨3, 3, []⟩], 0⟩ := by kernel_rfl
theorem eaw3 : playE stdT 1 ⟨⟨[], 0, false, false⟩, [], 0⟩ [97, 98] = ⟨⟨[97], 1, false, false⟩, [], 1⟩ := by kernel_rfl

end Go.Proofs.YtlfmbfecajhffaaDoor
/-
  The examples of the chapter, run. No conditions beyond those each theorem states.
-/
namespace Go.Proofs.YtlfmbfecajhffaaDoor
open Go.RowKit
set_option maxRecDepth 100000

attribute [local go_sem ↓] ex_ld25 ex_st25 ex_al25 ex_bu25 ex_ix25 ex_eq25 ex_ne25 ex_eq23 ex_ne23 ex_ld25o ex_st65 ex_al65 ex_bu65 ex_bu65s
attribute [local go_sem] ptrB_at okPtr_at aggC_at agg62 agg69 isC_at isT_at eqV_t eqV_c isRow_new isRow_new65 World.setRow_alloc_new ptr4_at okPtr4_at cutT_at isI_at isS_at bW_at bWs_at

theorem pl1 (V : World) : Calls Tryd.prog 21 #[tv stdT, .int .i64 99, .agg #[.slice none 0 0, .int .i64 0, .bool false, .bool false], .slice (some ⟨V.heap.size, 0, none⟩) 4 4] (V.alloc (.cells #[.int .u8 97, .int .u8 98, .int .u8 127, .int .u8 13] 5)) (GotP (V.alloc (.cells #[.int .u8 97, .int .u8 98, .int .u8 127, .int .u8 13] 5)) [] 0 0 false false [⟨1, 0, [97]⟩] 1 0) :=
  play_any stdT 99 none [] 0 0 0 false false _ [97, 98, 127, 13] 4 4 _ rfl (Rd.nil _ _) (Nat.le_refl _) (by omega) rfl (lit_rd V [97, 98, 127, 13] #[.int .u8 97, .int .u8 98, .int .u8 127, .int .u8 13] _ rfl (by simp)) (by omega) [] 0 0 false false [⟨1, 0, [97]⟩] 1 0 eaw1 rfl rfl
theorem pl2 (V : World) : Calls Tryd.prog 21 #[tv stdT, .int .i64 99, .agg #[.slice none 0 0, .int .i64 0, .bool false, .bool false], .slice (some ⟨V.heap.size, 0, none⟩) 3 3] (V.alloc (.cells #[.int .u8 22, .int .u8 3, .int .u8 3] 5)) (GotP (V.alloc (.cells #[.int .u8 22, .int .u8 3, .int .u8 3] 5)) [] 0 0 false false [⟨3, 3, []⟩] 1 0) :=
  play_any stdT 99 none [] 0 0 0 false false _ [22, 3, 3] 3 3 _ rfl (Rd.nil _ _) (Nat.le_refl _) (by omega) rfl (lit_rd V [22, 3, 3] #[.int .u8 22, .int .u8 3, .int .u8 3] _ rfl (by simp)) (by omega) [] 0 0 false false [⟨3, 3, []⟩] 1 0 eaw2 rfl rfl
theorem pl3 (V : World) : Calls Tryd.prog 21 #[tv stdT, .int .i64 1, .agg #[.slice none 0 0, .int .i64 0, .bool false, .bool false], .slice (some ⟨V.heap.size, 0, none⟩) 2 2] (V.alloc (.cells #[.int .u8 97, .int .u8 98] 5 (2, 3))) (GotP (V.alloc (.cells #[.int .u8 97, .int .u8 98] 5 (2, 3))) [97] 1 1 false false [] 0 1) :=
  play_any stdT 1 none [] 0 0 0 false false _ [97, 98] 2 2 _ rfl (Rd.nil _ _) (Nat.le_refl _) (by omega) rfl (lit_rd V [97, 98] #[.int .u8 97, .int .u8 98] _ rfl (by simp)) (by omega) [97] 1 1 false false [] 0 1 eaw3 rfl rfl

theorem like1 {w V : World} {B : Option Addr} {d : Nat} {L : List EvM} (h : RdE V B L d) (hL : L.map EvM.abs = [⟨1, 0, [97]⟩]) (hn : L.length = 1) (hb : Below V.heap.size V w) :
    Calls Tryd.prog 23 #[.slice B 1 d, .slice (some ⟨w.heap.size + 1, 0, none⟩) 1 1] ((w.alloc (.cells #[.int .u8 97] 5 (1, 2))).alloc (.cells #[.int .i64 1, .int .i64 0, .slice (some ⟨w.heap.size, 0, none⟩) 1 1] 69)) fun e w' => e = .returned (.bool true) ∧ Below ((w.alloc (.cells #[.int .u8 97] 5 (1, 2))).alloc (.cells #[.int .i64 1, .int .i64 0, .slice (some ⟨w.heap.size, 0, none⟩) 1 1] 69)).heap.size ((w.alloc (.cells #[.int .u8 97] 5 (1, 2))).alloc (.cells #[.int .i64 1, .int .i64 0, .slice (some ⟨w.heap.size, 0, none⟩) 1 1] 69)) w' := by
  have h1 := one_rdE (w.alloc (.cells #[.int .u8 97] 5 (1, 2))) ⟨1, 0, some ⟨w.heap.size, 0, none⟩, [97], 1⟩ (lit_rd w [97] #[.int .u8 97] (1, 2) rfl (by simp))
  rw [World.size_alloc] at h1
  exact alike_any B _ L [⟨1, 0, some ⟨w.heap.size, 0, none⟩, [97], 1⟩] 1 1 d 1 true _ hn.symm rfl (h.at_ (bAlloc (bAlloc hb _) _)) h1 (likeE_iff.2 (by rw [hL]; rfl)) (by omega)
theorem like2 {w V : World} {B : Option Addr} {d : Nat} {L : List EvM} (h : RdE V B L d) (hL : L.map EvM.abs = [⟨3, 3, []⟩]) (hn : L.length = 1) (hb : Below V.heap.size V w) :
    Calls Tryd.prog 23 #[.slice B 1 d, .slice (some ⟨w.heap.size, 0, none⟩) 1 1] (w.alloc (.cells #[.int .i64 3, .int .i64 3, .slice none 0 0] 69)) fun e w' => e = .returned (.bool true) ∧ Below (w.alloc (.cells #[.int .i64 3, .int .i64 3, .slice none 0 0] 69)).heap.size (w.alloc (.cells #[.int .i64 3, .int .i64 3, .slice none 0 0] 69)) w' := by
  have h1 := one_rdE w ⟨3, 3, none, [], 0⟩ (Rd.nil _ _)
  exact alike_any B _ L [⟨3, 3, none, [], 0⟩] 1 1 d 1 true _ hn.symm rfl (h.at_ (bAlloc hb _)) h1 (likeE_iff.2 (by rw [hL]; rfl)) (by omega)
theorem tab_new (w : World) (X : Tb) (V : World) (hV : w.alloc (.cells (cs X).toArray 25) = V) : Hid (TB V w.heap.size X) ∧ Hid (Below w.heap.size w V) := by
  subst hV
  exact ⟨SR.new 25 w _, bAlloc (Below.refl _ _) _⟩

end Go.Proofs.YtlfmbfecajhffaaDoor
