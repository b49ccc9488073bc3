/-
  The examples of the chapter, run. No conditions beyond those each theorem states.
-/
import Derived.Test.YtecihodifgjkoaaDoorE15
import Derived.Test.YtecihodifgjkoaaDoorE16
import Derived.Test.YtecihodifgjkoaaDoorE12
import Derived.Test.YtecihodifgjkoaaDoorT14
namespace Go.Proofs.YtecihodifgjkoaaDoor
open Go.RowKit
set_option maxRecDepth 100000

attribute [local go_sem ↓] ex_ld25 ex_st25 ex_al25 ex_bu25 ex_ix25 ex_eq25 ex_ne25 ex_eq23 ex_ne23 ex_ld25o ex_st65 ex_al65 ex_bu65 ex_bu65s
attribute [local go_sem] ptrB_at okPtr_at aggC_at agg62 agg69 isC_at isT_at eqV_t eqV_c isRow_new isRow_new65 World.setRow_alloc_new ptr4_at okPtr4_at cutT_at isI_at isS_at bW_at bWs_at

theorem pl1 (V : World) : Calls Tryd.prog 17 #[tv stdT, .int .i64 99, .agg #[.slice none 0 0, .int .i64 0, .bool false, .bool false], .slice (some ⟨V.heap.size, 0, none⟩) 4 4] (V.alloc (.cells #[.int .u8 97, .int .u8 98, .int .u8 127, .int .u8 13] 5)) (GotP (V.alloc (.cells #[.int .u8 97, .int .u8 98, .int .u8 127, .int .u8 13] 5)) [] 0 0 false false [⟨1, 0, [97]⟩] 1 0) :=
  play_any stdT 99 none [] 0 0 0 false false _ [97, 98, 127, 13] 4 4 _ rfl (Rd.nil _ _) (Nat.le_refl _) (by omega) rfl (lit_rd V [97, 98, 127, 13] #[.int .u8 97, .int .u8 98, .int .u8 127, .int .u8 13] _ rfl (by simp)) (by omega) [] 0 0 false false [⟨1, 0, [97]⟩] 1 0 eaw1 rfl rfl
theorem pl2 (V : World) : Calls Tryd.prog 17 #[tv stdT, .int .i64 99, .agg #[.slice none 0 0, .int .i64 0, .bool false, .bool false], .slice (some ⟨V.heap.size, 0, none⟩) 3 3] (V.alloc (.cells #[.int .u8 22, .int .u8 3, .int .u8 3] 5)) (GotP (V.alloc (.cells #[.int .u8 22, .int .u8 3, .int .u8 3] 5)) [] 0 0 false false [⟨3, 3, []⟩] 1 0) :=
  play_any stdT 99 none [] 0 0 0 false false _ [22, 3, 3] 3 3 _ rfl (Rd.nil _ _) (Nat.le_refl _) (by omega) rfl (lit_rd V [22, 3, 3] #[.int .u8 22, .int .u8 3, .int .u8 3] _ rfl (by simp)) (by omega) [] 0 0 false false [⟨3, 3, []⟩] 1 0 eaw2 rfl rfl
theorem pl3 (V : World) : Calls Tryd.prog 17 #[tv stdT, .int .i64 1, .agg #[.slice none 0 0, .int .i64 0, .bool false, .bool false], .slice (some ⟨V.heap.size, 0, none⟩) 2 2] (V.alloc (.cells #[.int .u8 97, .int .u8 98] 5 (2, 3))) (GotP (V.alloc (.cells #[.int .u8 97, .int .u8 98] 5 (2, 3))) [97] 1 1 false false [] 0 1) :=
  play_any stdT 1 none [] 0 0 0 false false _ [97, 98] 2 2 _ rfl (Rd.nil _ _) (Nat.le_refl _) (by omega) rfl (lit_rd V [97, 98] #[.int .u8 97, .int .u8 98] _ rfl (by simp)) (by omega) [97] 1 1 false false [] 0 1 eaw3 rfl rfl

theorem like1 {w V : World} {B : Option Addr} {d : Nat} {L : List EvM} (h : RdE V B L d) (hL : L.map EvM.abs = [⟨1, 0, [97]⟩]) (hn : L.length = 1) (hb : Below V.heap.size V w) :
    Calls Tryd.prog 20 #[.slice B 1 d, .slice (some ⟨w.heap.size + 1, 0, none⟩) 1 1] ((w.alloc (.cells #[.int .u8 97] 5 (1, 2))).alloc (.cells #[.int .i64 1, .int .i64 0, .slice (some ⟨w.heap.size, 0, none⟩) 1 1] 67)) fun e w' => e = .returned (.bool true) ∧ Below ((w.alloc (.cells #[.int .u8 97] 5 (1, 2))).alloc (.cells #[.int .i64 1, .int .i64 0, .slice (some ⟨w.heap.size, 0, none⟩) 1 1] 67)).heap.size ((w.alloc (.cells #[.int .u8 97] 5 (1, 2))).alloc (.cells #[.int .i64 1, .int .i64 0, .slice (some ⟨w.heap.size, 0, none⟩) 1 1] 67)) w' := by
  have h1 := one_rdE (w.alloc (.cells #[.int .u8 97] 5 (1, 2))) ⟨1, 0, some ⟨w.heap.size, 0, none⟩, [97], 1⟩ (lit_rd w [97] #[.int .u8 97] (1, 2) rfl (by simp))
  rw [World.size_alloc] at h1
  exact alike_any B _ L [⟨1, 0, some ⟨w.heap.size, 0, none⟩, [97], 1⟩] 1 1 d 1 true _ hn.symm rfl (h.at_ (bAlloc (bAlloc hb _) _)) h1 (likeE_iff.2 (by rw [hL]; rfl)) (by omega)
theorem like2 {w V : World} {B : Option Addr} {d : Nat} {L : List EvM} (h : RdE V B L d) (hL : L.map EvM.abs = [⟨3, 3, []⟩]) (hn : L.length = 1) (hb : Below V.heap.size V w) :
    Calls Tryd.prog 20 #[.slice B 1 d, .slice (some ⟨w.heap.size, 0, none⟩) 1 1] (w.alloc (.cells #[.int .i64 3, .int .i64 3, .slice none 0 0] 67)) fun e w' => e = .returned (.bool true) ∧ Below (w.alloc (.cells #[.int .i64 3, .int .i64 3, .slice none 0 0] 67)).heap.size (w.alloc (.cells #[.int .i64 3, .int .i64 3, .slice none 0 0] 67)) w' := by
  have h1 := one_rdE w ⟨3, 3, none, [], 0⟩ (Rd.nil _ _)
  exact alike_any B _ L [⟨3, 3, none, [], 0⟩] 1 1 d 1 true _ hn.symm rfl (h.at_ (bAlloc hb _)) h1 (likeE_iff.2 (by rw [hL]; rfl)) (by omega)
theorem tab_new (w : World) (X : Tb) (V : World) (hV : w.alloc (.cells (cs X).toArray 25) = V) : Hid (TB V w.heap.size X) ∧ Hid (Below w.heap.size w V) := by
  subst hV
  exact ⟨SR.new 25 w _, bAlloc (Below.refl _ _) _⟩

end Go.Proofs.YtecihodifgjkoaaDoor
