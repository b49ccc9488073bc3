/-
  The contract of awake. No conditions beyond those each theorem states.
-/
import Derived.Test.YtemmdknnmhdhkaaDoorT6
namespace Go.Proofs.YtemmdknnmhdhkaaDoor
open Go.RowKit
set_option maxRecDepth 100000

theorem new_rd' (w : World) (cs : Array Value) (l : List UInt8) (n : Nat) (h : cs = (l.map bv).toArray) (hn : l.length = n) (hl : n ≤ 1000) (W : World) (hW : w.alloc (.cells cs 5) = W) :
    Rd W W.heap.size (some ⟨w.heap.size, 0, none⟩) l n := by
  subst hW
  exact new_rd w cs l n h hn hl

set_option maxHeartbeats 1000000 in
theorem awake_any (w : World) (hL : Laid w) : Calls Tryd.prog 23 #[] w fun e w' => e = .returned (.bool true) ∧ Below w.heap.size w w' := by
  have HL := keepd hL
  clear hL
  have hone : RdT (w.alloc (.cells #[.int .i64 3, .int .i64 2, .bool true, .bool false, .bool false, .int .u8 3] 29)) (some ⟨w.heap.size, 0, none⟩) [⟨3, 2, true, false, false, 3⟩] 1 := one_rdT w ⟨3, 2, true, false, false, 3⟩
  have h343 : ∀ w1 : World, Rd (w1.alloc (.cells #[.int .u8 3, .int .u8 4, .int .u8 3] 5)) (w1.alloc (.cells #[.int .u8 3, .int .u8 4, .int .u8 3] 5)).heap.size (some ⟨w1.heap.size, 0, none⟩) [3, 4, 3] 3 := fun w1 => new_rd w1 _ [3, 4, 3] 3 rfl rfl (by decide)
  go_enter Tryd.func23, Tryd.ntmps23
  go_wp2_with fail
  with_reducible refine (put_any _ [⟨3, 2, true, false, false, 3⟩] 1 1 [3, 130, 3] 3 0 _ rfl (by decide) hone (by decide) rfl (by decide)).mono ?_
  rintro e w1 ⟨A1, c1, rfl, hr1, hb1⟩
  have hb : Below w.heap.size w w1 := upA hb1
  have HR1 := keepd hr1
  have HB1 := keepd hb
  have HL1 := keepd (HL.out.below hb)
  clear hr1 hb1 hb hone
  go_wp2_with fail
  with_reducible refine (get_any _ [3, 4, 3] 3 3 [] 0 2 _ rfl (by decide) (h343 w1) (by decide) rfl (by decide)).mono ?_
  rintro e w2 ⟨A2, c2, rfl, hr2, hb2⟩
  have hb : Below w1.heap.size w1 w2 := upA hb2
  have HR2 := keepd (HR1.out.at_ hb)
  have HB2 := keepd (bCall HB1.out hb)
  have HL2 := keepd (HL1.out.below hb)
  clear hr2 hb2 hb
  go_wp2_with fail
  with_reducible refine (cmd_any 3 _ HL2.out).mono ?_
  rintro e w3 ⟨rfl, rfl⟩
  go_wp2_with fail
  with_reducible refine (cmd_any 10 _ HL2.out).mono ?_
  rintro e w4 ⟨rfl, rfl⟩
  rw [show cmdF 3 = 244 from rfl, show cmdF 10 = 0 from rfl]
  have k1 := conv_str HR2.out
  simp only [List.length_cons, List.length_nil] at k1
  go_wp2
  go_ret
  exact ⟨rfl, HB2.out⟩

end Go.Proofs.YtemmdknnmhdhkaaDoor
