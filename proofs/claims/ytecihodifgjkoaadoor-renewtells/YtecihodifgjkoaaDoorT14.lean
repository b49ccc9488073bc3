/-
  The chapter's examples: the contract of awake. No conditions beyond those each theorem states.
-/
import Derived.Test.YtecihodifgjkoaaDoorT13
import Derived.Lib.SmallJoins
namespace Go.Proofs.YtecihodifgjkoaaDoor
open Go.RowKit
set_option maxRecDepth 100000

open Go.Joins in
theorem lit_rd (w : World) (l : List UInt8) (cs : Array Value) (fr : Nat × Nat) (h : (l.map bv).toArray = cs) (hl : l.length ≤ 100) : Rd (w.alloc (.cells cs 5 fr)) (w.alloc (.cells cs 5 fr)).heap.size (some ⟨w.heap.size, 0, none⟩) l l.length := by
  subst h
  refine ⟨Nat.le_refl _, by unfold maxLen; omega, fun _ => ⟨_, rfl, by rw [World.size_alloc]; exact Nat.lt_succ_self _⟩, fun ad had j u hu => ?_⟩
  injection had with had
  subst had
  rw [add_lit0, cell_alloc_mark_at w _ 5 fr _ j rfl]
  simp [hu]
open Go.Joins in
theorem conv_lit (w : World) (C : Array Value) (n : Nat) (fr : Nat × Nat) (h : (C.size, C.size + 1) = fr) : (convert 26 26 (.slice (some ⟨w.heap.size, 0, none⟩) n n)).run Tryd.prog (w.alloc (.cells C 5)) = .ok (.slice (some ⟨w.heap.size, 0, none⟩) n n) (w.alloc (.cells C 5 fr)) := by
  subst h
  exact run_convert_bytes_const_at w 26 5 C n n _ rfl Tryd.underlying26 Tryd.underlying5

theorem aw1 (w : World) : Calls Tryd.prog 55 #[.agg #[.slice (some ⟨w.heap.size, 0, none⟩) 2 2, .int .i64 1], .int .i64 9, .bool false, .int .u8 99] (w.alloc (.cells #[.int .u8 97, .int .u8 98] 5 (2, 3)))
    (GotD (w.alloc (.cells #[.int .u8 97, .int .u8 98] 5 (2, 3))) [97, 99, 98] 3 2 true) :=
  ty_any (some ⟨w.heap.size, 0, none⟩) [97, 98] [97, 99, 98] 2 2 1 2 3 9 false 99 _ rfl (lit_rd w [97, 98] _ _ rfl (by decide)) (by decide) (by decide) (by decide +kernel) rfl

theorem aw2 (w : World) : Calls Tryd.prog 55 #[.agg #[.slice (some ⟨w.heap.size, 0, none⟩) 2 2, .int .i64 1], .int .i64 2, .bool true, .int .u8 99] (w.alloc (.cells #[.int .u8 97, .int .u8 98] 5 (2, 3)))
    (GotD (w.alloc (.cells #[.int .u8 97, .int .u8 98] 5 (2, 3))) [97, 99] 2 2 true) :=
  ty_any (some ⟨w.heap.size, 0, none⟩) [97, 98] [97, 99] 2 2 1 2 2 2 true 99 _ rfl (lit_rd w [97, 98] _ _ rfl (by decide)) (by decide) (by decide) (by decide +kernel) rfl

theorem aw3 (w : World) : Calls Tryd.prog 51 #[.agg #[.slice (some ⟨w.heap.size, 0, none⟩) 7 7, .int .i64 7], .int .i64 12] (w.alloc (.cells #[.int .u8 97, .int .u8 98, .int .u8 32, .int .u8 32, .int .u8 99, .int .u8 100, .int .u8 32] 5 (7, 8)))
    (GotD (w.alloc (.cells #[.int .u8 97, .int .u8 98, .int .u8 32, .int .u8 32, .int .u8 99, .int .u8 100, .int .u8 32] 5 (7, 8))) [97, 98, 32, 32] 4 4 true) :=
  do_any (some ⟨w.heap.size, 0, none⟩) [97, 98, 32, 32, 99, 100, 32] [97, 98, 32, 32] 7 7 7 4 4 12 _ rfl (lit_rd w [97, 98, 32, 32, 99, 100, 32] _ _ rfl (by decide)) (by decide) (by decide) (by decide +kernel) rfl

theorem aw4 (w : World) : Calls Tryd.prog 70 #[.agg #[.slice (some ⟨w.heap.size, 0, none⟩) 6 6, .int .i64 0]] (w.alloc (.cells #[.int .u8 97, .int .u8 98, .int .u8 32, .int .u8 32, .int .u8 99, .int .u8 100] 5 (6, 7)))
    (fun e w' => e = .returned (.int .i64 4) ∧ Below (w.alloc (.cells #[.int .u8 97, .int .u8 98, .int .u8 32, .int .u8 32, .int .u8 99, .int .u8 100] 5 (6, 7))).heap.size (w.alloc (.cells #[.int .u8 97, .int .u8 98, .int .u8 32, .int .u8 32, .int .u8 99, .int .u8 100] 5 (6, 7))) w') :=
  on_any (some ⟨w.heap.size, 0, none⟩) [97, 98, 32, 32, 99, 100] 6 6 0 4 _ rfl (lit_rd w [97, 98, 32, 32, 99, 100] _ _ rfl (by decide)) (by decide) (by decide) (by decide +kernel)

theorem line_new1 (w : World) (x y : Value) (V : World) (hV : w.alloc (.cells #[x, y] 28) = V) : Hid (SR 28 V w.heap.size [x, y]) ∧ Hid (Below w.heap.size w V) ∧ Hid (V.heap.size = w.heap.size + 1) := by
  subst hV
  exact ⟨heap_alloc_new w _, bAlloc (Below.refl _ _) _, World.size_alloc _ _⟩

end Go.Proofs.YtecihodifgjkoaaDoor
