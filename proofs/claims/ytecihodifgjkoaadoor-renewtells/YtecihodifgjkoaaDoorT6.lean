/-
  Octets compared. No conditions beyond those each theorem states.
-/
import Derived.Test.YtecihodifgjkoaaDoorT5
namespace Go.Proofs.YtecihodifgjkoaaDoor
open Go.RowKit
set_option maxRecDepth 100000

theorem line_new2 (w : World) (x y x' y' : Value) (V : World) (hV : (w.alloc (.cells #[x, y] 28)).alloc (.cells #[x', y'] 28) = V) : Hid (SR 28 V w.heap.size [x, y]) ∧ Hid (SR 28 V (w.heap.size + 1) [x', y']) ∧ Hid (Below w.heap.size w V) := by
  subst hV
  refine ⟨row_alloc (heap_alloc_new w _), ?_, bAlloc (bAlloc (Below.refl _ _) _) _⟩
  have := heap_alloc_new (w.alloc (.cells #[x, y] 28)) (.cells #[x', y'] 28)
  rw [World.size_alloc] at this
  exact this

theorem equal_any (A A' : Option Addr) (l l' : List UInt8) (n n' c c' : Nat) (r : Bool) (w : World) (hn : n = l.length) (hn' : n' = l'.length) (h : Rd w w.heap.size A l c) (h' : Rd w w.heap.size A' l' c') (hr : (l == l') = r) :
    Calls Tryd.prog 52 #[.slice A n c, .slice A' n' c'] w fun e w' => e = .returned (.bool r) ∧ w' = w := by
  have e1 := conv_str h
  have e2 := conv_str h'
  rw [← hn] at e1
  rw [← hn'] at e2
  have HR := keepd hr
  clear h h' hr hn hn'
  go_enter Tryd.func52, Tryd.ntmps52
  go_wp2_with fail
  go_ret
  exact ⟨by rw [← HR.out]; rfl, rfl⟩

theorem same_any (A A' : Option Addr) (l l' : List UInt8) (n n' c c' : Nat) (z z' : Int) (r : Bool) (w : World) (hn : n = l.length) (hn' : n' = l'.length) (h : Rd w w.heap.size A l c) (h' : Rd w w.heap.size A' l' c') (hr : (z == z' && l == l') = r) :
    Calls Tryd.prog 35 #[.agg #[.slice A n c, .int .i64 z], .agg #[.slice A' n' c', .int .i64 z']] w fun e w' => e = .returned (.bool r) ∧ Below w.heap.size w w' := by
  have HR := keepd hr
  have HH := keepd h
  have HH' := keepd h'
  have HN := keepd hn
  have HN' := keepd hn'
  clear h h' hr hn hn'
  go_enter Tryd.func35, Tryd.ntmps35
  go_upto_region 1 with fail
  generalize hV : (w.alloc (.cells #[.slice A n c, .int .i64 z] 28)).alloc (.cells #[.slice A' n' c', .int .i64 z'] 28) = V
  obtain ⟨H1, H2, HB⟩ := line_new2 _ _ _ _ _ _ hV
  have k0 := H1.out.cell 0
  have k1 := H1.out.cell 1
  have k2 := H2.out.cell 0
  have k3 := H2.out.cell 1
  simp only [List.getElem?_cons_zero, List.getElem?_cons_succ] at k0 k1 k2 k3
  have C := keepd (equal_any A A' l l' n n' c c' _ V HN.out HN'.out (HH.out.at_ HB.out) (HH'.out.at_ HB.out) rfl)
  clear hV
  cases hq : (z == z')
  · go_wp2_with fail
    go_ret
    exact ⟨by rw [← HR.out, hq]; rfl, HB.out⟩
  · go_wp2_with fail
    with_reducible refine C.out.mono ?_
    rintro e V ⟨rfl, rfl⟩
    go_wp2_with fail
    go_ret
    exact ⟨by rw [← HR.out, hq]; rfl, HB.out⟩

end Go.Proofs.YtecihodifgjkoaaDoor
