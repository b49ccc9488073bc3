/-
  Layer 5 on numbers: what Got, Ask, Wanted and Check answer; the contracts of Check and of a row's 'of'.
-/
import Derived.Test.YtlgcfpdmklieiaaDoorWords
namespace Go.Proofs.YtlgcfpdmklieiaaDoor
open Go.RowKit

/-- Three numbers: where it is then, what is said, the error. -/
abbrev Three := Int × Int × Int

def pickS (x : Six) (y : Bool) : Three := if y then (x.1, x.2.1, x.2.2.1) else (x.2.2.2.1, x.2.2.2.2.1, x.2.2.2.2.2)

/-- What Got answers. -/
def gF (q : Int) (y m : Bool) : Three :=
  if 0 ≤ q ∧ q ≤ 5 then
    let z := pickS (heardR.getD q.toNat (0, 0, 0, 0, 0, 0)) y
    if m = false ∧ z = (1, 1, 0) then (0, 2, 0) else z
  else (q, 0, 1)

/-- What Ask answers. -/
def aF (q : Int) (on : Bool) : Three :=
  if 0 ≤ q ∧ q ≤ 5 then pickS (askedR.getD q.toNat (0, 0, 0, 0, 0, 0)) on else (q, 0, 1)

/-- What Wanted answers. -/
def wF (q : Int) : Bool := decide (q = 1 ∨ q = 3 ∨ q = 4)

/-- Three numbers, answered. -/
def tup (z : Three) : Value := .tuple #[.int .i64 z.1, .int .i64 z.2.1, .int .i64 z.2.2]

theorem check_in (q : Int) (w : World) (h0 : 0 ≤ q) (h5 : q ≤ 5) : Calls Tryd.prog 44 #[.int .i64 q] w fun e w' => e = .returned (.int .i64 0) ∧ w' = w := by
  have g0 : decide (q < 0) = false := by simp; omega
  have g1 : decide (6 ≤ q) = false := by simp; omega
  go_enter Tryd.func44, Tryd.ntmps44
  go_wp2
  go_ret
  exact ⟨rfl, rfl⟩

theorem check_out (q : Int) (w : World) (h : q < 0 ∨ 5 < q) : Calls Tryd.prog 44 #[.int .i64 q] w fun e w' => e = .returned (.int .i64 1) ∧ w' = w := by
  by_cases g : q < 0
  · have g0 : decide (q < 0) = true := by simp; omega
    go_enter Tryd.func44, Tryd.ntmps44
    go_wp2
    go_ret
    exact ⟨rfl, rfl⟩
  · have g0 : decide (q < 0) = false := by simp; omega
    have g1 : decide (6 ≤ q) = true := by simp; omega
    clear h
    go_enter Tryd.func44, Tryd.ntmps44
    go_wp2
    go_ret
    exact ⟨rfl, rfl⟩

theorem of_yes (a b c d e f : Int) (w : World) : Calls Tryd.prog 45 #[.agg #[.int .i64 a, .int .i64 b, .int .i64 c, .int .i64 d, .int .i64 e, .int .i64 f], .bool true] w fun r w' =>
    r = .returned (.agg #[.int .i64 a, .int .i64 b, .int .i64 c]) ∧ Below w.heap.size w w' := by
  have B0 : ∀ o o', Below w.heap.size w ((w.alloc o).alloc o') := fun o o' => bAlloc (bAlloc (Below.refl _ _) o) o'
  go_enter Tryd.func45, Tryd.ntmps45
  go_wp2
  exact bodyPost_ret (v := .agg #[.int .i64 a, .int .i64 b, .int .i64 c]) (by simp [results, Tryd.results45, go_sem]) rfl ⟨rfl, B0 _ _⟩

theorem of_no (a b c d e f : Int) (w : World) : Calls Tryd.prog 45 #[.agg #[.int .i64 a, .int .i64 b, .int .i64 c, .int .i64 d, .int .i64 e, .int .i64 f], .bool false] w fun r w' =>
    r = .returned (.agg #[.int .i64 d, .int .i64 e, .int .i64 f]) ∧ Below w.heap.size w w' := by
  have B0 : ∀ o o', Below w.heap.size w ((w.alloc o).alloc o') := fun o o' => bAlloc (bAlloc (Below.refl _ _) o) o'
  go_enter Tryd.func45, Tryd.ntmps45
  go_wp2
  exact bodyPost_ret (v := .agg #[.int .i64 d, .int .i64 e, .int .i64 f]) (by simp [results, Tryd.results45, go_sem]) rfl ⟨rfl, B0 _ _⟩

theorem of_any (a b c d e f : Int) (y : Bool) (w : World) : Calls Tryd.prog 45 #[.agg #[.int .i64 a, .int .i64 b, .int .i64 c, .int .i64 d, .int .i64 e, .int .i64 f], .bool y] w fun r w' =>
    r = .returned (.agg #[.int .i64 (pickS (a, b, c, d, e, f) y).1, .int .i64 (pickS (a, b, c, d, e, f) y).2.1, .int .i64 (pickS (a, b, c, d, e, f) y).2.2]) ∧ Below w.heap.size w w' := by
  cases y
  · exact of_no a b c d e f w
  · exact of_yes a b c d e f w

end Go.Proofs.YtlgcfpdmklieiaaDoor
