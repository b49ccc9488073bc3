/-
  The table of commands in memory; the contracts of few, Few, Octets, Check, May, Command, Signal, and of the document's own Command and Signal. No conditions beyond those each theorem states.
-/
import Derived.Test.YtflmplnampgflaaSP
import Derived.Handy
import Derived.Laws.BitsLemmas
namespace Go.Proofs.Ytflmplnampgflaa
open Go.RowKit
set_option maxRecDepth 100000

theorem octets_any (A A' : Option Addr) (l l' : List UInt8) (n n' c c' B : Nat) (w : World) (hn : n = l.length) (hn' : n' = l'.length) (h : Rd w B A l c) (h' : Rd w B A' l' c') :
    Calls Try.prog 19 #[.slice A n c, .slice A' n' c'] w fun e w' => e = .returned (.bool (l == l')) ∧ w = w' := by
  subst hn hn'
  have k1 := conv_str h
  have k2 := conv_str h'
  clear h h'
  go_enter Try.func19, Try.ntmps19
  go_wp2
  go_ret
  exact ⟨rfl, rfl⟩

theorem check_any (f lv : Int) (a i o : Bool) (v : Int) (m : Bool) (hm : mayT f lv = m) (w : World) :
    Calls Try.prog 34 #[.agg #[.int .i64 f, .int .i64 lv, .bool a, .bool i, .bool o, .int .u8 v]] w fun e w' => e = .returned (.int .i64 (if m then 0 else 1)) ∧ Below w.heap.size w w' := by
  have B0 : ∀ o, Below w.heap.size w (w.alloc o) := fun o => bAlloc (Below.refl _ _) o
  cases m
  · have h := mayT_no.1 hm
    clear hm
    by_cases h1 : f < 0
    · have g1 : decide (f < 0) = true := decide_eq_true h1
      go_enter Try.func34, Try.ntmps34
      go_wp2
      go_ret
      exact ⟨rfl, B0 _⟩
    have g1 : decide (f < 0) = false := decide_eq_false h1
    by_cases h2 : 255 < f
    · have g2 : decide (255 < f) = true := decide_eq_true h2
      go_enter Try.func34, Try.ntmps34
      go_wp2
      go_ret
      exact ⟨rfl, B0 _⟩
    have g2 : decide (255 < f) = false := decide_eq_false h2
    by_cases h3 : lv < 0
    · have g3 : decide (lv < 0) = true := decide_eq_true h3
      go_enter Try.func34, Try.ntmps34
      go_wp2
      go_ret
      exact ⟨rfl, B0 _⟩
    have g3 : decide (lv < 0) = false := decide_eq_false h3
    have g4 : decide (3 < lv) = true := decide_eq_true (by omega)
    go_enter Try.func34, Try.ntmps34
    go_wp2
    go_ret
    exact ⟨rfl, B0 _⟩
  · have h := mayT_iff.1 hm
    clear hm
    have g1 : decide (f < 0) = false := decide_eq_false (by omega)
    have g2 : decide (255 < f) = false := decide_eq_false (by omega)
    have g3 : decide (lv < 0) = false := decide_eq_false (by omega)
    have g4 : decide (3 < lv) = false := decide_eq_false (by omega)
    go_enter Try.func34, Try.ntmps34
    go_wp2
    go_ret
    exact ⟨rfl, B0 _⟩

theorem may_any (f lv : Int) (a i o : Bool) (v : Int) (m : Bool) (hm : mayT f lv = m) (w : World) :
    Calls Try.prog 40 #[.agg #[.int .i64 f, .int .i64 lv, .bool a, .bool i, .bool o, .int .u8 v]] w fun e w' => e = .returned (.bool m) ∧ Below w.heap.size w w' := by
  have B0 : ∀ o, Below w.heap.size w (w.alloc o) := fun o => bAlloc (Below.refl _ _) o
  cases m
  · have h := mayT_no.1 hm
    clear hm
    by_cases h1 : f < 0
    · have g1 : decide (f ≥ 0) = false := decide_eq_false (by omega)
      go_enter Try.func40, Try.ntmps40
      go_wp2
      go_ret
      exact ⟨rfl, B0 _⟩
    have g1 : decide (f ≥ 0) = true := decide_eq_true (by omega)
    by_cases h2 : 255 < f
    · have g2 : decide (f ≤ 255) = false := decide_eq_false (by omega)
      go_enter Try.func40, Try.ntmps40
      go_wp2
      go_ret
      exact ⟨rfl, B0 _⟩
    have g2 : decide (f ≤ 255) = true := decide_eq_true (by omega)
    by_cases h3 : lv < 0
    · have g3 : decide (lv ≥ 0) = false := decide_eq_false (by omega)
      go_enter Try.func40, Try.ntmps40
      go_wp2
      go_ret
      exact ⟨rfl, B0 _⟩
    have g3 : decide (lv ≥ 0) = true := decide_eq_true (by omega)
    have g4 : decide (lv ≤ 3) = false := decide_eq_false (by omega)
    go_enter Try.func40, Try.ntmps40
    go_wp2
    go_ret
    exact ⟨rfl, B0 _⟩
  · have h := mayT_iff.1 hm
    clear hm
    have g1 : decide (f ≥ 0) = true := decide_eq_true (by omega)
    have g2 : decide (f ≤ 255) = true := decide_eq_true (by omega)
    have g3 : decide (lv ≥ 0) = true := decide_eq_true (by omega)
    have g4 : decide (lv ≤ 3) = true := decide_eq_true (by omega)
    go_enter Try.func40, Try.ntmps40
    go_wp2
    go_ret
    exact ⟨rfl, B0 _⟩

end Go.Proofs.Ytflmplnampgflaa
