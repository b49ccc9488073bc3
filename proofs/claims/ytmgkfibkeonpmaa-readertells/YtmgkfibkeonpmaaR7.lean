/-
  Contracts over layer 4: ways. No conditions.
-/
import Derived.Test.YtmgkfibkeonpmaaR6
namespace Go.Proofs.Ytmgkfibkeonpmaa
open Go.RowKit

def waysA : Array Value := #[.func (.func 27) #[] #[], .func (.func 28) #[] #[], .func (.func 29) #[] #[], .func (.func 30) #[] #[], .func (.func 31) #[] #[], .func (.func 32) #[] #[], .func (.func 33) #[] #[], .func (.func 34) #[] #[], .func (.func 35) #[] #[]]

theorem hsf (a : Addr) (fn : Fn) (first c : Array Value) (w : World) : (store a (.func fn first c)).run Try.prog w = stored Try.prog w a (.func fn first c) .plain := run_store Try.prog w a (.func fn first c) .plain rfl

set_option maxRecDepth 100000 in
set_option maxHeartbeats 1000000 in
theorem rways_any (w : World) : Calls Try.prog 19 #[] w fun e w' => e = .returned (.agg waysA) ∧ Below w.heap.size w w' := by
  have B0 : ∀ o, Below w.heap.size w (w.alloc o) := fun o => bAlloc (Below.refl _ _) o
  have hs := hsf
  go_enter Try.func19, Try.ntmps19
  go_wp2
  refine bodyPost_ret (v := .agg waysA) (by simp [results, Try.results19, go_sem, waysA]) rfl ⟨rfl, B0 _⟩

/-- What the method at the reader's place does. -/
theorem method_any {W : World} {p : Nat} {K : List (Nat × Obj)} {r : Abs} {L : List Itm} {w : World} (h : WI W p K r L w) (hm : mayR r = true) (hL : L.length ≤ 100000) (u : UInt8) (i : Nat) (hi : r.k = (i : Int)) (hi9 : i < 9) :
    ∃ fn : Nat, waysA[i]? = some (.func (.func fn) #[] #[]) ∧ (∀ (args : Array Value) (w : World), (callFunc fn args).run Try.prog w = .ok (.enter fn args) w) ∧
      Calls Try.prog fn #[.pointer (some ⟨p, 0, none⟩), .int .u8 (u.toNat : Int)] w (GotM W p K (step r u).1 L (step r u).2) := by
  have hl := mayR_len hm
  have : i = 0 ∨ i = 1 ∨ i = 2 ∨ i = 3 ∨ i = 4 ∨ i = 5 ∨ i = 6 ∨ i = 7 ∨ i = 8 := by omega
  rcases this with rfl | rfl | rfl | rfl | rfl | rfl | rfl | rfl | rfl
  · exact ⟨_, rfl, fun _ _ => by kernel_rfl, by rw [step_0 hi]; exact data_any h hL u _ rfl⟩
  · exact ⟨_, rfl, fun _ _ => by kernel_rfl, return_any h hL u _ rfl hi⟩
  · exact ⟨_, rfl, fun _ _ => by kernel_rfl, by rw [step_2 hi]; exact command_any h hL u _ rfl⟩
  · exact ⟨_, rfl, fun _ _ => by kernel_rfl, verb_any h hL u _ rfl hi⟩
  · exact ⟨_, rfl, fun _ _ => by kernel_rfl, option_any h u _ rfl hi⟩
  · exact ⟨_, rfl, fun _ _ => by kernel_rfl, sub_any h hl u _ rfl hi⟩
  · exact ⟨_, rfl, fun _ _ => by kernel_rfl, subEnd_any h hL hl u _ rfl hi⟩
  · exact ⟨_, rfl, fun _ _ => by kernel_rfl, skip_any h u _ rfl hi⟩
  · exact ⟨_, rfl, fun _ _ => by kernel_rfl, skipEnd_any h hL u _ rfl hi⟩

end Go.Proofs.Ytmgkfibkeonpmaa
