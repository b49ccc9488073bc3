/-
  Contracts over the document's answers for layer 4: Same, May. No conditions beyond those each theorem states.
-/
import Derived.Test.YtmgkfibkeonpmaaQ3
namespace Go.Proofs.Ytmgkfibkeonpmaa
open Go.RowKit

set_option maxHeartbeats 1000000 in
/-- Same. -/
theorem dsame_any (x y : Itm) (v : Bool) (hv : sameI x y = v) (n m : Nat) (hn : n = x.l.length) (hm : m = y.l.length) (w : World) (hx : Rd w w.heap.size x.A x.l x.c) (hy : Rd w w.heap.size y.A y.l y.c) :
    Calls Try.prog 12 #[.agg #[.int .i64 x.k, .int .i64 x.a, .int .i64 x.b, .slice x.A n x.c], .agg #[.int .i64 y.k, .int .i64 y.a, .int .i64 y.b, .slice y.A m y.c]] w
      fun e w' => e = .returned (.bool v) ∧ Below w.heap.size w w' := by
  subst hv hn hm
  unfold sameI
  have HB : ∀ o1 o2, Below w.heap.size w ((w.alloc o1).alloc o2) := fun o1 o2 => bAlloc (bAlloc (Below.refl _ _) _) _
  have k1 := fun o1 o2 => conv_str (hx.at_ (HB o1 o2))
  have k2 := fun o1 o2 => conv_str (hy.at_ (HB o1 o2))
  obtain ⟨v1, h1⟩ : ∃ v, (x.k == y.k) = v := ⟨_, rfl⟩
  obtain ⟨v2, h2⟩ : ∃ v, (x.a == y.a) = v := ⟨_, rfl⟩
  obtain ⟨v3, h3⟩ : ∃ v, (x.b == y.b) = v := ⟨_, rfl⟩
  rw [h1, h2, h3]
  clear hx hy
  cases v1 <;> cases v2 <;> cases v3 <;>
  · go_enter Try.func12, Try.ntmps12
    go_wp2
    go_ret
    exact ⟨rfl, HB _ _⟩


theorem mayR_n (k a b : Int) (l : List UInt8) (n : Nat) (hn : n = l.length) : mayR ⟨k, a, b, l⟩ = (if k = 3 then verbB a && (b == 0) && (n == 0) else if k = 5 ∨ k = 6 then (a == 0) && (oct b && decide (n ≤ 512)) else decide (0 ≤ k ∧ k < 9) && (a == 0) && (b == 0) && (n == 0)) := by
  rw [hn]
  rfl


set_option maxRecDepth 100000 in
set_option maxHeartbeats 2000000 in
theorem dmay_3 (a b : Int) (A : Option Addr) (l : List UInt8) (n c : Nat) (w : World) (hn : n = l.length) :
    Calls Try.prog 10 #[.agg #[.int .i64 3, .int .i64 a, .int .i64 b, .slice A n c]] w fun e w' => e = .returned (.bool (mayR ⟨3, a, b, l⟩)) ∧ Below w.heap.size w w' := by
  have B0 : ∀ o, Below w.heap.size w (w.alloc o) := fun o => bAlloc (Below.refl _ _) o
  by_cases c1 : 512 < n
  · have bc1 : decide ((512 : Int) < (n : Int)) = true := by simp; omega
    rw [show mayR ⟨3, a, b, l⟩ = false from by rw [mayR_n 3 a b l n hn, if_pos rfl, Bool.eq_iff_iff]; simp [verbB]; omega]
    clear hn
    go_enter Try.func10, Try.ntmps10
    go_wp2
    go_ret
    exact ⟨rfl, B0 _⟩
  have bc1 : decide ((512 : Int) < (n : Int)) = false := by simp; omega
  by_cases c5 : a < 251
  · have bc5 : decide (a < 251) = true := by simp; omega
    rw [show mayR ⟨3, a, b, l⟩ = false from by rw [mayR_n 3 a b l n hn, if_pos rfl, Bool.eq_iff_iff]; simp [verbB]; omega]
    clear hn
    go_enter Try.func10, Try.ntmps10
    go_wp2
    go_ret
    exact ⟨rfl, B0 _⟩
  have bc5 : decide (a < 251) = false := by simp; omega
  by_cases c6 : 254 < a
  · have bc6 : decide (254 < a) = true := by simp; omega
    rw [show mayR ⟨3, a, b, l⟩ = false from by rw [mayR_n 3 a b l n hn, if_pos rfl, Bool.eq_iff_iff]; simp [verbB]; omega]
    clear hn
    go_enter Try.func10, Try.ntmps10
    go_wp2
    go_ret
    exact ⟨rfl, B0 _⟩
  have bc6 : decide (254 < a) = false := by simp; omega
  by_cases c3 : ¬ b = 0
  · have bc3 : (b == 0) = false := by simp; omega
    rw [show mayR ⟨3, a, b, l⟩ = false from by rw [mayR_n 3 a b l n hn, if_pos rfl, Bool.eq_iff_iff]; simp [verbB]; omega]
    clear hn
    go_enter Try.func10, Try.ntmps10
    go_wp2
    go_ret
    exact ⟨rfl, B0 _⟩
  have bc3 : (b == 0) = true := by simp; omega
  by_cases c4 : ¬ n = 0
  · have bc4 : ((n : Int) == 0) = false := by simp; omega
    rw [show mayR ⟨3, a, b, l⟩ = false from by rw [mayR_n 3 a b l n hn, if_pos rfl, Bool.eq_iff_iff]; simp [verbB]; omega]
    clear hn
    go_enter Try.func10, Try.ntmps10
    go_wp2
    go_ret
    exact ⟨rfl, B0 _⟩
  have bc4 : ((n : Int) == 0) = true := by simp; omega
  rw [show mayR ⟨3, a, b, l⟩ = true from by rw [mayR_n 3 a b l n hn, if_pos rfl, Bool.eq_iff_iff]; simp [verbB]; omega]
  clear hn
  go_enter Try.func10, Try.ntmps10
  go_wp2
  go_ret
  exact ⟨rfl, B0 _⟩

set_option maxRecDepth 100000 in
set_option maxHeartbeats 2000000 in
theorem dmay_5 (a b : Int) (A : Option Addr) (l : List UInt8) (n c : Nat) (w : World) (hn : n = l.length) :
    Calls Try.prog 10 #[.agg #[.int .i64 5, .int .i64 a, .int .i64 b, .slice A n c]] w fun e w' => e = .returned (.bool (mayR ⟨5, a, b, l⟩)) ∧ Below w.heap.size w w' := by
  have B0 : ∀ o, Below w.heap.size w (w.alloc o) := fun o => bAlloc (Below.refl _ _) o
  by_cases c1 : 512 < n
  · have bc1 : decide ((512 : Int) < (n : Int)) = true := by simp; omega
    rw [show mayR ⟨5, a, b, l⟩ = false from by rw [mayR_n 5 a b l n hn, if_neg (by decide), if_pos (by decide), Bool.eq_iff_iff]; simp [oct]; omega]
    clear hn
    go_enter Try.func10, Try.ntmps10
    go_wp2
    go_ret
    exact ⟨rfl, B0 _⟩
  have bc1 : decide ((512 : Int) < (n : Int)) = false := by simp; omega
  by_cases c2 : ¬ a = 0
  · have bc2 : (a != 0) = true := by simp; omega
    rw [show mayR ⟨5, a, b, l⟩ = false from by rw [mayR_n 5 a b l n hn, if_neg (by decide), if_pos (by decide), Bool.eq_iff_iff]; simp [oct]; omega]
    clear hn
    go_enter Try.func10, Try.ntmps10
    go_wp2
    go_ret
    exact ⟨rfl, B0 _⟩
  have bc2 : (a != 0) = false := by simp; omega
  by_cases c5 : b < 0
  · have bc5 : decide (b ≥ 0) = false := by simp; omega
    rw [show mayR ⟨5, a, b, l⟩ = false from by rw [mayR_n 5 a b l n hn, if_neg (by decide), if_pos (by decide), Bool.eq_iff_iff]; simp [oct]; omega]
    clear hn
    go_enter Try.func10, Try.ntmps10
    go_wp2
    go_ret
    exact ⟨rfl, B0 _⟩
  have bc5 : decide (b ≥ 0) = true := by simp; omega
  by_cases c6 : 255 < b
  · have bc6 : decide (b ≤ 255) = false := by simp; omega
    rw [show mayR ⟨5, a, b, l⟩ = false from by rw [mayR_n 5 a b l n hn, if_neg (by decide), if_pos (by decide), Bool.eq_iff_iff]; simp [oct]; omega]
    clear hn
    go_enter Try.func10, Try.ntmps10
    go_wp2
    go_ret
    exact ⟨rfl, B0 _⟩
  have bc6 : decide (b ≤ 255) = true := by simp; omega
  rw [show mayR ⟨5, a, b, l⟩ = true from by rw [mayR_n 5 a b l n hn, if_neg (by decide), if_pos (by decide), Bool.eq_iff_iff]; simp [oct]; omega]
  clear hn
  go_enter Try.func10, Try.ntmps10
  go_wp2
  go_ret
  exact ⟨rfl, B0 _⟩

set_option maxRecDepth 100000 in
set_option maxHeartbeats 2000000 in
theorem dmay_6 (a b : Int) (A : Option Addr) (l : List UInt8) (n c : Nat) (w : World) (hn : n = l.length) :
    Calls Try.prog 10 #[.agg #[.int .i64 6, .int .i64 a, .int .i64 b, .slice A n c]] w fun e w' => e = .returned (.bool (mayR ⟨6, a, b, l⟩)) ∧ Below w.heap.size w w' := by
  have B0 : ∀ o, Below w.heap.size w (w.alloc o) := fun o => bAlloc (Below.refl _ _) o
  by_cases c1 : 512 < n
  · have bc1 : decide ((512 : Int) < (n : Int)) = true := by simp; omega
    rw [show mayR ⟨6, a, b, l⟩ = false from by rw [mayR_n 6 a b l n hn, if_neg (by decide), if_pos (by decide), Bool.eq_iff_iff]; simp [oct]; omega]
    clear hn
    go_enter Try.func10, Try.ntmps10
    go_wp2
    go_ret
    exact ⟨rfl, B0 _⟩
  have bc1 : decide ((512 : Int) < (n : Int)) = false := by simp; omega
  by_cases c2 : ¬ a = 0
  · have bc2 : (a != 0) = true := by simp; omega
    rw [show mayR ⟨6, a, b, l⟩ = false from by rw [mayR_n 6 a b l n hn, if_neg (by decide), if_pos (by decide), Bool.eq_iff_iff]; simp [oct]; omega]
    clear hn
    go_enter Try.func10, Try.ntmps10
    go_wp2
    go_ret
    exact ⟨rfl, B0 _⟩
  have bc2 : (a != 0) = false := by simp; omega
  by_cases c5 : b < 0
  · have bc5 : decide (b ≥ 0) = false := by simp; omega
    rw [show mayR ⟨6, a, b, l⟩ = false from by rw [mayR_n 6 a b l n hn, if_neg (by decide), if_pos (by decide), Bool.eq_iff_iff]; simp [oct]; omega]
    clear hn
    go_enter Try.func10, Try.ntmps10
    go_wp2
    go_ret
    exact ⟨rfl, B0 _⟩
  have bc5 : decide (b ≥ 0) = true := by simp; omega
  by_cases c6 : 255 < b
  · have bc6 : decide (b ≤ 255) = false := by simp; omega
    rw [show mayR ⟨6, a, b, l⟩ = false from by rw [mayR_n 6 a b l n hn, if_neg (by decide), if_pos (by decide), Bool.eq_iff_iff]; simp [oct]; omega]
    clear hn
    go_enter Try.func10, Try.ntmps10
    go_wp2
    go_ret
    exact ⟨rfl, B0 _⟩
  have bc6 : decide (b ≤ 255) = true := by simp; omega
  rw [show mayR ⟨6, a, b, l⟩ = true from by rw [mayR_n 6 a b l n hn, if_neg (by decide), if_pos (by decide), Bool.eq_iff_iff]; simp [oct]; omega]
  clear hn
  go_enter Try.func10, Try.ntmps10
  go_wp2
  go_ret
  exact ⟨rfl, B0 _⟩

set_option maxRecDepth 100000 in
set_option maxHeartbeats 2000000 in
theorem dmay_k (k a b : Int) (A : Option Addr) (l : List UInt8) (n c : Nat) (w : World) (hn : n = l.length) (hk3 : k ≠ 3) (hk56 : ¬ (k = 5 ∨ k = 6)) :
    Calls Try.prog 10 #[.agg #[.int .i64 k, .int .i64 a, .int .i64 b, .slice A n c]] w fun e w' => e = .returned (.bool (mayR ⟨k, a, b, l⟩)) ∧ Below w.heap.size w w' := by
  have B0 : ∀ o, Below w.heap.size w (w.alloc o) := fun o => bAlloc (Below.refl _ _) o
  have g3 : (k == 3) = false := by simpa using hk3
  have g3n : (k != 3) = true := by simpa using hk3
  have g5 : (k == 5) = false := by simp; omega
  have g6 : (k == 6) = false := by simp; omega
  by_cases c7 : k < 0
  · have bc7 : decide (k < 0) = true := by simp; omega
    rw [show mayR ⟨k, a, b, l⟩ = false from by rw [mayR_n k a b l n hn, if_neg hk3, if_neg hk56, Bool.eq_iff_iff]; simp ; omega]
    clear hn hk3 hk56
    go_enter Try.func10, Try.ntmps10
    go_wp2
    go_ret
    exact ⟨rfl, B0 _⟩
  have bc7 : decide (k < 0) = false := by simp; omega
  by_cases c8 : 8 < k
  · have bc8 : decide (8 < k) = true := by simp; omega
    rw [show mayR ⟨k, a, b, l⟩ = false from by rw [mayR_n k a b l n hn, if_neg hk3, if_neg hk56, Bool.eq_iff_iff]; simp ; omega]
    clear hn hk3 hk56
    go_enter Try.func10, Try.ntmps10
    go_wp2
    go_ret
    exact ⟨rfl, B0 _⟩
  have bc8 : decide (8 < k) = false := by simp; omega
  by_cases c1 : 512 < n
  · have bc1 : decide ((512 : Int) < (n : Int)) = true := by simp; omega
    rw [show mayR ⟨k, a, b, l⟩ = false from by rw [mayR_n k a b l n hn, if_neg hk3, if_neg hk56, Bool.eq_iff_iff]; simp ; omega]
    clear hn hk3 hk56
    go_enter Try.func10, Try.ntmps10
    go_wp2
    go_ret
    exact ⟨rfl, B0 _⟩
  have bc1 : decide ((512 : Int) < (n : Int)) = false := by simp; omega
  by_cases c2 : ¬ a = 0
  · have bc2 : (a != 0) = true := by simp; omega
    rw [show mayR ⟨k, a, b, l⟩ = false from by rw [mayR_n k a b l n hn, if_neg hk3, if_neg hk56, Bool.eq_iff_iff]; simp ; omega]
    clear hn hk3 hk56
    go_enter Try.func10, Try.ntmps10
    go_wp2
    go_ret
    exact ⟨rfl, B0 _⟩
  have bc2 : (a != 0) = false := by simp; omega
  by_cases c3 : ¬ b = 0
  · have bc3 : (b == 0) = false := by simp; omega
    rw [show mayR ⟨k, a, b, l⟩ = false from by rw [mayR_n k a b l n hn, if_neg hk3, if_neg hk56, Bool.eq_iff_iff]; simp ; omega]
    clear hn hk3 hk56
    go_enter Try.func10, Try.ntmps10
    go_wp2
    go_ret
    exact ⟨rfl, B0 _⟩
  have bc3 : (b == 0) = true := by simp; omega
  by_cases c4 : ¬ n = 0
  · have bc4 : ((n : Int) == 0) = false := by simp; omega
    rw [show mayR ⟨k, a, b, l⟩ = false from by rw [mayR_n k a b l n hn, if_neg hk3, if_neg hk56, Bool.eq_iff_iff]; simp ; omega]
    clear hn hk3 hk56
    go_enter Try.func10, Try.ntmps10
    go_wp2
    go_ret
    exact ⟨rfl, B0 _⟩
  have bc4 : ((n : Int) == 0) = true := by simp; omega
  rw [show mayR ⟨k, a, b, l⟩ = true from by rw [mayR_n k a b l n hn, if_neg hk3, if_neg hk56, Bool.eq_iff_iff]; simp ; omega]
  clear hn hk3 hk56
  go_enter Try.func10, Try.ntmps10
  go_wp2
  go_ret
  exact ⟨rfl, B0 _⟩

/-- May. -/
theorem dmay_any (k a b : Int) (A : Option Addr) (l : List UInt8) (n c : Nat) (w : World) (hn : n = l.length) :
    Calls Try.prog 10 #[.agg #[.int .i64 k, .int .i64 a, .int .i64 b, .slice A n c]] w fun e w' => e = .returned (.bool (mayR ⟨k, a, b, l⟩)) ∧ Below w.heap.size w w' := by
  by_cases h3 : k = 3
  · subst h3
    exact dmay_3 a b A l n c w hn
  by_cases h56 : k = 5 ∨ k = 6
  · rcases h56 with rfl | rfl
    · exact dmay_5 a b A l n c w hn
    · exact dmay_6 a b A l n c w hn
  exact dmay_k k a b A l n c w hn h3 h56

end Go.Proofs.Ytmgkfibkeonpmaa
