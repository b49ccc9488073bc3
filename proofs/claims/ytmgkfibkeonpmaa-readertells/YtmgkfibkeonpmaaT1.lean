/-
  Contracts over layer 2: Few, Octets, follows, width. No conditions beyond those each theorem states.
-/
import Derived.Test.YtmgkfibkeonpmaaWords
namespace Go.Proofs.Ytmgkfibkeonpmaa
open Go.RowKit

set_option maxHeartbeats 400000 in
theorem few_any (A : Option Addr) (n c : Nat) (w : World) (hn : n ≤ c) (hc : c ≤ maxLen) :
    Calls Try.prog 7 #[.slice A n c] w fun e w' => e = .returned (.slice A (min n 200) c) ∧ w = w' := by
  unfold maxLen at hc
  go_enter Try.func7, Try.ntmps7
  by_cases h : n ≤ 200
  · go_wp2
    go_ret
    exact ⟨ret_slice (by omega), rfl⟩
  · go_wp2
    go_ret
    exact ⟨ret_slice (by omega), rfl⟩

theorem u8_eq (a b : UInt8) : ((a.toNat : Int) = (b.toNat : Int)) ↔ a = b := by
  constructor
  · intro h
    exact UInt8.toNat_inj.1 (by omega)
  · rintro rfl; rfl

theorem u8_beq (a b : UInt8) : ((a.toNat : Int) == (b.toNat : Int)) = (a == b) := by
  by_cases h : a = b
  · subst h; simp
  · rw [beq_eq_false_iff_ne.2 h, beq_eq_false_iff_ne.2 (by rw [ne_eq, u8_eq]; exact h)]

/-- How many octets are taken where the first of l is read as data. -/
def wid (l : List UInt8) : Nat :=
  if l[0]? = some 255 then (if l[1]? = some 255 then 2 else 0) else if l[0]? = some 13 ∧ (l[1]? = some 10 ∨ l[1]? = some 0) then 2 else 1

theorem wid_two {l : List UInt8} (h0 : l[0]? = some 255) (h : (l[1]? == some 255) = true) : wid l = 2 := by
  unfold wid
  rw [if_pos h0, if_pos (by simpa using h)]
theorem wid_end {l : List UInt8} (h0 : l[0]? = some 255) (h : (l[1]? == some 255) = false) : wid l = 0 := by
  unfold wid
  rw [if_pos h0, if_neg (by simpa using h)]
theorem wid_ten {l : List UInt8} (h0 : l[0]? = some 13) (h : (l[1]? == some 10) = true) : wid l = 2 := by
  unfold wid
  rw [if_neg (by rw [h0]; decide), if_pos ⟨h0, .inl (by simpa using h)⟩]
theorem wid_nul {l : List UInt8} (h0 : l[0]? = some 13) (h : (l[1]? == some 0) = true) : wid l = 2 := by
  unfold wid
  rw [if_neg (by rw [h0]; decide), if_pos ⟨h0, .inr (by simpa using h)⟩]
theorem wid_cr {l : List UInt8} (h0 : l[0]? = some 13) (h : (l[1]? == some 10) = false) (h' : (l[1]? == some 0) = false) : wid l = 1 := by
  unfold wid
  rw [if_neg (by rw [h0]; decide), if_neg (fun hh => by rcases hh.2 with e | e <;> rw [e] at h h' <;> simp at h h')]
theorem wid_other {l : List UInt8} (h0 : l[0]? ≠ some 255) (h1 : l[0]? ≠ some 13) : wid l = 1 := by
  unfold wid
  rw [if_neg h0, if_neg (fun hh => h1 hh.1)]

end Go.Proofs.Ytmgkfibkeonpmaa
