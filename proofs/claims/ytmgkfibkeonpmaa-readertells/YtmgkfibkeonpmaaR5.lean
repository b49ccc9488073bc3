/-
  Contracts over layer 4: what is done with an octet, by where the reader waits. No conditions beyond those each theorem states.
-/
import Derived.Test.YtmgkfibkeonpmaaR4
namespace Go.Proofs.Ytmgkfibkeonpmaa
open Go.RowKit

theorem u8_is (u n : UInt8) (z m : Int) (hz : z = (u.toNat : Int)) (hm : (n.toNat : Int) = m) (h : u = n) : z = m := by rw [hz, h, hm]
theorem u8_isnt (u n : UInt8) (z m : Int) (hz : z = (u.toNat : Int)) (hm : (n.toNat : Int) = m) (h : u ≠ n) : (z == m) = false := by
  rw [hz, ← hm, u8_beq]
  simpa using h

theorem u8_rng (u : UInt8) (z : Int) (hz : z = (u.toNat : Int)) : 0 ≤ z ∧ z ≤ 255 := by
  have := u.toNat_lt
  omega

/-- An item without octets. -/
def lone (k a b : Int) : Itm := ⟨k, a, b, none, [], 0⟩

theorem come_lone {W : World} {p : Nat} {K : List (Nat × Obj)} {r : Abs} {L : List Itm} {w : World} (h : WI W p K r L w) (hL : L.length ≤ 100000) (k a b i : Int) :
    Calls Try.prog 46 #[.pointer (some ⟨p, 0, none⟩), .agg #[.int .i64 k, .int .i64 a, .int .i64 b, .slice none 0 0], .int .i64 i] w (GotM W p K (inn i) L [⟨k, a, b, []⟩]) := by
  obtain ⟨A, c, iv, h⟩ := h
  exact come_any h hL (lone k a b) 0 rfl (Rd.nil _ _) (fun ad had => by cases had) i

theorem wait_w {W : World} {p : Nat} {K : List (Nat × Obj)} {r : Abs} {L : List Itm} {w : World} (h : WI W p K r L w) (i : Int) :
    Calls Try.prog 45 #[.pointer (some ⟨p, 0, none⟩), .int .i64 i] w (GotM W p K (inn i) L []) := by
  obtain ⟨A, c, iv, h⟩ := h
  refine (wait_any i p _ _ _ _ _ _ h.sr).mono ?_
  rintro e w' ⟨rfl, rfl⟩
  exact ⟨rfl, [], rfl, none, 0, iv, by rw [List.append_nil]; exact h.setR i 0 0⟩

set_option maxHeartbeats 1000000 in
theorem data_any {W : World} {p : Nat} {K : List (Nat × Obj)} {r : Abs} {L : List Itm} {w : World} (h : WI W p K r L w) (hL : L.length ≤ 100000) (u : UInt8) (z : Int) (hz : z = (u.toNat : Int)) :
    Calls Try.prog 27 #[.pointer (some ⟨p, 0, none⟩), .int .u8 z] w (GotM W p K (sData u).1 L (sData u).2) := by
  obtain ⟨z0, z1⟩ := u8_rng u z hz
  have HW := keepd (wait_w h 2)
  have HC1 := keepd (come_lone h hL 1 13 0 1)
  have HC2 := keepd (come_lone h hL 1 z 0 0)
  clear h
  unfold sData
  by_cases h1 : u = 255
  · rw [if_pos h1]
    obtain rfl := u8_is u 255 z 255 hz rfl h1
    clear hz HC1 HC2
    go_enter Try.func27, Try.ntmps27
    go_wp2_with fail
    with_reducible refine HW.out.mono ?_
    rintro e w3 ⟨rfl, H⟩
    have HH := keepd H
    clear H
    go_wp2
    go_end0
    exact ⟨rfl, HH.out⟩
  rw [if_neg h1]
  have g1 := u8_isnt u 255 z 255 hz rfl h1
  by_cases h2 : u = 13
  · rw [if_pos h2]
    obtain rfl := u8_is u 13 z 13 hz rfl h2
    clear hz HW HC2
    go_enter Try.func27, Try.ntmps27
    go_wp2_with fail
    with_reducible refine HC1.out.mono ?_
    rintro e w3 ⟨rfl, H⟩
    have HH := keepd H
    clear H
    go_wp2
    go_end0
    exact ⟨rfl, HH.out⟩
  rw [if_neg h2]
  have g2 := u8_isnt u 13 z 13 hz rfl h2
  have HZ : Hid (dat u = ⟨1, z, 0, []⟩) := by show _ = _; unfold dat; rw [hz]
  clear hz HW HC1
  go_enter Try.func27, Try.ntmps27
  go_wp2_with fail
  with_reducible refine HC2.out.mono ?_
  rintro e w3 ⟨rfl, H⟩
  have HH := keepd H
  clear H
  go_wp2
  go_end0
  exact ⟨rfl, by rw [HZ.out]; exact HH.out⟩

set_option maxHeartbeats 1000000 in
theorem return_any {W : World} {p : Nat} {K : List (Nat × Obj)} {r : Abs} {L : List Itm} {w : World} (h : WI W p K r L w) (hL : L.length ≤ 100000) (u : UInt8) (z : Int) (hz : z = (u.toNat : Int)) (hk : r.k = 1) :
    Calls Try.prog 28 #[.pointer (some ⟨p, 0, none⟩), .int .u8 z] w (GotM W p K (step r u).1 L (step r u).2) := by
  have HW := keepd (wait_w h 0)
  have HD := keepd (data_any h hL u z hz)
  clear h
  rw [step_1 hk]
  by_cases h1 : u = 10
  · rw [if_pos (.inl h1)]
    obtain rfl := u8_is u 10 z 10 hz rfl h1
    clear hz HD
    go_enter Try.func28, Try.ntmps28
    go_wp2_with fail
    with_reducible refine HW.out.mono ?_
    rintro e w3 ⟨rfl, H⟩
    have HH := keepd H
    clear H
    go_wp2
    go_end0
    exact ⟨rfl, HH.out⟩
  have g1 := u8_isnt u 10 z 10 hz rfl h1
  by_cases h2 : u = 0
  · rw [if_pos (.inr h2)]
    obtain rfl := u8_is u 0 z 0 hz rfl h2
    clear hz HD
    go_enter Try.func28, Try.ntmps28
    go_wp2_with fail
    with_reducible refine HW.out.mono ?_
    rintro e w3 ⟨rfl, H⟩
    have HH := keepd H
    clear H
    go_wp2
    go_end0
    exact ⟨rfl, HH.out⟩
  rw [if_neg (by simp [h1, h2])]
  have g2 := u8_isnt u 0 z 0 hz rfl h2
  clear hz HW
  go_enter Try.func28, Try.ntmps28
  go_wp2_with fail
  with_reducible refine HD.out.mono ?_
  rintro e w3 ⟨rfl, H⟩
  have HH := keepd H
  clear H
  go_wp2
  go_end0
  exact ⟨rfl, HH.out⟩

end Go.Proofs.Ytmgkfibkeonpmaa
