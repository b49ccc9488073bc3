/-
  Contracts over layer 2: Few, Octets, follows, width. No conditions beyond those each theorem states.
-/
import Derived.Test.YtagfoidljficoaaDoorWords
namespace Go.Proofs.YtagfoidljficoaaDoor
open Go.RowKit

set_option maxHeartbeats 400000 in
theorem few_any (A : Option Addr) (n c : Nat) (w : World) (hn : n ≤ c) (hc : c ≤ maxLen) :
    Calls Tryd.prog 10 #[.slice A n c] w fun e w' => e = .returned (.slice A (min n 200) c) ∧ w = w' := by
  unfold maxLen at hc
  go_enter Tryd.func10, Tryd.ntmps10
  by_cases h : n ≤ 200
  · go_wp2
    go_ret
    exact ⟨ret_slice (by omega), rfl⟩
  · go_wp2
    go_ret
    exact ⟨ret_slice (by omega), rfl⟩

set_option maxHeartbeats 400000 in
theorem octets_any (A A' : Option Addr) (l l' : List UInt8) (c c' B : Nat) (w : World) (h : Rd w B A l c) (h' : Rd w B A' l' c') :
    Calls Tryd.prog 21 #[.slice A l.length c, .slice A' l'.length c'] w fun e w' => e = .returned (.bool (l == l')) ∧ w = w' := by
  have k1 := conv_str h
  have k2 := conv_str h'
  clear h h'
  go_enter Tryd.func21, Tryd.ntmps21
  go_wp2
  go_ret
  exact ⟨rfl, rfl⟩

theorem u8_eq (a b : UInt8) : ((a.toNat : Int) = (b.toNat : Int)) ↔ a = b := by
  constructor
  · intro h
    exact UInt8.toNat_inj.1 (by omega)
  · rintro rfl; rfl

theorem u8_beq (a b : UInt8) : ((a.toNat : Int) == (b.toNat : Int)) = (a == b) := by
  by_cases h : a = b
  · subst h; simp
  · rw [beq_eq_false_iff_ne.2 h, beq_eq_false_iff_ne.2 (by rw [ne_eq, u8_eq]; exact h)]

set_option maxHeartbeats 400000 in
theorem follows_any (A : Option Addr) (l : List UInt8) (c B : Nat) (u : UInt8) (w : World) (h : Rd w B A l c) :
    Calls Tryd.prog 44 #[.slice A l.length c, .int .u8 (u.toNat : Int)] w fun e w' => e = .returned (.bool (l[1]? == some u)) ∧ w = w' := by
  have hl := h.len
  unfold maxLen at hl
  by_cases h1 : 1 < l.length
  · obtain ⟨b, off, rfl, _, hc⟩ := h.form h1
    rw [List.getElem?_eq_getElem h1]
    clear h
    go_enter Tryd.func44, Tryd.ntmps44
    go_wp2
    go_ret
    exact ⟨by rw [u8_beq]; simp, rfl⟩
  · rw [List.getElem?_eq_none (by omega)]
    clear h
    go_enter Tryd.func44, Tryd.ntmps44
    go_wp2
    go_ret
    exact ⟨rfl, rfl⟩

/-- How many octets are taken where the first of l is read as data. -/
def wid (l : List UInt8) : Nat :=
  if l[0]? = some 255 then (if l[1]? = some 255 then 2 else 0) else if l[0]? = some 13 ∧ (l[1]? = some 10 ∨ l[1]? = some 0) then 2 else 1

theorem follows_k (k : Int) (u : UInt8) (hk : (u.toNat : Int) = k) (A : Option Addr) (l : List UInt8) (n c : Nat) (w : World) (hn : n = l.length) (B : Nat) (h : Rd w B A l c) :
    Calls Tryd.prog 44 #[.slice A n c, .int .u8 k] w fun e w' => e = .returned (.bool (l[1]? == some u)) ∧ w = w' := by
  subst hk hn
  exact follows_any A l c B u w h

theorem wid_two {l : List UInt8} (h0 : l[0]? = some 255) (h : (l[1]? == some 255) = true) : wid l = 2 := by
  unfold wid
  rw [if_pos h0, if_pos (by simpa using h)]
theorem wid_end {l : List UInt8} (h0 : l[0]? = some 255) (h : (l[1]? == some 255) = false) : wid l = 0 := by
  unfold wid
  rw [if_pos h0, if_neg (by simpa using h)]
theorem wid_ten {l : List UInt8} (h0 : l[0]? = some 13) (h : (l[1]? == some 10) = true) : wid l = 2 := by
  unfold wid
  rw [if_neg (by rw [h0]; decide), if_pos ⟨h0, .inl (by simpa using h)⟩]
theorem wid_nul {l : List UInt8} (h0 : l[0]? = some 13) (h : (l[1]? == some 0) = true) : wid l = 2 := by
  unfold wid
  rw [if_neg (by rw [h0]; decide), if_pos ⟨h0, .inr (by simpa using h)⟩]
theorem wid_cr {l : List UInt8} (h0 : l[0]? = some 13) (h : (l[1]? == some 10) = false) (h' : (l[1]? == some 0) = false) : wid l = 1 := by
  unfold wid
  rw [if_neg (by rw [h0]; decide), if_neg (fun hh => by rcases hh.2 with e | e <;> rw [e] at h h' <;> simp at h h')]
theorem wid_other {l : List UInt8} (h0 : l[0]? ≠ some 255) (h1 : l[0]? ≠ some 13) : wid l = 1 := by
  unfold wid
  rw [if_neg h0, if_neg (fun hh => h1 hh.1)]

set_option maxHeartbeats 400000 in
theorem width_any (A : Option Addr) (l : List UInt8) (n c B : Nat) (w : World) (hn : n = l.length) (h : Rd w B A l c) (h0 : l ≠ []) :
    Calls Tryd.prog 35 #[.slice A n c] w fun e w' => e = .returned (.int .i64 (wid l : Int)) ∧ w = w' := by
  subst hn
  have hl := h.len
  unfold maxLen at hl
  have hp : 0 < l.length := List.length_pos_iff.2 h0
  obtain ⟨b, off, rfl, _, hc⟩ := h.form hp
  have HR := keepd h
  have H0 := keepd (List.getElem?_eq_getElem hp)
  have F255 := fun w' n => follows_k 255 255 rfl (some ⟨b, off, none⟩) l n c w'
  have F10 := fun w' n => follows_k 10 10 rfl (some ⟨b, off, none⟩) l n c w'
  have F0 := fun w' n => follows_k 0 0 rfl (some ⟨b, off, none⟩) l n c w'
  rw [Nat.add_zero] at hc
  clear h h0
  by_cases e1 : l[0] = 255
  · have H1 : Hid (l[0]? = some 255) := by show _ = _; rw [H0.out, e1]
    rw [e1] at hc
    clear e1 H0
    generalize hq : (l[1]? == some 255) = q at F255
    have HQ := keepd hq
    clear hq
    cases q with
    | true =>
      go_enter Tryd.func35, Tryd.ntmps35
      go_wp2_with (go_at_call 44; with_reducible refine (F255 _ _ rfl _ HR.out).mono ?_; rintro e w1 ⟨rfl, rfl⟩)
      go_ret
      exact ⟨by rw [wid_two H1.out HQ.out]; rfl, rfl⟩
    | false =>
      go_enter Tryd.func35, Tryd.ntmps35
      go_wp2_with (go_at_call 44; with_reducible refine (F255 _ _ rfl _ HR.out).mono ?_; rintro e w1 ⟨rfl, rfl⟩)
      go_ret
      exact ⟨by rw [wid_end H1.out HQ.out]; rfl, rfl⟩
  · by_cases e2 : l[0] = 13
    · have H1 : Hid (l[0]? = some 13) := by show _ = _; rw [H0.out, e2]
      rw [e2] at hc
      clear e1 e2 H0
      generalize hq : (l[1]? == some 10) = q at F10
      have HQ := keepd hq
      generalize hq' : (l[1]? == some 0) = q' at F0
      have HQ' := keepd hq'
      clear hq hq'
      cases q with
      | true =>
        go_enter Tryd.func35, Tryd.ntmps35
        go_wp2_with (go_at_call 44; first | (with_reducible refine (F10 _ _ rfl _ HR.out).mono ?_; rintro e w1 ⟨rfl, rfl⟩) | (with_reducible refine (F0 _ _ rfl _ HR.out).mono ?_; rintro e w1 ⟨rfl, rfl⟩))
        go_ret
        exact ⟨by rw [wid_ten H1.out HQ.out]; rfl, rfl⟩
      | false =>
        cases q' with
        | true =>
          go_enter Tryd.func35, Tryd.ntmps35
          go_wp2_with (go_at_call 44; first | (with_reducible refine (F10 _ _ rfl _ HR.out).mono ?_; rintro e w1 ⟨rfl, rfl⟩) | (with_reducible refine (F0 _ _ rfl _ HR.out).mono ?_; rintro e w1 ⟨rfl, rfl⟩))
          go_ret
          exact ⟨by rw [wid_nul H1.out HQ'.out]; rfl, rfl⟩
        | false =>
          go_enter Tryd.func35, Tryd.ntmps35
          go_wp2_with (go_at_call 44; first | (with_reducible refine (F10 _ _ rfl _ HR.out).mono ?_; rintro e w1 ⟨rfl, rfl⟩) | (with_reducible refine (F0 _ _ rfl _ HR.out).mono ?_; rintro e w1 ⟨rfl, rfl⟩))
          go_ret
          exact ⟨by rw [wid_cr H1.out HQ.out HQ'.out]; rfl, rfl⟩
    · have H1 : Hid (l[0]? ≠ some 255) := by show _ ≠ _; rw [H0.out]; simpa using e1
      have H2 : Hid (l[0]? ≠ some 13) := by show _ ≠ _; rw [H0.out]; simpa using e2
      have g1 : ¬ (l[0].toNat : Int) = 255 := fun hh => e1 (by rw [← u8_eq, hh]; rfl)
      have g2 : ¬ (l[0].toNat : Int) = 13 := fun hh => e2 (by rw [← u8_eq, hh]; rfl)
      generalize (l[0].toNat : Int) = z at hc g1 g2
      clear e1 e2 H0
      go_enter Tryd.func35, Tryd.ntmps35
      go_wp2
      go_ret
      exact ⟨by rw [wid_other H1.out H2.out]; rfl, rfl⟩

end Go.Proofs.YtagfoidljficoaaDoor
