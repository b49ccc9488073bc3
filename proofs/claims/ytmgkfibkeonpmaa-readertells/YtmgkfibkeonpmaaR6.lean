/-
  Contracts over layer 4: command, verb, option, sub, subEnd, skip, skipEnd. No conditions beyond those each theorem states.
-/
import Derived.Test.YtmgkfibkeonpmaaR5
namespace Go.Proofs.Ytmgkfibkeonpmaa
open Go.RowKit

theorem WI.call {W : World} {p : Nat} {K : List (Nat × Obj)} {r : Abs} {L : List Itm} {w w' : World} (h : WI W p K r L w) (hb : Below w.heap.size w w') : WI W p K r L w' := by
  obtain ⟨A, c, iv, h⟩ := h
  exact ⟨A, c, iv, h.call hb⟩

theorem may_cmd (n : Int) : mayN 2 n 0 0 = cmdB n := by
  unfold mayN
  rw [if_neg (by decide), if_pos rfl]
  simp

theorem wi_got {W : World} {p : Nat} {K : List (Nat × Obj)} {r : Abs} {L : List Itm} {w : World} (h : WI W p K r L w) : ∃ M : List Itm, M.map Itm.abs = [] ∧ WI W p K r (L ++ M) w := ⟨[], rfl, by rw [List.append_nil]; exact h⟩

set_option maxHeartbeats 2000000 in
theorem command_any {W : World} {p : Nat} {K : List (Nat × Obj)} {r : Abs} {L : List Itm} {w : World} (h : WI W p K r L w) (hL : L.length ≤ 100000) (u : UInt8) (z : Int) (hz : z = (u.toNat : Int)) :
    Calls Try.prog 29 #[.pointer (some ⟨p, 0, none⟩), .int .u8 z] w (GotM W p K (sCmd u).1 L (sCmd u).2) := by
  obtain ⟨z0, z1⟩ := u8_rng u z hz
  have HI := keepd fun w' (hb : Below w.heap.size w w') => h.call hb
  have B0 : ∀ o, Below w.heap.size w (w.alloc o) := fun o => bAlloc (Below.refl _ _) o
  clear h
  unfold sCmd
  by_cases h1 : u = 255
  · rw [if_pos h1]
    obtain rfl := u8_is u 255 z 255 hz rfl h1
    clear hz
    go_enter Try.func29, Try.ntmps29
    go_wp2_with fail
    with_reducible refine (come_lone (HI.out _ (B0 _)) hL 1 255 0 0).mono ?_
    rintro e w3 ⟨rfl, H⟩
    have HH := keepd H
    clear H
    go_wp2
    go_end0
    exact ⟨rfl, HH.out⟩
  rw [if_neg h1]
  have g1 := u8_isnt u 255 z 255 hz rfl h1
  obtain ⟨v, hv⟩ : ∃ v, verbB z = v := ⟨_, rfl⟩
  have HV := keepd (fun w => rverb_any z v hv w)
  rw [← hz, hv]
  clear hv
  cases v
  · rw [if_neg (by decide)]
    by_cases h2 : u = 250
    · rw [if_pos h2]
      obtain rfl := u8_is u 250 z 250 hz rfl h2
      clear hz
      go_enter Try.func29, Try.ntmps29
      go_wp2_with fail
      with_reducible refine (HV.out _).mono ?_
      rintro e w2 ⟨rfl, hb⟩
      have HB := keepd (upA hb)
      clear hb
      go_wp2_with fail
      with_reducible refine (wait_w (HI.out _ HB.out) 4).mono ?_
      rintro e w3 ⟨rfl, H⟩
      have HH := keepd H
      clear H
      go_wp2
      go_end0
      exact ⟨rfl, HH.out⟩
    rw [if_neg h2]
    have g2 := u8_isnt u 250 z 250 hz rfl h2
    obtain ⟨v2, hv2⟩ : ∃ v, cmdB z = v := ⟨_, rfl⟩
    have HC := keepd (fun w => check_any 2 z 0 none 0 0 v2 (by rw [may_cmd]; exact hv2) w)
    rw [hv2]
    clear hv2 hz
    cases v2
    · rw [if_neg (by decide)]
      go_enter Try.func29, Try.ntmps29
      go_wp2_with fail
      with_reducible refine (HV.out _).mono ?_
      rintro e w2 ⟨rfl, hb⟩
      have q := (SR.new 41 w [.int .i64 2, .int .i64 z, .int .i64 0, .slice none 0 0]).call hb (by simp)
      have q0 := q.cell 0
      have q1 := q.cell 1
      have q2 := q.cell 2
      have q3 := q.cell 3
      simp only [List.getElem?_cons_zero, List.getElem?_cons_succ] at q0 q1 q2 q3
      have HB := keepd (upA hb)
      clear hb q
      go_wp2_with fail
      with_reducible refine (HC.out _).mono ?_
      rintro e w3 ⟨rfl, hb⟩
      have HB2 := keepd (bCall HB.out hb)
      clear hb q0 q1 q2 q3
      go_wp2_with fail
      with_reducible refine (wait_w (HI.out _ HB2.out) 0).mono ?_
      rintro e w4 ⟨rfl, H⟩
      have HH := keepd H
      clear H
      go_wp2
      go_end0
      exact ⟨rfl, HH.out⟩
    · rw [if_pos rfl]
      go_enter Try.func29, Try.ntmps29
      go_wp2_with fail
      with_reducible refine (HV.out _).mono ?_
      rintro e w2 ⟨rfl, hb⟩
      have q := (SR.new 41 w [.int .i64 2, .int .i64 z, .int .i64 0, .slice none 0 0]).call hb (by simp)
      have q0 := q.cell 0
      have q1 := q.cell 1
      have q2 := q.cell 2
      have q3 := q.cell 3
      simp only [List.getElem?_cons_zero, List.getElem?_cons_succ] at q0 q1 q2 q3
      have HQ := keepd q
      have HB := keepd (upA hb)
      clear hb q
      go_wp2_with fail
      with_reducible refine (HC.out _).mono ?_
      rintro e w3 ⟨rfl, hb⟩
      have HB2 := keepd (bCall HB.out hb)
      have q := HQ.out.call hb HQ.out.lt
      have q0' := q.cell 0
      have q1' := q.cell 1
      have q2' := q.cell 2
      have q3' := q.cell 3
      simp only [List.getElem?_cons_zero, List.getElem?_cons_succ] at q0' q1' q2' q3'
      clear hb q0 q1 q2 q3 q
      go_wp2_with fail
      with_reducible refine (come_lone (HI.out _ HB2.out) hL 2 z 0 0).mono ?_
      rintro e w4 ⟨rfl, H⟩
      have HH := keepd H
      clear H
      go_wp2
      go_end0
      exact ⟨rfl, HH.out⟩
  · rw [if_pos rfl]
    clear hz
    go_enter Try.func29, Try.ntmps29
    go_wp2_with fail
    with_reducible refine (HV.out _).mono ?_
    rintro e w2 ⟨rfl, hb⟩
    have q := (SR.new 41 w [.int .i64 2, .int .i64 z, .int .i64 0, .slice none 0 0]).call hb (by simp)
    have q1 := q.cell 1
    simp only [List.getElem?_cons_zero, List.getElem?_cons_succ] at q1
    have HB := keepd (upA hb)
    obtain ⟨A, c, iv, hj⟩ := HI.out _ HB.out
    obtain ⟨⟨c0, c1, c2, c3, c4⟩, f0, f1, f2, f3, f4⟩ := hj.sr.facts5
    have HG := keepd (hj.setR 3 z 0)
    clear hb q hj
    go_wp2
    go_end0
    exact ⟨rfl, wi_got ⟨none, 0, iv, HG.out⟩⟩

set_option maxHeartbeats 1000000 in
theorem verb_any {W : World} {p : Nat} {K : List (Nat × Obj)} {r : Abs} {L : List Itm} {w : World} (h : WI W p K r L w) (hL : L.length ≤ 100000) (u : UInt8) (z : Int) (hz : z = (u.toNat : Int)) (hk : r.k = 3) :
    Calls Try.prog 30 #[.pointer (some ⟨p, 0, none⟩), .int .u8 z] w (GotM W p K (step r u).1 L (step r u).2) := by
  obtain ⟨z0, z1⟩ := u8_rng u z hz
  rw [step_3 hk, ← hz]
  clear hz
  have HC := keepd (come_lone h hL 3 r.a z 0)
  obtain ⟨A, c, iv, h⟩ := h
  obtain ⟨⟨c0, c1, c2, c3, c4⟩, _⟩ := h.sr.facts5
  clear h
  go_enter Try.func30, Try.ntmps30
  go_wp2_with fail
  with_reducible refine HC.out.mono ?_
  rintro e w4 ⟨rfl, H⟩
  have HH := keepd H
  clear H
  go_wp2
  go_end0
  exact ⟨rfl, HH.out⟩

set_option maxHeartbeats 1000000 in
theorem option_any {W : World} {p : Nat} {K : List (Nat × Obj)} {r : Abs} {L : List Itm} {w : World} (h : WI W p K r L w) (u : UInt8) (z : Int) (hz : z = (u.toNat : Int)) (hk : r.k = 4) :
    Calls Try.prog 31 #[.pointer (some ⟨p, 0, none⟩), .int .u8 z] w (GotM W p K (step r u).1 L (step r u).2) := by
  obtain ⟨z0, z1⟩ := u8_rng u z hz
  rw [step_4 hk, ← hz]
  clear hz
  obtain ⟨A, c, iv, h⟩ := h
  obtain ⟨⟨c0, c1, c2, c3, c4⟩, f0, f1, f2, f3, f4⟩ := h.sr.facts5
  have HG := keepd (h.setR 5 0 z)
  clear h
  go_enter Try.func31, Try.ntmps31
  go_wp2
  go_end0
  exact ⟨rfl, wi_got ⟨none, 0, iv, HG.out⟩⟩

set_option maxHeartbeats 1000000 in
theorem sub_any {W : World} {p : Nat} {K : List (Nat × Obj)} {r : Abs} {L : List Itm} {w : World} (h : WI W p K r L w) (hl : r.l.length ≤ 512) (u : UInt8) (z : Int) (hz : z = (u.toNat : Int)) (hk : r.k = 5) :
    Calls Try.prog 32 #[.pointer (some ⟨p, 0, none⟩), .int .u8 z] w (GotM W p K (step r u).1 L (step r u).2) := by
  rw [step_5 hk]
  have HC := keepd (keep_any h hl u z hz)
  by_cases h1 : u = 255
  · rw [if_pos h1]
    obtain rfl := u8_is u 255 z 255 hz rfl h1
    clear hz HC
    obtain ⟨A, c, iv, h⟩ := h
    obtain ⟨⟨c0, c1, c2, c3, c4⟩, f0, f1, f2, f3, f4⟩ := h.sr.facts5
    have HG := keepd (h.setIn 6)
    clear h
    go_enter Try.func32, Try.ntmps32
    go_wp2
    go_end0
    exact ⟨rfl, wi_got ⟨A, c, iv, HG.out⟩⟩
  rw [if_neg h1]
  have g1 := u8_isnt u 255 z 255 hz rfl h1
  clear hz h
  go_enter Try.func32, Try.ntmps32
  go_wp2_with fail
  with_reducible refine HC.out.mono ?_
  rintro e w4 ⟨rfl, H⟩
  have HH := keepd H
  clear H
  go_wp2
  go_end0
  exact ⟨rfl, HH.out⟩

theorem told_far {W : World} {p : Nat} {K : List (Nat × Obj)} {r : Abs} {L : List Itm} {w : World} {A : Option Addr} {c : Nat} {iv : Value} (h : WJ W p K r L w A c iv) :
    ∀ ad, A = some ad → ad.block < w.heap.size ∧ ad.block ≠ p ∧ iv.ownBlock ≠ some ad.block := by
  intro ad had
  subst had
  exact ⟨(h.own.ge ad.block rfl).2, fun e => h.lp (by rw [← e]; rfl), fun e => h.li _ e rfl⟩

set_option maxHeartbeats 1000000 in
theorem subEnd_any {W : World} {p : Nat} {K : List (Nat × Obj)} {r : Abs} {L : List Itm} {w : World} (h : WI W p K r L w) (hL : L.length ≤ 100000) (hl : r.l.length ≤ 512) (u : UInt8) (z : Int) (hz : z = (u.toNat : Int)) (hk : r.k = 6) :
    Calls Try.prog 33 #[.pointer (some ⟨p, 0, none⟩), .int .u8 z] w (GotM W p K (step r u).1 L (step r u).2) := by
  rw [step_6 hk]
  have HC := keepd (keep_any h hl u z hz)
  have HD := keepd (command_any h hL u z hz)
  by_cases h1 : u = 255
  · rw [if_pos h1]
    obtain rfl := u8_is u 255 z 255 hz rfl h1
    clear hz h HD
    go_enter Try.func33, Try.ntmps33
    go_wp2_with fail
    with_reducible refine HC.out.mono ?_
    rintro e w4 ⟨rfl, H⟩
    have HH := keepd H
    clear H
    go_wp2
    go_end0
    exact ⟨rfl, HH.out⟩
  rw [if_neg h1]
  have g1 := u8_isnt u 255 z 255 hz rfl h1
  by_cases h2 : u = 240
  · rw [if_pos h2]
    obtain rfl := u8_is u 240 z 240 hz rfl h2
    clear hz HC HD
    obtain ⟨A, c, iv, h⟩ := h
    obtain ⟨⟨c0, c1, c2, c3, c4⟩, f0, f1, f2, f3, f4⟩ := h.sr.facts5
    have HJ := keepd h
    have HR := keepd (h.own.rdOf)
    clear h
    go_enter Try.func33, Try.ntmps33
    go_wp2_with fail
    with_reducible refine (told_any _ _ _ _ _ _ _).mono ?_
    rintro e w4 ⟨rfl, hb⟩
    have HJ2 := keepd (HJ.out.call hb)
    have HR2 := keepd (HR.out.at_ hb)
    clear hb
    go_wp2_with fail
    with_reducible refine (come_any HJ2.out hL ⟨4, r.b, 0, A, r.l, c⟩ _ rfl HR2.out (told_far HJ2.out) 0).mono ?_
    rintro e w5 ⟨rfl, H⟩
    have HH := keepd H
    clear H
    go_wp2
    go_end0
    exact ⟨rfl, HH.out⟩
  rw [if_neg h2]
  have g2 := u8_isnt u 240 z 240 hz rfl h2
  clear hz h HC
  go_enter Try.func33, Try.ntmps33
  go_wp2_with fail
  with_reducible refine HD.out.mono ?_
  rintro e w4 ⟨rfl, H⟩
  have HH := keepd H
  clear H
  go_wp2
  go_end0
  exact ⟨rfl, HH.out⟩

set_option maxHeartbeats 1000000 in
theorem skip_any {W : World} {p : Nat} {K : List (Nat × Obj)} {r : Abs} {L : List Itm} {w : World} (h : WI W p K r L w) (u : UInt8) (z : Int) (hz : z = (u.toNat : Int)) (hk : r.k = 7) :
    Calls Try.prog 34 #[.pointer (some ⟨p, 0, none⟩), .int .u8 z] w (GotM W p K (step r u).1 L (step r u).2) := by
  rw [step_7 hk]
  have HW := keepd (wait_w h 8)
  by_cases h1 : u = 255
  · rw [if_pos h1]
    obtain rfl := u8_is u 255 z 255 hz rfl h1
    clear hz h
    go_enter Try.func34, Try.ntmps34
    go_wp2_with fail
    with_reducible refine HW.out.mono ?_
    rintro e w4 ⟨rfl, H⟩
    have HH := keepd H
    clear H
    go_wp2
    go_end0
    exact ⟨rfl, HH.out⟩
  rw [if_neg h1]
  have g1 := u8_isnt u 255 z 255 hz rfl h1
  have HG := keepd h
  clear hz h HW
  go_enter Try.func34, Try.ntmps34
  go_wp2
  go_end0
  exact ⟨rfl, wi_got HG.out⟩

set_option maxHeartbeats 1000000 in
theorem skipEnd_any {W : World} {p : Nat} {K : List (Nat × Obj)} {r : Abs} {L : List Itm} {w : World} (h : WI W p K r L w) (hL : L.length ≤ 100000) (u : UInt8) (z : Int) (hz : z = (u.toNat : Int)) (hk : r.k = 8) :
    Calls Try.prog 35 #[.pointer (some ⟨p, 0, none⟩), .int .u8 z] w (GotM W p K (step r u).1 L (step r u).2) := by
  rw [step_8 hk]
  have HD := keepd (command_any h hL u z hz)
  have HW := keepd (wait_w h 7)
  have HW0 := keepd (wait_w h 0)
  clear h
  by_cases h1 : u = 255
  · rw [if_pos h1]
    obtain rfl := u8_is u 255 z 255 hz rfl h1
    clear hz HD HW0
    go_enter Try.func35, Try.ntmps35
    go_wp2_with fail
    with_reducible refine HW.out.mono ?_
    rintro e w4 ⟨rfl, H⟩
    have HH := keepd H
    clear H
    go_wp2
    go_end0
    exact ⟨rfl, HH.out⟩
  rw [if_neg h1]
  have g1 := u8_isnt u 255 z 255 hz rfl h1
  by_cases h2 : u = 240
  · rw [if_pos h2]
    obtain rfl := u8_is u 240 z 240 hz rfl h2
    clear hz HD HW
    go_enter Try.func35, Try.ntmps35
    go_wp2_with fail
    with_reducible refine HW0.out.mono ?_
    rintro e w4 ⟨rfl, H⟩
    have HH := keepd H
    clear H
    go_wp2
    go_end0
    exact ⟨rfl, HH.out⟩
  rw [if_neg h2]
  have g2 := u8_isnt u 240 z 240 hz rfl h2
  clear hz HW HW0
  go_enter Try.func35, Try.ntmps35
  go_wp2_with fail
  with_reducible refine HD.out.mono ?_
  rintro e w4 ⟨rfl, H⟩
  have HH := keepd H
  clear H
  go_wp2
  go_end0
  exact ⟨rfl, HH.out⟩

end Go.Proofs.Ytmgkfibkeonpmaa
