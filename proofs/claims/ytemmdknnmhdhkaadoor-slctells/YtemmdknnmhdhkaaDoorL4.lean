/-
  The law SlcParts. No conditions beyond those each theorem states.
-/
import Derived.Test.YtemmdknnmhdhkaaDoorT9
import Derived.Test.YtemmdknnmhdhkaaDoorT4
namespace Go.Proofs.YtemmdknnmhdhkaaDoor
open Go.RowKit
set_option maxRecDepth 100000

/-- What two lists of octets tell, and both as one. -/
theorem parts_ways (a b : List UInt8) : ∃ (X Y Z : List Tr) (e f g : Int), gotL a = X ∧ gotL b = Y ∧ gotL (a ++ b) = Z ∧ gerr a = e ∧ gerr b = f ∧ gerr (a ++ b) = g ∧ 3 * X.length ≤ a.length ∧ 3 * Y.length ≤ b.length ∧ 3 * Z.length ≤ (a ++ b).length ∧
    ((e = 0 ∧ f = 0 ∧ g = 0 ∧ Z = X ++ Y ∧ a.length % 3 = 0 ∧ b.length % 3 = 0) ∨ (e = 0 ∧ f = 2 ∧ (g = 0 ∨ g = 2) ∧ (a.length % 3 = 0 → b.length % 3 = 0 → g = 2)) ∨ (e = 2 ∧ (f = 0 ∨ f = 2) ∧ (g = 0 ∨ g = 2) ∧ (a.length % 3 = 0 → b.length % 3 = 0 → g = 2))) := by
  have glen : ∀ l : List UInt8, 3 * (gotL l).length ≤ l.length := fun l => by
    cases h : getL l with
    | none => rw [(got_no h).1]; simp
    | some L => rw [(got_yes h).1]; have := get_len h; omega
  have gerr2 : ∀ l : List UInt8, gerr l = 0 ∨ gerr l = 2 := fun l => by
    unfold gerr
    split <;> simp
  refine ⟨_, _, _, _, _, _, rfl, rfl, rfl, rfl, rfl, rfl, glen a, glen b, glen (a ++ b), ?_⟩
  cases ha : getL a with
  | none =>
    refine .inr (.inr ⟨(got_no ha).2, gerr2 b, gerr2 _, fun h1 _ => ?_⟩)
    have := get_append a b h1
    rw [ha] at this
    exact (got_no this).2
  | some X =>
    have h1 : a.length % 3 = 0 := by have := get_len ha; omega
    have hab := get_append a b h1
    rw [ha] at hab
    cases hb : getL b with
    | none =>
      rw [hb] at hab
      exact .inr (.inl ⟨(got_yes ha).2, (got_no hb).2, gerr2 _, fun _ _ => (got_no hab).2⟩)
    | some Y =>
      rw [hb] at hab
      have h2 : b.length % 3 = 0 := by have := get_len hb; omega
      exact .inl ⟨(got_yes ha).2, (got_yes hb).2, (got_yes hab).2, by rw [(got_yes hab).1, (got_yes ha).1, (got_yes hb).1], h1, h2⟩

theorem few_any2 (A : Option Addr) (n c : Nat) (w : World) (hn : n ≤ c) (hc : c ≤ maxLen) (m : Nat) (hm : min n 200 = m) : Calls Tryd.prog 10 #[.slice A n c] w fun e w' => e = .returned (.slice A m c) ∧ w = w' := by
  subst hm
  exact fewB_any A n c w hn hc
theorem few_any3 (A : Option Addr) (n c : Nat) (w : World) (hn : n ≤ c) (hc : c ≤ maxLen) (m : Nat) (hm : min n 60 = m) : Calls Tryd.prog 9 #[.slice A n c] w fun e w' => e = .returned (.slice A m c) ∧ w = w' := by
  subst hm
  exact few_any A n c w hn hc

theorem appT_start {w3 w' : World} (hg : (w3.alloc (.cells #[] 29)).grownBy w' (Value.ownBlock (.slice (some ⟨w3.heap.size, 0, none⟩) 0 0))) : Below w3.heap.size w3 w' := by
  have h1 := ownT_grown (emptyT_own w3 _ (Nat.le_refl _)) hg (by simp)
  exact (bAlloc (Below.refl w3.heap.size w3) _).trans h1

set_option maxHeartbeats 1000000 in
theorem parts_law (A A' : Option Addr) (l l' : List UInt8) (n n' c c' : Nat) (w : World) (hn : n = l.length) (hn' : n' = l'.length) (hr : Rd w w.heap.size A l c) (hr' : Rd w w.heap.size A' l' c') (hL : Laid w) :
    Calls Tryd.prog 5 #[.slice A n c, .slice A' n' c'] w fun e w' => e = .returned (.bool true) ∧ Below w.heap.size w w' := by
  have HL := keepd hL
  have k1 := hr.1
  have k2 := hr.2.1
  have k3 := hr'.1
  have k4 := hr'.2.1
  rw [← hn] at k1
  rw [← hn'] at k3
  obtain ⟨a, ha⟩ : ∃ a, l.take 200 = a := ⟨_, rfl⟩
  obtain ⟨b, hb⟩ : ∃ b, l'.take 200 = b := ⟨_, rfl⟩
  obtain ⟨na, hna⟩ : ∃ na, min n 200 = na := ⟨_, rfl⟩
  obtain ⟨nb, hnb⟩ : ∃ nb, min n' 200 = nb := ⟨_, rfl⟩
  have HRa := keepd (hr.take 200)
  have HRb := keepd (hr'.take 200)
  rw [ha] at HRa
  rw [hb] at HRb
  have hla : na = a.length := by rw [← ha, ← hna, List.length_take, hn]; omega
  have hlb : nb = b.length := by rw [← hb, ← hnb, List.length_take, hn']; omega
  have la : na ≤ 200 := by omega
  have lb : nb ≤ 200 := by omega
  have HF := keepd (few_any2 A n c w k1 k2 na hna)
  have HF' := keepd (few_any2 A' n' c' w k3 k4 nb hnb)
  have HNA := keepd hla
  have HNB := keepd hlb
  clear hr hr' hL ha hb hna hnb k1 k2 k3 k4 hn hn' hla hlb
  obtain ⟨X, Y, Z, e, f, g, h1, h2, h3, h4, h5, h6, h7, h8, h9, hw⟩ := parts_ways a b
  have H1 := keepd h1
  have H2 := keepd h2
  have H3 := keepd h3
  have H4 := keepd h4
  have H5 := keepd h5
  have H6 := keepd h6
  rw [← HNA.out] at h7
  rw [← HNB.out] at h8
  rw [List.length_append, ← HNA.out, ← HNB.out] at h9
  rw [← HNA.out, ← HNB.out] at hw
  clear h1 h2 h3 h4 h5 h6
  go_enter Tryd.func5, Tryd.ntmps5
  go_wp2_with fail
  with_reducible refine HF.out.mono ?_
  rintro e1 w1 ⟨rfl, rfl⟩
  go_wp2_with fail
  with_reducible refine HF'.out.mono ?_
  rintro e1 w1 ⟨rfl, rfl⟩
  obtain ⟨nx, hnx⟩ : ∃ nx, X.length = nx := ⟨_, rfl⟩
  obtain ⟨ny, hny⟩ : ∃ ny, Y.length = ny := ⟨_, rfl⟩
  obtain ⟨nz, hnz⟩ : ∃ nz, Z.length = nz := ⟨_, rfl⟩
  rw [hnx] at h7
  rw [hny] at h8
  rw [hnz] at h9
  have HX := keepd hnx
  have HY := keepd hny
  have HZ := keepd hnz
  clear hnx hny hnz HF HF'
  go_wp2_with fail
  with_reducible refine (get_any A a na c X nx e _ HNA.out (by omega) HRa.out H1.out HX.out H4.out).mono ?_
  rintro e1 w1 ⟨A1, c1, rfl, hx1, hb1⟩
  have HB1 := keepd hb1
  have HX1 := keepd hx1
  have HRa1 := keepd (HRa.out.at_ hb1)
  have HRb1 := keepd (HRb.out.at_ hb1)
  clear hx1 hb1 HRa HRb H1 H4
  go_wp2_with fail
  with_reducible refine (get_any A' b nb c' Y ny f _ HNB.out (by omega) HRb1.out H2.out HY.out H5.out).mono ?_
  rintro e1 w2 ⟨A2, c2, rfl, hx2, hb2⟩
  have HB2 := keepd (bCall HB1.out hb2)
  have HX2 := keepd (HX1.out.at_ hb2)
  have HY2 := keepd hx2
  have HRa2 := keepd (HRa1.out.at_ hb2)
  have HRb2 := keepd (HRb1.out.at_ hb2)
  clear hx2 hb2 HRa1 HRb1 HX1 HB1 H2 H5
  have HLen0 : Hid (([] : List UInt8).length + a.length ≤ 1000000) := by show _ ≤ _; rw [← HNA.out]; simp; omega
  have HLen1 : Hid (a.length + b.length ≤ 1000000) := by show _ ≤ _; rw [← HNA.out, ← HNB.out]; omega
  have HE0 := keepd (empty_own w2 w2.heap.size (Nat.le_refl _))
  go_wp2_with (first
    | (at_builtin; refine wpList_app _ rfl (.tmp 26) (.tmp 27) rfl w2.heap.size _ [] rfl HE0.out w2.heap.size A na c a rfl HNA.out (HRa2.out.below (bAlloc (Below.refl _ _) _) (Nat.le_refl _)) HLen0.out (by simp) ?_; intro va w3 ho3 hg3 _)
    | (at_builtin; refine wpList_app _ rfl (.tmp 28) (.tmp 29) rfl w2.heap.size _ ([] ++ a) rfl ho3 w2.heap.size A' nb c' b rfl HNB.out (HRb2.out.below (app_start0 hg3) (Nat.le_refl _)) HLen1.out (app_start0 hg3).size ?_; intro vb w4 ho4 hg4 _))
  have hb4 : Below w2.heap.size w2 w4 := app_below (app_start0 hg3) ho3 hg4
  rw [List.nil_append] at ho4
  obtain ⟨A4, c4, hv, hr4⟩ := ho4.rd
  have hlab : (a ++ b).length = na + nb := by rw [List.length_append, ← HNA.out, ← HNB.out]
  rw [hlab] at hv
  subst hv
  have HNab := keepd hlab
  have HR4 := keepd hr4
  have HB4 := keepd (bCall HB2.out hb4)
  have HX4 := keepd (HX2.out.at_ hb4)
  have HY4 := keepd (HY2.out.at_ hb4)
  clear ho3 hg3 ho4 hg4 hb4 hr4 hlab HE0 HLen0 HLen1 HRa2 HRb2 HX2 HY2 HB2
  with_reducible refine (get_any A4 (a ++ b) (na + nb) c4 Z nz g _ HNab.out.symm (by omega) HR4.out H3.out HZ.out H6.out).mono ?_
  rintro e1 w5 ⟨A5, c5, rfl, hz5, hb5⟩
  have HB5 := keepd (bCall HB4.out hb5)
  have HX5 := keepd (HX4.out.at_ hb5)
  have HY5 := keepd (HY4.out.at_ hb5)
  have HZ5 := keepd hz5
  have HL5 := keepd (HL.out.below HB5.out)
  clear hz5 hb5 HX4 HY4 HB4 HR4 H3 H6 HL HNab HNA HNB
  have HA : Hid (∀ W, Below w5.heap.size w5 W → Calls Tryd.prog 23 #[] W fun e w' => e = .returned (.bool true) ∧ Below W.heap.size W w') := fun W hW => awake_any W (HL5.out.below hW)
  have tm : ∀ k : Nat, (k : Int).tmod 3 = ((k % 3 : Nat) : Int) := fun k => by rw [Int.tmod_eq_emod_of_nonneg (by omega)]; omega
  rcases hw with ⟨rfl, rfl, rfl, hZ, ha3, hb3⟩ | hw
  · have p1 : (na : Int).tmod 3 = 0 := by rw [tm, ha3]; rfl
    have p2 : ((nb : Int) % 3 == 0) = true := by simp; omega
    have p3 : (na : Int) % 3 = 0 := by omega
    clear tm ha3 hb3
    have HXY : Hid (decide (Z = X ++ Y) = true) := decide_eq_true hZ
    have HlX : Hid (([] : List Tr).length + X.length ≤ 10000) := by show _ ≤ _; rw [HX.out]; simp; omega
    have HlY : Hid (X.length + Y.length ≤ 10000) := by show _ ≤ _; rw [HX.out, HY.out]; omega
    have HE0 := keepd (emptyT_own w5 w5.heap.size (Nat.le_refl _))
    clear hZ
    go_wp2_with (first
      | (at_builtin; refine wpList_appTG _ rfl (.tmp 64) (.tmp 65) rfl w5.heap.size _ [] rfl HE0.out A1 nx c1 X rfl HX.out.symm (HX5.out.at_ (bAlloc (Below.refl _ _) _)) HlX.out (by simp) ?_; intro va w6 ho6 hg6 _)
      | (at_builtin; refine wpList_appTG _ rfl (.tmp 66) (.tmp 67) rfl w5.heap.size _ ([] ++ X) rfl ho6 A2 ny c2 Y rfl HY.out.symm (HY5.out.at_ (appT_start hg6)) HlY.out (appT_start hg6).size ?_; intro vb w7 ho7 hg7 _))
    have hb7 : Below w5.heap.size w5 w7 := appT_below (appT_start hg6) ho6 hg7
    rw [List.nil_append] at ho7
    obtain ⟨A7, c7, rfl, hr7⟩ := ho7.rd
    have HB7 := keepd hb7
    have HS := keepd (same_any A5 A7 Z (X ++ Y) nz (X ++ Y).length c5 c7 true w7 HZ.out.symm rfl (HZ5.out.at_ hb7) hr7 HXY.out)
    clear ho6 hg6 ho7 hg7 hb7 hr7 HE0 HlX HlY
    go_wp2_with (first | (go_at_call 22; with_reducible refine HS.out.mono ?_; rintro e w8 ⟨rfl, hb8⟩; have h8 := bCall HB7.out hb8) | (go_at_call 23; with_reducible refine (HA.out _ h8).mono ?_; rintro e w9 ⟨rfl, hb9⟩))
    go_ret
    exact ⟨rfl, bCall HB5.out (bCall h8 hb9)⟩
  · have hw2 : ((e = 0 ∧ f = 2) ∨ (e = 2 ∧ (f = 0 ∨ f = 2))) ∧ (g = 0 ∨ g = 2) ∧ (na % 3 = 0 → nb % 3 = 0 → g = 2) := by
      rcases hw with ⟨h1, h2, h3, h4⟩ | ⟨h1, h2, h3, h4⟩
      · exact ⟨.inl ⟨h1, h2⟩, h3, h4⟩
      · exact ⟨.inr ⟨h1, h2⟩, h3, h4⟩
    clear hw
    obtain ⟨hef, hg, hgg⟩ := hw2
    have HA5 := keepd (HA.out w5 (Below.refl _ _))
    by_cases ha3 : na % 3 = 0
    · have p1 : (na : Int).tmod 3 = 0 := by rw [tm, ha3]; rfl
      have p3 : (na : Int) % 3 = 0 := by omega
      by_cases hb3 : nb % 3 = 0
      · have hg2 := hgg ha3 hb3
        subst hg2
        have p2 : ((nb : Int) % 3 == 0) = true := by simp; omega
        clear hgg hg tm ha3 hb3
        rcases hef with ⟨rfl, rfl⟩ | ⟨rfl, rfl | rfl⟩
        all_goals
          go_wp2_with (go_at_call 23; with_reducible refine HA5.out.mono ?_; rintro e w9 ⟨rfl, hb9⟩)
          go_ret
          exact ⟨rfl, bCall HB5.out hb9⟩
      · have p2 : ((nb : Int) % 3 == 0) = false := by simp; omega
        clear hgg tm ha3 hb3
        rcases hg with rfl | rfl <;> rcases hef with ⟨rfl, rfl⟩ | ⟨rfl, rfl | rfl⟩
        all_goals
          go_wp2_with (go_at_call 23; with_reducible refine HA5.out.mono ?_; rintro e w9 ⟨rfl, hb9⟩)
          go_ret
          exact ⟨rfl, bCall HB5.out hb9⟩
    · have p1 : (na : Int).tmod 3 ≠ 0 := by rw [tm]; omega
      have p3 : ¬ (na : Int) % 3 = 0 := by omega
      clear hgg tm ha3
      rcases hg with rfl | rfl <;> rcases hef with ⟨rfl, rfl⟩ | ⟨rfl, rfl | rfl⟩
      all_goals
        go_wp2_with (go_at_call 23; with_reducible refine HA5.out.mono ?_; rintro e w9 ⟨rfl, hb9⟩)
        go_ret
        exact ⟨rfl, bCall HB5.out hb9⟩

end Go.Proofs.YtemmdknnmhdhkaaDoor
