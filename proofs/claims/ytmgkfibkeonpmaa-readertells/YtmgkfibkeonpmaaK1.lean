/-
  Contracts over the document's answers: which items may be (May), whether two are the same (One, Same). No conditions beyond those each theorem states.
-/
import Derived.Test.YtmgkfibkeonpmaaJ2
namespace Go.Proofs.Ytmgkfibkeonpmaa
open Go.RowKit

theorem dec2 (p q : Prop) [Decidable p] [Decidable q] : decide (p ∧ q) = (decide p && decide q) := by simp

set_option maxRecDepth 100000 in
set_option maxHeartbeats 2000000 in
theorem may_k1 (a b : Int) (A : Option Addr) (n c : Nat) (w : World) :
    Calls Try.prog 49 #[.agg #[.int .i64 1, .int .i64 a, .int .i64 b, .slice A n c]] w fun e w' => e = .returned (.bool (mayN 1 a b n)) ∧ Below w.heap.size w w' := by
  obtain ⟨v0, h0⟩ : ∃ v, decide (a ≥ 0) = v := ⟨_, rfl⟩
  obtain ⟨v1, h1⟩ : ∃ v, decide (a ≤ 255) = v := ⟨_, rfl⟩
  obtain ⟨v2, h2⟩ : ∃ v, (b == 0) = v := ⟨_, rfl⟩
  obtain ⟨v3, h3⟩ : ∃ v, ((n : Int) == 0) = v := ⟨_, rfl⟩
  have hN : mayN 1 a b n = (v0 && v1 && v2 && v3) := by
    rw [← h0, ← h1, ← h2, ← h3, nat_beq0, ← dec2]
    rfl
  rw [hN]
  clear hN
  have B0 : ∀ o, Below w.heap.size w (w.alloc o) := fun o => bAlloc (Below.refl _ _) o
  cases v0
  · (try simp only [Bool.false_and])
    go_enter Try.func49, Try.ntmps49
    go_wp2
    go_ret
    exact ⟨rfl, B0 _⟩
  · (try simp only [Bool.true_and])
    cases v1
    · (try simp only [Bool.false_and])
      go_enter Try.func49, Try.ntmps49
      go_wp2
      go_ret
      exact ⟨rfl, B0 _⟩
    · (try simp only [Bool.true_and])
      cases v2
      · (try simp only [Bool.false_and])
        go_enter Try.func49, Try.ntmps49
        go_wp2
        go_ret
        exact ⟨rfl, B0 _⟩
      · (try simp only [Bool.true_and])
        cases v3
        · (try simp only [Bool.false_and])
          go_enter Try.func49, Try.ntmps49
          go_wp2
          go_ret
          exact ⟨rfl, B0 _⟩
        · (try simp only [Bool.true_and])
          go_enter Try.func49, Try.ntmps49
          go_wp2
          go_ret
          exact ⟨rfl, B0 _⟩

set_option maxRecDepth 100000 in
set_option maxHeartbeats 2000000 in
theorem may_k2 (a b : Int) (A : Option Addr) (n c : Nat) (w : World) :
    Calls Try.prog 49 #[.agg #[.int .i64 2, .int .i64 a, .int .i64 b, .slice A n c]] w fun e w' => e = .returned (.bool (mayN 2 a b n)) ∧ Below w.heap.size w w' := by
  obtain ⟨v0, h0⟩ : ∃ v, decide (a ≥ 236) = v := ⟨_, rfl⟩
  obtain ⟨v1, h1⟩ : ∃ v, decide (a ≤ 249) = v := ⟨_, rfl⟩
  obtain ⟨v2, h2⟩ : ∃ v, (a != 240) = v := ⟨_, rfl⟩
  obtain ⟨v3, h3⟩ : ∃ v, (b == 0) = v := ⟨_, rfl⟩
  obtain ⟨v4, h4⟩ : ∃ v, ((n : Int) == 0) = v := ⟨_, rfl⟩
  have hN : mayN 2 a b n = (v0 && v1 && v2 && v3 && v4) := by
    rw [← h0, ← h1, ← h2, ← h3, ← h4, nat_beq0]
    show (decide (236 ≤ a ∧ a ≤ 249 ∧ a ≠ 240) && b == 0 && n == 0) = _
    rw [dec2, dec2, Bool.and_assoc (decide (236 ≤ a))]
    simp [bne, Bool.and_assoc]
    rfl
  rw [hN]
  clear hN
  have B0 : ∀ o, Below w.heap.size w (w.alloc o) := fun o => bAlloc (Below.refl _ _) o
  cases v0
  · (try simp only [Bool.false_and])
    go_enter Try.func49, Try.ntmps49
    go_wp2
    go_ret
    exact ⟨rfl, B0 _⟩
  · (try simp only [Bool.true_and])
    cases v1
    · (try simp only [Bool.false_and])
      go_enter Try.func49, Try.ntmps49
      go_wp2
      go_ret
      exact ⟨rfl, B0 _⟩
    · (try simp only [Bool.true_and])
      cases v2
      · (try simp only [Bool.false_and])
        go_enter Try.func49, Try.ntmps49
        go_wp2
        go_ret
        exact ⟨rfl, B0 _⟩
      · (try simp only [Bool.true_and])
        cases v3
        · (try simp only [Bool.false_and])
          go_enter Try.func49, Try.ntmps49
          go_wp2
          go_ret
          exact ⟨rfl, B0 _⟩
        · (try simp only [Bool.true_and])
          cases v4
          · (try simp only [Bool.false_and])
            go_enter Try.func49, Try.ntmps49
            go_wp2
            go_ret
            exact ⟨rfl, B0 _⟩
          · (try simp only [Bool.true_and])
            go_enter Try.func49, Try.ntmps49
            go_wp2
            go_ret
            exact ⟨rfl, B0 _⟩

set_option maxRecDepth 100000 in
set_option maxHeartbeats 2000000 in
theorem may_k3 (a b : Int) (A : Option Addr) (n c : Nat) (w : World) :
    Calls Try.prog 49 #[.agg #[.int .i64 3, .int .i64 a, .int .i64 b, .slice A n c]] w fun e w' => e = .returned (.bool (mayN 3 a b n)) ∧ Below w.heap.size w w' := by
  obtain ⟨v0, h0⟩ : ∃ v, decide (a ≥ 251) = v := ⟨_, rfl⟩
  obtain ⟨v1, h1⟩ : ∃ v, decide (a ≤ 254) = v := ⟨_, rfl⟩
  obtain ⟨v2, h2⟩ : ∃ v, decide (b ≥ 0) = v := ⟨_, rfl⟩
  obtain ⟨v3, h3⟩ : ∃ v, decide (b ≤ 255) = v := ⟨_, rfl⟩
  obtain ⟨v4, h4⟩ : ∃ v, ((n : Int) == 0) = v := ⟨_, rfl⟩
  have hN : mayN 3 a b n = (v0 && v1 && v2 && v3 && v4) := by
    rw [← h0, ← h1, ← h2, ← h3, ← h4, nat_beq0]
    show (decide (251 ≤ a ∧ a ≤ 254) && decide (0 ≤ b ∧ b ≤ 255) && n == 0) = _
    rw [dec2, dec2]
    simp [Bool.and_assoc]
  rw [hN]
  clear hN
  have B0 : ∀ o, Below w.heap.size w (w.alloc o) := fun o => bAlloc (Below.refl _ _) o
  cases v0
  · (try simp only [Bool.false_and])
    go_enter Try.func49, Try.ntmps49
    go_wp2
    go_ret
    exact ⟨rfl, B0 _⟩
  · (try simp only [Bool.true_and])
    cases v1
    · (try simp only [Bool.false_and])
      go_enter Try.func49, Try.ntmps49
      go_wp2
      go_ret
      exact ⟨rfl, B0 _⟩
    · (try simp only [Bool.true_and])
      cases v2
      · (try simp only [Bool.false_and])
        go_enter Try.func49, Try.ntmps49
        go_wp2
        go_ret
        exact ⟨rfl, B0 _⟩
      · (try simp only [Bool.true_and])
        cases v3
        · (try simp only [Bool.false_and])
          go_enter Try.func49, Try.ntmps49
          go_wp2
          go_ret
          exact ⟨rfl, B0 _⟩
        · (try simp only [Bool.true_and])
          cases v4
          · (try simp only [Bool.false_and])
            go_enter Try.func49, Try.ntmps49
            go_wp2
            go_ret
            exact ⟨rfl, B0 _⟩
          · (try simp only [Bool.true_and])
            go_enter Try.func49, Try.ntmps49
            go_wp2
            go_ret
            exact ⟨rfl, B0 _⟩

set_option maxRecDepth 100000 in
set_option maxHeartbeats 2000000 in
theorem may_k4 (a b : Int) (A : Option Addr) (n c : Nat) (w : World) :
    Calls Try.prog 49 #[.agg #[.int .i64 4, .int .i64 a, .int .i64 b, .slice A n c]] w fun e w' => e = .returned (.bool (mayN 4 a b n)) ∧ Below w.heap.size w w' := by
  obtain ⟨v0, h0⟩ : ∃ v, decide (a ≥ 0) = v := ⟨_, rfl⟩
  obtain ⟨v1, h1⟩ : ∃ v, decide (a ≤ 255) = v := ⟨_, rfl⟩
  obtain ⟨v2, h2⟩ : ∃ v, (b == 0) = v := ⟨_, rfl⟩
  obtain ⟨v3, h3⟩ : ∃ v, decide ((n : Int) ≤ 512) = v := ⟨_, rfl⟩
  have hN : mayN 4 a b n = (v0 && v1 && v2 && v3) := by
    rw [← h0, ← h1, ← h2, ← h3, show decide ((n : Int) ≤ 512) = decide (n ≤ 512) by rw [decide_eq_decide]; omega, ← dec2]
    rfl
  rw [hN]
  clear hN
  have B0 : ∀ o, Below w.heap.size w (w.alloc o) := fun o => bAlloc (Below.refl _ _) o
  cases v0
  · (try simp only [Bool.false_and])
    go_enter Try.func49, Try.ntmps49
    go_wp2
    go_ret
    exact ⟨rfl, B0 _⟩
  · (try simp only [Bool.true_and])
    cases v1
    · (try simp only [Bool.false_and])
      go_enter Try.func49, Try.ntmps49
      go_wp2
      go_ret
      exact ⟨rfl, B0 _⟩
    · (try simp only [Bool.true_and])
      cases v2
      · (try simp only [Bool.false_and])
        go_enter Try.func49, Try.ntmps49
        go_wp2
        go_ret
        exact ⟨rfl, B0 _⟩
      · (try simp only [Bool.true_and])
        cases v3
        · (try simp only [Bool.false_and])
          go_enter Try.func49, Try.ntmps49
          go_wp2
          go_ret
          exact ⟨rfl, B0 _⟩
        · (try simp only [Bool.true_and])
          go_enter Try.func49, Try.ntmps49
          go_wp2
          go_ret
          exact ⟨rfl, B0 _⟩

set_option maxRecDepth 100000 in
theorem may_any (k a b : Int) (A : Option Addr) (n c : Nat) (w : World) :
    Calls Try.prog 49 #[.agg #[.int .i64 k, .int .i64 a, .int .i64 b, .slice A n c]] w fun e w' => e = .returned (.bool (mayN k a b n)) ∧ Below w.heap.size w w' := by
  by_cases h1 : k = 1
  · subst h1; exact may_k1 a b A n c w
  by_cases h2 : k = 2
  · subst h2; exact may_k2 a b A n c w
  by_cases h3 : k = 3
  · subst h3; exact may_k3 a b A n c w
  by_cases h4 : k = 4
  · subst h4; exact may_k4 a b A n c w
  have hN : mayN k a b n = false := by unfold mayN; rw [if_neg h1, if_neg h2, if_neg h3, if_neg h4]
  rw [hN]
  have g4 : (k == 4) = false := by simpa using h4
  go_enter Try.func49, Try.ntmps49
  go_wp2
  go_ret
  exact ⟨rfl, bAlloc (Below.refl _ _) _⟩

set_option maxHeartbeats 1000000 in
theorem one_any (x y : Itm) (v : Bool) (hv : sameI x y = v) (w : World) (hx : Rd w w.heap.size x.A x.l x.c) (hy : Rd w w.heap.size y.A y.l y.c) :
    Calls Try.prog 23 #[.agg #[.int .i64 x.k, .int .i64 x.a, .int .i64 x.b, .slice x.A x.l.length x.c], .agg #[.int .i64 y.k, .int .i64 y.a, .int .i64 y.b, .slice y.A y.l.length y.c]] w
      fun e w' => e = .returned (.bool v) ∧ Below w.heap.size w w' := by
  subst hv
  unfold sameI
  have HB : ∀ o1 o2, Below w.heap.size w ((w.alloc o1).alloc o2) := fun o1 o2 => bAlloc (bAlloc (Below.refl _ _) _) _
  have c1 := fun o1 o2 => conv_str (hx.at_ (HB o1 o2))
  have c2 := fun o1 o2 => conv_str (hy.at_ (HB o1 o2))
  obtain ⟨v1, h1⟩ : ∃ v, (x.k == y.k) = v := ⟨_, rfl⟩
  obtain ⟨v2, h2⟩ : ∃ v, (x.a == y.a) = v := ⟨_, rfl⟩
  obtain ⟨v3, h3⟩ : ∃ v, (x.b == y.b) = v := ⟨_, rfl⟩
  rw [h1, h2, h3]
  clear hx hy
  cases v1 <;> cases v2 <;> cases v3 <;>
  · go_enter Try.func23, Try.ntmps23
    go_wp2
    go_ret
    exact ⟨rfl, HB _ _⟩

/-- Two items' cells, in every world that has w1's old memory. -/
theorem sOf8 {w1 W : World} {b b' o o' : Nat} {u0 u1 u2 u3 v0 v1 v2 v3 : Value} (k0 : w1.cell? ⟨b, o, none⟩ = some u0) (k1 : w1.cell? ⟨b, o + 1, none⟩ = some u1) (k2 : w1.cell? ⟨b, o + 2, none⟩ = some u2) (k3 : w1.cell? ⟨b, o + 3, none⟩ = some u3)
    (l0 : w1.cell? ⟨b', o', none⟩ = some v0) (l1 : w1.cell? ⟨b', o' + 1, none⟩ = some v1) (l2 : w1.cell? ⟨b', o' + 2, none⟩ = some v2) (l3 : w1.cell? ⟨b', o' + 3, none⟩ = some v3) (hb : b < w1.heap.size) (hb' : b' < w1.heap.size) (h : Below w1.heap.size w1 W) :
    W.cell? ⟨b, o, none⟩ = some u0 ∧ W.cell? ⟨b, o + 1, none⟩ = some u1 ∧ W.cell? ⟨b, o + 2, none⟩ = some u2 ∧ W.cell? ⟨b, o + 3, none⟩ = some u3 ∧
    W.cell? ⟨b', o', none⟩ = some v0 ∧ W.cell? ⟨b', o' + 1, none⟩ = some v1 ∧ W.cell? ⟨b', o' + 2, none⟩ = some v2 ∧ W.cell? ⟨b', o' + 3, none⟩ = some v3 ∧ Below w1.heap.size w1 W :=
  ⟨(h.cell (p := ⟨b, o, none⟩) hb).trans k0, (h.cell (p := ⟨b, o + 1, none⟩) hb).trans k1, (h.cell (p := ⟨b, o + 2, none⟩) hb).trans k2, (h.cell (p := ⟨b, o + 3, none⟩) hb).trans k3,
   (h.cell (p := ⟨b', o', none⟩) hb').trans l0, (h.cell (p := ⟨b', o' + 1, none⟩) hb').trans l1, (h.cell (p := ⟨b', o' + 2, none⟩) hb').trans l2, (h.cell (p := ⟨b', o' + 3, none⟩) hb').trans l3, h⟩

set_option maxHeartbeats 2000000 in
theorem rsame_any (A B : Option Addr) (L M : List Itm) (n m c d : Nat) (w : World) (hn : n = L.length) (hm : m = M.length) (hL : RdI w A L c) (hM : RdI w B M d) :
    Calls Try.prog 15 #[.slice A n c, .slice B m d] w (GotSame w L M) := by
  have HL := keepd hL
  have HM := keepd hM
  have HN := keepd hn
  have HN' := keepd hm
  have c1 := hL.1
  have c2 := hL.2.1
  have c3 := hM.1
  have c4 := hM.2.1
  unfold maxLen at c2 c4
  rw [← hn] at c1
  rw [← hm] at c3
  clear hL hM hn hm
  by_cases hnm : n = m
  · subst hnm
    have g0 : ((n : Int) != (n : Int)) = false := by simp
    go_enter Try.func15, Try.ntmps15
    go_wp2_with fail
    go_loopw [5] (fun vi wr => ∃ k : Nat, k ≤ n ∧ vi = .int .i64 k ∧ Hid (sameL L M = sameL (L.drop k) (M.drop k)) ∧ Hid (Below w.heap.size w wr)) (fun vi _ => n - (intOf vi).toNat)
    case atStart => exact ⟨0, by omega, rfl, rfl, Below.refl _ _⟩
    case round =>
      obtain ⟨k, hk, rfl, HS, HB⟩ := hrel
      by_cases hlt : k < n
      · have hkL : k < L.length := by rw [← HN.out]; exact hlt
        have hkM : k < M.length := by rw [← HN'.out]; exact hlt
        obtain ⟨b, off, hA, hbl, hce⟩ := (HL.out.at_ HB.out).2.2.1 (by rintro rfl; simp at hkL)
        obtain ⟨b', off', hA', hbl', hce'⟩ := (HM.out.at_ HB.out).2.2.1 (by rintro rfl; simp at hkM)
        subst hA hA'
        obtain ⟨e0, e1, e2, e3⟩ := hce k hkL
        obtain ⟨d0, d1, d2, d3⟩ := hce' k hkM
        have HX := keepd ((HL.out.2.2.2 L[k] (List.getElem_mem hkL)).at_ HB.out)
        have HY := keepd ((HM.out.2.2.2 M[k] (List.getElem_mem hkM)).at_ HB.out)
        have HD := keepd (sameL_drop hkL hkM)
        generalize L[k] = X at *
        generalize M[k] = Y at *
        obtain ⟨v, hv⟩ : ∃ v, sameI X Y = v := ⟨_, rfl⟩
        have HC := fun W (hW : Below wr.heap.size wr W) => one_any X Y v hv W (HX.out.at_ hW) (HY.out.at_ hW)
        have HV := keepd hv
        have E0 := keepd e0
        have E1 := keepd e1
        have E2 := keepd e2
        have E3 := keepd e3
        have D0 := keepd d0
        have D1 := keepd d1
        have D2 := keepd d2
        have D3 := keepd d3
        have i0 : (0 : Int) ≤ (k : Int) := by omega
        have i1 : (k : Int) < (n : Int) := by omega
        clear hce hce' hv
        go_wp2_with fail
        go_region_held3 (fun W => W.cell? ⟨b, off + k * 4, none⟩ = some (.int .i64 X.k) ∧ W.cell? ⟨b, off + k * 4 + 1, none⟩ = some (.int .i64 X.a) ∧ W.cell? ⟨b, off + k * 4 + 2, none⟩ = some (.int .i64 X.b) ∧ W.cell? ⟨b, off + k * 4 + 3, none⟩ = some (.slice X.A X.l.length X.c) ∧ W.cell? ⟨b', off' + k * 4, none⟩ = some (.int .i64 Y.k) ∧ W.cell? ⟨b', off' + k * 4 + 1, none⟩ = some (.int .i64 Y.a) ∧ W.cell? ⟨b', off' + k * 4 + 2, none⟩ = some (.int .i64 Y.b) ∧ W.cell? ⟨b', off' + k * 4 + 3, none⟩ = some (.slice Y.A Y.l.length Y.c) ∧ Below wr.heap.size wr W)
          ((refine sOf8 E0.out E1.out E2.out E3.out D0.out D1.out D2.out D3.out hbl hbl' ?_; repeat (first | assumption | exact Below.refl _ _ | with_reducible refine bAlloc ?_ _ | with_reducible refine Below.drew ?_)))
          (first | (go_at_call 23; (with_reducible refine (HC _ ?_).mono ?_); (focus (repeat (first | assumption | exact Below.refl _ _ | with_reducible refine Below.drew ?_))); rintro e w4 ⟨rfl, hb4⟩; have hbb : Below wr.heap.size wr w4 := noDrew hb4))
        have HB4 := keepd (bCall HB.out hbb)
        clear hbb hb4 HC e0 e1 e2 e3 d0 d1 d2 d3
        cases v
        · have HF : Hid (sameL L M = false) := by show _ = _; rw [HS.out, HD.out, HV.out]; rfl
          go_wp2
          go_ret
          exact ⟨by rw [HF.out]; rfl, HB4.out⟩
        · have HF : Hid (sameL L M = sameL (L.drop (k + 1)) (M.drop (k + 1))) := by show _ = _; rw [HS.out, HD.out, HV.out]; rfl
          go_wp2
          go_roundw
          case rel => exact ⟨k + 1, by omega, by go_num, HF, HB4⟩
          case measure => simp [intOf]; omega
      · obtain rfl : k = n := by omega
        have HF : Hid (sameL L M = true) := by
          show _ = _
          rw [HS.out, List.drop_of_length_le (by rw [← HN.out]; omega), List.drop_of_length_le (by rw [← HN'.out]; omega)]
          rfl
        go_wp2
        go_ret
        exact ⟨by rw [HF.out]; rfl, HB.out⟩
  · have g1 : ((n : Int) != (m : Int)) = true := by simp; omega
    have HF : Hid (sameL L M = false) := sameL_len (by rw [← HN.out, ← HN'.out]; exact hnm)
    go_enter Try.func15, Try.ntmps15
    go_wp2
    go_ret
    exact ⟨by rw [HF.out]; rfl, Below.refl _ _⟩

end Go.Proofs.Ytmgkfibkeonpmaa
