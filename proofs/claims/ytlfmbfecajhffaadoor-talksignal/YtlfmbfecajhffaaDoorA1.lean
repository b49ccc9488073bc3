/-
  Several texts in one: P1 T1 T4 T5 T6 T2 T3 T7 T8 T9. No conditions beyond those each theorem states.
-/
import Derived.Test.YtlfmbfecajhffaaDoorWords
import Derived.Lib.AppendZeros
import Derived.MapKept
/-
  Lines as lists: words, what a function does, what a key does. No walks.
-/
namespace Go.Proofs.YtlfmbfecajhffaaDoor
open Go.RowKit
set_option maxRecDepth 100000

/-- Is it a blank? -/
def isB (c : UInt8) : Bool := c == 32 || c == 9
/-- Back while p holds of what stands ahead. -/
def bk (p : UInt8 → Bool) (l : List UInt8) : Nat → Nat
  | 0 => 0
  | t + 1 => if p (l.getD t 0) then bk p l t else t + 1
/-- On while p holds. -/
def fw (p : UInt8 → Bool) (l : List UInt8) (t : Nat) : Nat := t + ((l.drop t).takeWhile p).length
def notB (c : UInt8) : Bool := !isB c
/-- A word back, a word on. -/
def backL (l : List UInt8) (t : Nat) : Nat := bk notB l (bk isB l t)
def onL (l : List UInt8) (t : Nat) : Nat := fw isB l (fw notB l t)

theorem getD_at {l : List UInt8} {k : Nat} (h : k < l.length) : l.getD k 0 = l[k] := by simp [List.getD_eq_getElem?_getD, h]

theorem bk_le (p : UInt8 → Bool) (l : List UInt8) : ∀ t, bk p l t ≤ t
  | 0 => Nat.le_refl _
  | t + 1 => by
    unfold bk
    split
    · exact Nat.le_succ_of_le (bk_le p l t)
    · exact Nat.le_refl _
theorem bk_go {p : UInt8 → Bool} {l : List UInt8} {t : Nat} (h : t < l.length) (hp : p l[t] = true) : bk p l (t + 1) = bk p l t := by
  rw [bk, getD_at h, if_pos hp]
theorem bk_stop {p : UInt8 → Bool} {l : List UInt8} {t : Nat} (h : t < l.length) (hp : p l[t] = false) : bk p l (t + 1) = t + 1 := by
  rw [bk, getD_at h, if_neg (by rw [hp]; decide)]
/-- Where it stopped: at the beginning, or behind what p does not hold of; and if it went at all p holds there. -/
theorem bk_spec (p : UInt8 → Bool) (l : List UInt8) : ∀ t, (bk p l t = 0 ∨ p (l.getD (bk p l t - 1) 0) = false) ∧ (bk p l t = t ∨ p (l.getD (bk p l t) 0) = true)
  | 0 => ⟨.inl rfl, .inl rfl⟩
  | t + 1 => by
    unfold bk
    split
    · rename_i h
      obtain ⟨h1, h2⟩ := bk_spec p l t
      refine ⟨h1, .inr ?_⟩
      rcases h2 with h2 | h2
      · rw [h2]; exact h
      · exact h2
    · rename_i h
      exact ⟨.inr (by simpa using h), .inl rfl⟩

theorem fw_ge (p : UInt8 → Bool) (l : List UInt8) (t : Nat) : t ≤ fw p l t := Nat.le_add_right _ _
theorem fw_le (p : UInt8 → Bool) (l : List UInt8) {t : Nat} (h : t ≤ l.length) : fw p l t ≤ l.length := by
  unfold fw
  have := (List.takeWhile_prefix p (l := l.drop t)).length_le
  rw [List.length_drop] at this
  omega
theorem fw_end (p : UInt8 → Bool) (l : List UInt8) : fw p l l.length = l.length := by simp [fw]
theorem fw_go {p : UInt8 → Bool} {l : List UInt8} {t : Nat} (h : t < l.length) (hp : p l[t] = true) : fw p l (t + 1) = fw p l t := by
  unfold fw
  rw [List.drop_eq_getElem_cons h, List.takeWhile_cons, if_pos hp, List.length_cons]
  omega
theorem fw_stop {p : UInt8 → Bool} {l : List UInt8} {t : Nat} (h : t < l.length) (hp : p l[t] = false) : fw p l t = t := by
  unfold fw
  rw [List.drop_eq_getElem_cons h, List.takeWhile_cons, if_neg (by rw [hp]; decide)]
  rfl
theorem fw_spec (p : UInt8 → Bool) (l : List UInt8) : ∀ d t, l.length - t = d → t ≤ l.length → (fw p l t = l.length ∨ p (l.getD (fw p l t) 0) = false) ∧ (fw p l t = t ∨ p (l.getD (fw p l t - 1) 0) = true)
  | 0, t, hd, ht => by
    obtain rfl : t = l.length := by omega
    rw [fw_end]
    exact ⟨.inl rfl, .inl rfl⟩
  | d + 1, t, hd, ht => by
    have h : t < l.length := by omega
    cases hp : p l[t]
    · rw [fw_stop h hp]
      exact ⟨.inr (by rw [getD_at h]; exact hp), .inl rfl⟩
    · obtain ⟨h1, h2⟩ := fw_spec p l d (t + 1) (by omega) (by omega)
      rw [fw_go h hp] at h1 h2
      refine ⟨h1, .inr ?_⟩
      rcases h2 with h2 | h2
      · rw [h2, Nat.add_sub_cancel, getD_at h]; exact hp
      · exact h2

theorem back_le (l : List UInt8) (t : Nat) : backL l t ≤ t := Nat.le_trans (bk_le _ _ _) (bk_le _ _ _)
theorem on_ge (l : List UInt8) (t : Nat) : t ≤ onL l t := Nat.le_trans (fw_ge _ _ _) (fw_ge _ _ _)
theorem on_le (l : List UInt8) {t : Nat} (h : t ≤ l.length) : onL l t ≤ l.length := fw_le _ _ (fw_le _ _ h)
theorem notB_t {c : UInt8} (h : notB c = true) : isB c = false := by simpa [notB] using h
theorem notB_f {c : UInt8} (h : notB c = false) : isB c = true := by simpa [notB] using h
/-- A word back begins the line, or stands behind a blank; and is no blank, where one went. -/
theorem back_spec (l : List UInt8) (t : Nat) : (backL l t = 0 ∨ isB (l.getD (backL l t - 1) 0) = true) ∧ (t = 0 ∨ (backL l t < t ∧ (backL l t = 0 ∨ isB (l.getD (backL l t) 0) = false))) := by
  obtain ⟨a1, a2⟩ := bk_spec isB l t
  obtain ⟨b1, b2⟩ := bk_spec notB l (bk isB l t)
  have l1 := bk_le isB l t
  have l2 := bk_le notB l (bk isB l t)
  refine ⟨b1.imp id notB_f, ?_⟩
  rcases Nat.eq_zero_or_pos t with h0 | h0
  · exact .inl h0
  · refine .inr ?_
    show bk notB l (bk isB l t) < t ∧ _
    rcases b2 with b2 | b2
    · rcases b1 with b1 | b1
      · exact ⟨by omega, .inl b1⟩
      · rcases a1 with a1 | a1
        · exact ⟨by omega, .inl (by unfold backL; omega)⟩
        · rw [b2] at b1
          rw [notB_f b1] at a1
          cases a1
    · refine ⟨?_, .inr (notB_t b2)⟩
      rcases Nat.lt_or_ge (bk notB l (bk isB l t)) t with h | h
      · exact h
      · exfalso
        have e1 : bk isB l t = t := by omega
        have e2 : bk notB l t = t := by rw [e1] at h l2; omega
        rcases a1 with a1 | a1
        · omega
        · have := bk_spec notB l t
          rw [e2] at this
          rw [e1] at a1
          rcases this.1 with h3 | h3
          · omega
          · rw [notB_f h3] at a1; cases a1
theorem on_spec (l : List UInt8) {t : Nat} (ht : t ≤ l.length) : (onL l t = l.length ∨ (t < onL l t ∧ isB (l.getD (onL l t) 0) = false ∧ isB (l.getD (onL l t - 1) 0) = true)) ∧ (t < l.length → t < onL l t) := by
  rcases Nat.lt_or_ge t l.length with hlt | hge
  case inr =>
    obtain rfl : t = l.length := by omega
    refine ⟨.inl ?_, fun h => absurd h (Nat.lt_irrefl _)⟩
    unfold onL
    rw [fw_end, fw_end]
  obtain ⟨a1, a2⟩ := fw_spec notB l _ t rfl ht
  have l1 := fw_ge notB l t
  have l3 := fw_le notB l ht
  obtain ⟨b1, b2⟩ := fw_spec isB l _ (fw notB l t) rfl l3
  have l2 := fw_ge isB l (fw notB l t)
  have key : onL l t = l.length ∨ (t < onL l t ∧ isB (l.getD (onL l t) 0) = false ∧ isB (l.getD (onL l t - 1) 0) = true) := by
    show fw isB l (fw notB l t) = _ ∨ (_ < fw isB l (fw notB l t) ∧ isB (l.getD (fw isB l (fw notB l t)) 0) = false ∧ isB (l.getD (fw isB l (fw notB l t) - 1) 0) = true)
    rcases b1 with b1 | b1
    · exact .inl b1
    · rcases b2 with b2 | b2
      · rcases a1 with a1 | a1
        · exact .inl (by rw [b2]; exact a1)
        · rw [b2] at b1
          rw [notB_f a1] at b1
          cases b1
      · refine .inr ⟨?_, b1, b2⟩
        rcases Nat.lt_or_ge t (fw isB l (fw notB l t)) with h | h
        · exact h
        · exfalso
          have e1 : fw notB l t = t := by omega
          have e2 : fw isB l (fw notB l t) = t := by omega
          rcases a1 with a1 | a1
          · omega
          · rw [e1] at a1
            rw [e2] at b1
            rw [notB_f a1] at b1
            cases b1
  refine ⟨key, fun h => ?_⟩
  rcases key with k | k
  · omega
  · exact k.1

/-- What a function does; none of another one. -/
def doL (l : List UInt8) (t : Nat) (f : Int) : Option (List UInt8 × Nat) :=
  if f = 10 then some (l.take (t - 1) ++ l.drop t, t - 1)
  else if f = 27 then some (l.take t ++ l.drop (min (t + 1) l.length), t)
  else if f = 12 then some (l.take (backL l t) ++ l.drop t, backL l t)
  else if f = 28 then some (l.take t ++ l.drop (onL l t), t)
  else if f = 29 then some (l.drop t, 0)
  else if f = 30 then some (l.take t, t)
  else if f = 11 then some ([], 0)
  else if f = 19 then some (l, t - 1)
  else if f = 20 then some (l, min (t + 1) l.length)
  else if f = 21 then some (l, backL l t)
  else if f = 22 then some (l, onL l t)
  else if f = 23 then some (l, 0)
  else if f = 24 then some (l, l.length)
  else none

/-- What a key does; none if there is no room. -/
def tyL (l : List UInt8) (t : Nat) (room : Int) (over : Bool) (c : UInt8) : Option (List UInt8 × Nat) :=
  if (over && decide (t < l.length)) = true then some (l.take t ++ ([c] ++ l.drop (t + 1)), t + 1)
  else if min room 4096 ≤ (l.length : Int) then none
  else some (l.take t ++ ([c] ++ l.drop t), t + 1)

theorem do_spec {l m : List UInt8} {t s : Nat} {f : Int} (ht : t ≤ l.length) (h : doL l t f = some (m, s)) : s ≤ m.length ∧ m.length ≤ l.length := by
  have h1 := back_le l t
  have h2 := on_ge l t
  have h3 := on_le l ht
  unfold doL at h
  by_cases h9 : f = 10
  · rw [if_pos h9] at h
    simp only [Option.some.injEq, Prod.mk.injEq] at h
    obtain ⟨rfl, rfl⟩ := h
    clear h9
    simp only [List.length_append, List.length_take, List.length_drop]
    omega
  rw [if_neg h9] at h
  clear h9
  by_cases h9 : f = 27
  · rw [if_pos h9] at h
    simp only [Option.some.injEq, Prod.mk.injEq] at h
    obtain ⟨rfl, rfl⟩ := h
    clear h9
    simp only [List.length_append, List.length_take, List.length_drop]
    omega
  rw [if_neg h9] at h
  clear h9
  by_cases h9 : f = 12
  · rw [if_pos h9] at h
    simp only [Option.some.injEq, Prod.mk.injEq] at h
    obtain ⟨rfl, rfl⟩ := h
    clear h9
    simp only [List.length_append, List.length_take, List.length_drop]
    omega
  rw [if_neg h9] at h
  clear h9
  by_cases h9 : f = 28
  · rw [if_pos h9] at h
    simp only [Option.some.injEq, Prod.mk.injEq] at h
    obtain ⟨rfl, rfl⟩ := h
    clear h9
    simp only [List.length_append, List.length_take, List.length_drop]
    omega
  rw [if_neg h9] at h
  clear h9
  by_cases h9 : f = 29
  · rw [if_pos h9] at h
    simp only [Option.some.injEq, Prod.mk.injEq] at h
    obtain ⟨rfl, rfl⟩ := h
    clear h9
    simp only [List.length_drop]
    omega
  rw [if_neg h9] at h
  clear h9
  by_cases h9 : f = 30
  · rw [if_pos h9] at h
    simp only [Option.some.injEq, Prod.mk.injEq] at h
    obtain ⟨rfl, rfl⟩ := h
    clear h9
    simp only [List.length_take]
    omega
  rw [if_neg h9] at h
  clear h9
  by_cases h9 : f = 11
  · rw [if_pos h9] at h
    simp only [Option.some.injEq, Prod.mk.injEq] at h
    obtain ⟨rfl, rfl⟩ := h
    clear h9
    simp only [List.length_nil]
    omega
  rw [if_neg h9] at h
  clear h9
  by_cases h9 : f = 19
  · rw [if_pos h9] at h
    simp only [Option.some.injEq, Prod.mk.injEq] at h
    obtain ⟨rfl, rfl⟩ := h
    clear h9
    omega
  rw [if_neg h9] at h
  clear h9
  by_cases h9 : f = 20
  · rw [if_pos h9] at h
    simp only [Option.some.injEq, Prod.mk.injEq] at h
    obtain ⟨rfl, rfl⟩ := h
    clear h9
    omega
  rw [if_neg h9] at h
  clear h9
  by_cases h9 : f = 21
  · rw [if_pos h9] at h
    simp only [Option.some.injEq, Prod.mk.injEq] at h
    obtain ⟨rfl, rfl⟩ := h
    clear h9
    omega
  rw [if_neg h9] at h
  clear h9
  by_cases h9 : f = 22
  · rw [if_pos h9] at h
    simp only [Option.some.injEq, Prod.mk.injEq] at h
    obtain ⟨rfl, rfl⟩ := h
    clear h9
    omega
  rw [if_neg h9] at h
  clear h9
  by_cases h9 : f = 23
  · rw [if_pos h9] at h
    simp only [Option.some.injEq, Prod.mk.injEq] at h
    obtain ⟨rfl, rfl⟩ := h
    clear h9
    omega
  rw [if_neg h9] at h
  clear h9
  by_cases h9 : f = 24
  · rw [if_pos h9] at h
    simp only [Option.some.injEq, Prod.mk.injEq] at h
    obtain ⟨rfl, rfl⟩ := h
    clear h9
    omega
  rw [if_neg h9] at h
  clear h9
  cases h
theorem ty_spec {l m : List UInt8} {t s : Nat} {room : Int} {over : Bool} {c : UInt8} (ht : t ≤ l.length) (h : tyL l t room over c = some (m, s)) :
    s = t + 1 ∧ s ≤ m.length ∧ (m.length = l.length ∨ (m.length = l.length + 1 ∧ (m.length : Int) ≤ room ∧ m.length ≤ 4096)) := by
  unfold tyL at h
  split at h
  · rename_i h0
    simp only [Bool.and_eq_true, decide_eq_true_eq] at h0
    simp only [Option.some.injEq, Prod.mk.injEq] at h
    obtain ⟨rfl, rfl⟩ := h
    have h1 := h0.2
    have e : (l.take t ++ ([c] ++ l.drop (t + 1))).length = l.length := by simp; omega
    rw [e]
    exact ⟨rfl, h1, .inl rfl⟩
  · split at h
    · cases h
    · rename_i h1
      simp only [Option.some.injEq, Prod.mk.injEq] at h
      obtain ⟨rfl, rfl⟩ := h
      have e : (l.take t ++ ([c] ++ l.drop t)).length = l.length + 1 := by simp; omega
      rw [e]
      exact ⟨rfl, by omega, .inr ⟨rfl, by omega, by omega⟩⟩

end Go.Proofs.YtlfmbfecajhffaaDoor
/-
  Blanks, and which lines may be: the contracts of blank, Check and May. No conditions beyond those each theorem states.
-/
namespace Go.Proofs.YtlfmbfecajhffaaDoor
open Go.RowKit
set_option maxRecDepth 100000

theorem isB_val (u : UInt8) : isB u = (((u.toNat : Int) == 32) || ((u.toNat : Int) == 9)) ∧ (isB u = true ∨ isB u = false) := by
  refine ⟨?_, by cases isB u <;> simp⟩
  have h : ∀ k : Fin 256, isB (UInt8.ofNat k.val) = (((k.val : Int) == 32) || ((k.val : Int) == 9)) := by decide +kernel
  have := h ⟨u.toNat, u.toNat_lt⟩
  simpa using this

theorem blank_any (u : UInt8) (w : World) : Calls Tryd.prog 106 #[.int .u8 (u.toNat : Int)] w fun e w' => e = .returned (.bool (isB u)) ∧ w' = w := by
  obtain ⟨h1, h2⟩ := isB_val u
  generalize (u.toNat : Int) = z at *
  cases q1 : (z == 32)
  · cases q2 : (z == 9)
    · go_enter Tryd.func106, Tryd.ntmps106
      go_wp2_with fail
      go_ret
      exact ⟨by rw [h1, q1, q2]; rfl, rfl⟩
    · go_enter Tryd.func106, Tryd.ntmps106
      go_wp2_with fail
      go_ret
      exact ⟨by rw [h1, q1, q2]; rfl, rfl⟩
  · go_enter Tryd.func106, Tryd.ntmps106
    go_wp2_with fail
    go_ret
    exact ⟨by rw [h1, q1]; rfl, rfl⟩

/-- May a line of n octets, at z, be? -/
def mayV (n : Nat) (z : Int) : Bool := decide (n ≤ 4096) && (decide (0 ≤ z) && decide (z ≤ (n : Int)))
def cerr (m : Bool) : Int := if m then 0 else 1
theorem mayV_n {n : Nat} {z : Int} (h : ¬ n ≤ 4096) : mayV n z = false := by simp [mayV, h]
theorem mayV_z {n : Nat} {z : Int} (h : ¬ 0 ≤ z) : mayV n z = false := by simp [mayV, h]
theorem mayV_k {n : Nat} {z : Int} (h : ¬ z ≤ (n : Int)) : mayV n z = false := by simp [mayV, h]
theorem mayV_t {n : Nat} {z : Int} (h1 : n ≤ 4096) (h2 : 0 ≤ z) (h3 : z ≤ (n : Int)) : mayV n z = true := by simp [mayV, h1, h2, h3]
theorem mayV_inv {n : Nat} {z : Int} (h : mayV n z = true) : n ≤ 4096 ∧ ∃ t : Nat, z = (t : Int) ∧ t ≤ n := by
  simp only [mayV, Bool.and_eq_true, decide_eq_true_eq] at h
  exact ⟨h.1, z.toNat, by omega, by omega⟩
theorem mayV_nat {n t : Nat} (h1 : n ≤ 4096) (h2 : t ≤ n) : mayV n (t : Int) = true := mayV_t h1 (by omega) (by omega)

theorem check_any (A : Option Addr) (n c : Nat) (z : Int) (m : Bool) (w : World) (hm : mayV n z = m) :
    Calls Tryd.prog 62 #[.agg #[.slice A n c, .int .i64 z]] w fun e w' => e = .returned (.int .i64 (cerr m)) ∧ Below w.heap.size w w' := by
  have HM := keepd hm
  have HB := keepd (bAlloc (Below.refl w.heap.size w) (.cells #[.slice A n c, .int .i64 z] 30))
  clear hm
  by_cases h1 : n ≤ 4096
  case neg =>
    have a0 : (n : Int) > 4096 := by omega
    have a1 : ¬ (n : Int) ≤ 4096 := by omega
    have a2 : 4096 < n := by omega
    go_enter Tryd.func62, Tryd.ntmps62
    go_wp2_with fail
    go_ret
    exact ⟨by rw [← HM.out, mayV_n (n := n) (z := z) (by omega)]; rfl, HB.out⟩
  have a0 : ¬ (n : Int) > 4096 := by omega
  have a1 : (n : Int) ≤ 4096 := by omega
  have a2 : ¬ 4096 < n := by omega
  by_cases h2 : 0 ≤ z
  case neg =>
    have b0 : z < 0 := by omega
    have b1 : ¬ z ≥ 0 := by omega
    go_enter Tryd.func62, Tryd.ntmps62
    go_wp2_with fail
    go_ret
    exact ⟨by rw [← HM.out, mayV_z (n := n) (z := z) (by omega)]; rfl, HB.out⟩
  have b0 : ¬ z < 0 := by omega
  have b1 : z ≥ 0 := by omega
  by_cases h3 : z ≤ (n : Int)
  case neg =>
    have c0 : z > (n : Int) := by omega
    have c1 : (n : Int) < z := by omega
    go_enter Tryd.func62, Tryd.ntmps62
    go_wp2_with fail
    go_ret
    exact ⟨by rw [← HM.out, mayV_k (n := n) (z := z) (by omega)]; rfl, HB.out⟩
  have c0 : ¬ z > (n : Int) := by omega
  have c1 : ¬ (n : Int) < z := by omega
  go_enter Tryd.func62, Tryd.ntmps62
  go_wp2_with fail
  go_ret
  exact ⟨by rw [← HM.out, mayV_t (n := n) (z := z) (by omega) (by omega) (by omega)]; rfl, HB.out⟩

theorem rmay_any (A : Option Addr) (n c : Nat) (z : Int) (m : Bool) (w : World) (hm : mayV n z = m) :
    Calls Tryd.prog 39 #[.agg #[.slice A n c, .int .i64 z]] w fun e w' => e = .returned (.bool m) ∧ Below w.heap.size w w' := by
  have HM := keepd hm
  have HB := keepd (bAlloc (Below.refl w.heap.size w) (.cells #[.slice A n c, .int .i64 z] 30))
  clear hm
  by_cases h1 : n ≤ 4096
  case neg =>
    have a0 : (n : Int) > 4096 := by omega
    have a1 : ¬ (n : Int) ≤ 4096 := by omega
    have a2 : 4096 < n := by omega
    go_enter Tryd.func39, Tryd.ntmps39
    go_wp2_with fail
    go_ret
    exact ⟨by rw [← HM.out, mayV_n (n := n) (z := z) (by omega)]; rfl, HB.out⟩
  have a0 : ¬ (n : Int) > 4096 := by omega
  have a1 : (n : Int) ≤ 4096 := by omega
  have a2 : ¬ 4096 < n := by omega
  by_cases h2 : 0 ≤ z
  case neg =>
    have b0 : z < 0 := by omega
    have b1 : ¬ z ≥ 0 := by omega
    go_enter Tryd.func39, Tryd.ntmps39
    go_wp2_with fail
    go_ret
    exact ⟨by rw [← HM.out, mayV_z (n := n) (z := z) (by omega)]; rfl, HB.out⟩
  have b0 : ¬ z < 0 := by omega
  have b1 : z ≥ 0 := by omega
  by_cases h3 : z ≤ (n : Int)
  case neg =>
    have c0 : z > (n : Int) := by omega
    have c1 : (n : Int) < z := by omega
    go_enter Tryd.func39, Tryd.ntmps39
    go_wp2_with fail
    go_ret
    exact ⟨by rw [← HM.out, mayV_k (n := n) (z := z) (by omega)]; rfl, HB.out⟩
  have c0 : ¬ z > (n : Int) := by omega
  have c1 : ¬ (n : Int) < z := by omega
  go_enter Tryd.func39, Tryd.ntmps39
  go_wp2_with fail
  go_ret
  exact ⟨by rw [← HM.out, mayV_t (n := n) (z := z) (by omega) (by omega) (by omega)]; rfl, HB.out⟩


theorem check_ok (A : Option Addr) (n c t : Nat) (w : World) (h1 : n ≤ 4096) (h2 : t ≤ n) :
    Calls Tryd.prog 62 #[.agg #[.slice A n c, .int .i64 (t : Int)]] w fun e w' => e = .returned (.int .i64 0) ∧ Below w.heap.size w w' := check_any A n c (t : Int) true w (mayV_nat h1 h2)
theorem check_bad (A : Option Addr) (n c : Nat) (z : Int) (w : World) (h : mayV n z = false) :
    Calls Tryd.prog 62 #[.agg #[.slice A n c, .int .i64 z]] w fun e w' => e = .returned (.int .i64 1) ∧ Below w.heap.size w w' := check_any A n c z false w h

end Go.Proofs.YtlfmbfecajhffaaDoor
/-
  A word back: the contracts of the line's and the document's Back. No conditions beyond those each theorem states.
-/
namespace Go.Proofs.YtlfmbfecajhffaaDoor
open Go.RowKit
set_option maxRecDepth 100000

theorem line_new (w : World) (x y : Value) (V : World) (hV : w.alloc (.cells #[x, y] 30) = V) : Hid (SR 30 V w.heap.size [x, y]) ∧ Hid (Below w.heap.size w V) := by
  subst hV
  exact ⟨heap_alloc_new w _, bAlloc (Below.refl _ _) _⟩

set_option maxHeartbeats 2000000 in
theorem back_any (A : Option Addr) (l : List UInt8) (n c t r : Nat) (w : World) (hn : n = l.length) (hr : Rd w w.heap.size A l c) (hn4 : n ≤ 4096) (ht : t ≤ n) (hx : backL l t = r) :
    Calls Tryd.prog 91 #[.agg #[.slice A n c, .int .i64 (t : Int)]] w fun e w' => e = .returned (.int .i64 (r : Int)) ∧ Below w.heap.size w w' := by
  have HN := keepd hn
  have HR0 := keepd hr
  have HX := keepd hx
  have hc1 : n ≤ c := by rw [hn]; exact hr.1
  have hc2 := hr.2.1
  unfold maxLen at hc2
  clear hn hr hx
  go_enter Tryd.func91, Tryd.ntmps91
  go_upto_region 1 with fail
  generalize hV : w.alloc (.cells #[.slice A n c, .int .i64 (t : Int)] 30) = V
  obtain ⟨H, HV⟩ := line_new _ _ _ _ hV
  have CK := keepd (check_ok A n c t V hn4 ht)
  have k0 := H.out.cell 0
  have k1 := H.out.cell 1
  simp only [List.getElem?_cons_zero, List.getElem?_cons_succ] at k0 k1
  clear hV
  go_wp2_with fail
  with_reducible refine CK.out.mono ?_
  rintro e w2 ⟨rfl, hb2⟩
  have HB := keepd (HV.out.trans (hb2.mono HV.out.size))
  have hs := SR.call H.out hb2 H.out.lt
  have k0 := hs.cell 0
  have k1 := hs.cell 1
  simp only [List.getElem?_cons_zero, List.getElem?_cons_succ] at k0 k1
  have HR := keepd (HR0.out.at_ HB.out)
  clear hb2 hs CK
  go_wp2_with fail
  go_loopw [3] (fun vi wr => ∃ k : Nat, k ≤ t ∧ vi = .int .i64 k ∧ Hid (bk isB l k = bk isB l t) ∧ w2 = wr) (fun vi _ => (intOf vi).toNat)
  case atStart => exact ⟨t, by omega, rfl, rfl, rfl⟩
  case round =>
    obtain ⟨k, hk, rfl, HT, rfl⟩ := hrel
    rcases Nat.eq_zero_or_pos k with h0 | h0
    · have z0 : ¬ (k : Int) > 0 := by omega
      have z1 : ¬ (0 : Int) < (k : Int) := by omega
      have z2 : ¬ 0 < k := by omega
      have HK0 := keepd h0
      have HT : Hid (bk isB l 0 = bk isB l t) := by rw [← h0]; exact HT
      clear h0
      have HQ : Hid (bk notB l 0 = r) := by
        show _ = _
        rw [← HX.out]
        unfold backL
        rw [← HT.out]
        rfl
      go_wp2_with fail
      go_loopw [3] (fun vi wr => ∃ k : Nat, k ≤ t ∧ vi = .int .i64 k ∧ Hid (bk notB l k = r) ∧ w2 = wr) (fun vi _ => (intOf vi).toNat)
      case atStart => exact ⟨k, by omega, by first | rfl | go_num, by rw [HK0.out]; exact HQ, rfl⟩
      case round =>
        obtain ⟨j, hj, rfl, HT2, rfl⟩ := hrel
        cases j with
        | zero =>
          have HE : Hid (r = 0) := HT2.out.symm
          go_wp2_with fail
          go_ret
          exact ⟨by rw [HE.out]; rfl, HB.out⟩
        | succ j =>
          have hjl : j < l.length := by rw [← HN.out]; omega
          obtain ⟨b, off, hA, _, hce⟩ := HR.out.form hjl
          have HG := keepd fun h => (bk_go (p := notB) hjl h).symm.trans HT2.out
          have HS := keepd fun h => (bk_stop (p := notB) hjl h).symm.trans HT2.out
          generalize l[j] = u at *
          cases hA
          have C := keepd (blank_any u w2)
          have i0 : (0 : Int) ≤ (j : Int) := by omega
          have i1 : (j : Int) < (n : Int) := by omega
          have i2 : (j : Int) + 1 > 0 := by omega
          have i3 : (0 : Int) < (j : Int) + 1 := by omega
          have i4 : (j : Int) ≤ 4096 := by omega
          obtain ⟨q, hq⟩ : ∃ q, isB u = q := ⟨_, rfl⟩
          rw [hq] at C
          have HQ2 := keepd hq
          clear hq
          cases q
          · have HT3 := keepd (HG.out (by simp [notB, HQ2.out]))
            go_wp2_with fail
            with_reducible refine C.out.mono ?_
            rintro e w2 ⟨rfl, rfl⟩
            go_wp2_with fail
            go_roundw
            case rel => exact ⟨j, by omega, by go_num, HT3, by first | trivial | rfl⟩
            case measure => simp [intOf] <;> omega
          · have HE : Hid (r = j + 1) := (HS.out (by simp [notB, HQ2.out])).symm
            go_wp2_with fail
            with_reducible refine C.out.mono ?_
            rintro e w2 ⟨rfl, rfl⟩
            go_wp2_with fail
            go_ret
            exact ⟨by rw [HE.out]; rfl, HB.out⟩
    · obtain ⟨k, rfl⟩ : ∃ j, k = j + 1 := ⟨k - 1, by omega⟩
      clear h0
      have hkl : k < l.length := by rw [← HN.out]; omega
      obtain ⟨b, off, hA, _, hce⟩ := HR.out.form hkl
      have HG := keepd fun h => (bk_go (p := isB) hkl h).symm.trans HT.out
      have HS := keepd fun h => (bk_stop (p := isB) hkl h).symm.trans HT.out
      generalize l[k] = u at *
      obtain ⟨A', hA'⟩ : ∃ A', A = A' := ⟨_, rfl⟩
      have C := keepd (blank_any u w2)
      have i0 : (0 : Int) ≤ (k : Int) := by omega
      have i1 : (k : Int) < (n : Int) := by omega
      have i2 : (k : Int) + 1 > 0 := by omega
      have i3 : (0 : Int) < (k : Int) + 1 := by omega
      have i4 : (k : Int) ≤ 4096 := by omega
      obtain ⟨q, hq⟩ : ∃ q, isB u = q := ⟨_, rfl⟩
      rw [hq] at C
      have HQ2 := keepd hq
      clear hq hA' A'
      cases q
      · have HQ : Hid (bk notB l (k + 1) = r) := by
          show _ = _
          rw [← HX.out]
          unfold backL
          rw [← HT.out]
          show _ = bk notB l (bk isB l (k + 1))
          rw [HT.out, ← HS.out HQ2.out]
        cases hA
        go_wp2_with fail
        with_reducible refine C.out.mono ?_
        rintro e w2 ⟨rfl, rfl⟩
        clear hce C
        go_wp2_with fail
        go_loopw [3] (fun vi wr => ∃ k : Nat, k ≤ t ∧ vi = .int .i64 k ∧ Hid (bk notB l k = r) ∧ w2 = wr) (fun vi _ => (intOf vi).toNat)
        case atStart => exact ⟨k + 1, by omega, by first | rfl | go_num, HQ, rfl⟩
        case round =>
          obtain ⟨j, hj, rfl, HT2, rfl⟩ := hrel
          cases j with
          | zero =>
            have HE : Hid (r = 0) := HT2.out.symm
            go_wp2_with fail
            go_ret
            exact ⟨by rw [HE.out]; rfl, HB.out⟩
          | succ j =>
            have hjl : j < l.length := by rw [← HN.out]; omega
            obtain ⟨b, off, hA, _, hce⟩ := HR.out.form hjl
            have HG := keepd fun h => (bk_go (p := notB) hjl h).symm.trans HT2.out
            have HS := keepd fun h => (bk_stop (p := notB) hjl h).symm.trans HT2.out
            generalize l[j] = u at *
            cases hA
            have C := keepd (blank_any u w2)
            have i0 : (0 : Int) ≤ (j : Int) := by omega
            have i1 : (j : Int) < (n : Int) := by omega
            have i2 : (j : Int) + 1 > 0 := by omega
            have i3 : (0 : Int) < (j : Int) + 1 := by omega
            have i4 : (j : Int) ≤ 4096 := by omega
            obtain ⟨q, hq⟩ : ∃ q, isB u = q := ⟨_, rfl⟩
            rw [hq] at C
            have HQ2 := keepd hq
            clear hq
            cases q
            · have HT3 := keepd (HG.out (by simp [notB, HQ2.out]))
              go_wp2_with fail
              with_reducible refine C.out.mono ?_
              rintro e w2 ⟨rfl, rfl⟩
              go_wp2_with fail
              go_roundw
              case rel => exact ⟨j, by omega, by go_num, HT3, by first | trivial | rfl⟩
              case measure => simp [intOf] <;> omega
            · have HE : Hid (r = j + 1) := (HS.out (by simp [notB, HQ2.out])).symm
              go_wp2_with fail
              with_reducible refine C.out.mono ?_
              rintro e w2 ⟨rfl, rfl⟩
              go_wp2_with fail
              go_ret
              exact ⟨by rw [HE.out]; rfl, HB.out⟩
      · have HT3 := keepd (HG.out HQ2.out)
        cases hA
        go_wp2_with fail
        with_reducible refine C.out.mono ?_
        rintro e w2 ⟨rfl, rfl⟩
        go_wp2_with fail
        go_roundw
        case rel => exact ⟨k, by omega, by go_num, HT3, by first | trivial | rfl⟩
        case measure => simp [intOf] <;> omega

end Go.Proofs.YtlfmbfecajhffaaDoor
/-
  A word on: the contracts of the line's and the document's On; Back and On of a line that may not be. No conditions beyond those each theorem states.
-/
namespace Go.Proofs.YtlfmbfecajhffaaDoor
open Go.RowKit
set_option maxHeartbeats 2000000 in
theorem on_any (A : Option Addr) (l : List UInt8) (n c t r : Nat) (w : World) (hn : n = l.length) (hr : Rd w w.heap.size A l c) (hn4 : n ≤ 4096) (ht : t ≤ n) (hx : onL l t = r) :
    Calls Tryd.prog 93 #[.agg #[.slice A n c, .int .i64 (t : Int)]] w fun e w' => e = .returned (.int .i64 (r : Int)) ∧ Below w.heap.size w w' := by
  have HN := keepd hn
  have HR0 := keepd hr
  have HX := keepd hx
  have hc1 : n ≤ c := by rw [hn]; exact hr.1
  have hc2 := hr.2.1
  unfold maxLen at hc2
  clear hn hr hx
  go_enter Tryd.func93, Tryd.ntmps93
  go_upto_region 1 with fail
  generalize hV : w.alloc (.cells #[.slice A n c, .int .i64 (t : Int)] 30) = V
  obtain ⟨H, HV⟩ := line_new _ _ _ _ hV
  have CK := keepd (check_ok A n c t V hn4 ht)
  have k0 := H.out.cell 0
  have k1 := H.out.cell 1
  simp only [List.getElem?_cons_zero, List.getElem?_cons_succ] at k0 k1
  clear hV
  go_wp2_with fail
  with_reducible refine CK.out.mono ?_
  rintro e w2 ⟨rfl, hb2⟩
  have HB := keepd (HV.out.trans (hb2.mono HV.out.size))
  have hs := SR.call H.out hb2 H.out.lt
  have k0 := hs.cell 0
  have k1 := hs.cell 1
  simp only [List.getElem?_cons_zero, List.getElem?_cons_succ] at k0 k1
  have HR := keepd (HR0.out.at_ HB.out)
  clear hb2 hs CK
  go_wp2_with fail
  go_loopw [3] (fun vi wr => ∃ k : Nat, k ≤ n ∧ vi = .int .i64 k ∧ Hid (fw notB l k = fw notB l t) ∧ w2 = wr) (fun vi _ => n - (intOf vi).toNat)
  case atStart => exact ⟨t, by omega, rfl, rfl, rfl⟩
  case round =>
    obtain ⟨k, hk, rfl, HT, rfl⟩ := hrel
    rcases Nat.lt_or_ge k n with hlt | hge
    · have hkl : k < l.length := by rw [← HN.out]; omega
      obtain ⟨b, off, hA, _, hce⟩ := HR.out.form hkl
      have HG := keepd fun h => (fw_go (p := notB) hkl h).trans HT.out
      have HS := keepd fun h => (fw_stop (p := notB) hkl h).symm.trans HT.out
      generalize l[k] = u at *
      have C := keepd (blank_any u w2)
      have i0 : (0 : Int) ≤ (k : Int) := by omega
      have i1 : (k : Int) < (n : Int) := by omega
      have i4 : (n : Int) ≤ 4096 := by omega
      obtain ⟨q, hq⟩ : ∃ q, isB u = q := ⟨_, rfl⟩
      rw [hq] at C
      have HQ2 := keepd hq
      clear hq hkl
      cases q
      · have HT3 := keepd (HG.out (by simp [notB, HQ2.out]))
        cases hA
        go_wp2_with fail
        with_reducible refine C.out.mono ?_
        rintro e w2 ⟨rfl, rfl⟩
        go_wp2_with fail
        go_roundw
        case rel => exact ⟨k + 1, by omega, by go_num, HT3, by first | trivial | rfl⟩
        case measure => simp [intOf] <;> omega
      · have HQ : Hid (fw isB l k = r) := by
          show _ = _
          rw [← HX.out]
          unfold onL
          rw [← HS.out (by simp [notB, HQ2.out])]
        cases hA
        go_wp2_with fail
        with_reducible refine C.out.mono ?_
        rintro e w2 ⟨rfl, rfl⟩
        clear hce C i0 i1
        go_wp2_with fail
        go_loopw [3] (fun vi wr => ∃ k : Nat, k ≤ n ∧ vi = .int .i64 k ∧ Hid (fw isB l k = r) ∧ w2 = wr) (fun vi _ => n - (intOf vi).toNat)
        case atStart => exact ⟨k, by omega, rfl, HQ, rfl⟩
        case round =>
          obtain ⟨j, hj, rfl, HT2, rfl⟩ := hrel
          rcases Nat.lt_or_ge j n with hlt2 | hge2
          · have hjl : j < l.length := by rw [← HN.out]; omega
            obtain ⟨b, off, hA, _, hce⟩ := HR.out.form hjl
            have HG := keepd fun h => (fw_go (p := isB) hjl h).trans HT2.out
            have HS := keepd fun h => (fw_stop (p := isB) hjl h).symm.trans HT2.out
            generalize l[j] = u at *
            cases hA
            have C := keepd (blank_any u w2)
            have i0 : (0 : Int) ≤ (j : Int) := by omega
            have i1 : (j : Int) < (n : Int) := by omega
            have i4 : (n : Int) ≤ 4096 := by omega
            obtain ⟨q, hq⟩ : ∃ q, isB u = q := ⟨_, rfl⟩
            rw [hq] at C
            have HQ2 := keepd hq
            clear hq hjl
            cases q
            · have HE : Hid (r = j) := (HS.out HQ2.out).symm
              go_wp2_with fail
              with_reducible refine C.out.mono ?_
              rintro e w2 ⟨rfl, rfl⟩
              go_wp2_with fail
              go_ret
              exact ⟨by rw [HE.out]; rfl, HB.out⟩
            · have HT3 := keepd (HG.out HQ2.out)
              go_wp2_with fail
              with_reducible refine C.out.mono ?_
              rintro e w2 ⟨rfl, rfl⟩
              go_wp2_with fail
              go_roundw
              case rel => exact ⟨j + 1, by omega, by go_num, HT3, by first | trivial | rfl⟩
              case measure => simp [intOf] <;> omega
          · have HE : Hid (r = j) := by
              show _ = _
              rw [← HT2.out, show j = l.length from by rw [← HN.out]; omega]
              exact fw_end _ _
            have z0 : ¬ (j : Int) < (n : Int) := by omega
            have z2 : ¬ j < n := by omega
            go_wp2_with fail
            go_ret
            exact ⟨by rw [HE.out]; rfl, HB.out⟩
    · have HQ : Hid (fw isB l k = r) := by
        show _ = _
        rw [← HX.out]
        unfold onL
        rw [← HT.out, show k = l.length from by rw [← HN.out]; omega, fw_end notB]
      have z0 : ¬ (k : Int) < (n : Int) := by omega
      have z2 : ¬ k < n := by omega
      go_wp2_with fail
      go_loopw [3] (fun vi wr => ∃ k : Nat, k ≤ n ∧ vi = .int .i64 k ∧ Hid (fw isB l k = r) ∧ w2 = wr) (fun vi _ => n - (intOf vi).toNat)
      case atStart => exact ⟨k, by omega, rfl, HQ, rfl⟩
      case round =>
        obtain ⟨j, hj, rfl, HT2, rfl⟩ := hrel
        rcases Nat.lt_or_ge j n with hlt2 | hge2
        · have hjl : j < l.length := by rw [← HN.out]; omega
          obtain ⟨b, off, hA, _, hce⟩ := HR.out.form hjl
          have HG := keepd fun h => (fw_go (p := isB) hjl h).trans HT2.out
          have HS := keepd fun h => (fw_stop (p := isB) hjl h).symm.trans HT2.out
          generalize l[j] = u at *
          cases hA
          have C := keepd (blank_any u w2)
          have i0 : (0 : Int) ≤ (j : Int) := by omega
          have i1 : (j : Int) < (n : Int) := by omega
          have i4 : (n : Int) ≤ 4096 := by omega
          obtain ⟨q, hq⟩ : ∃ q, isB u = q := ⟨_, rfl⟩
          rw [hq] at C
          have HQ2 := keepd hq
          clear hq hjl
          cases q
          · have HE : Hid (r = j) := (HS.out HQ2.out).symm
            go_wp2_with fail
            with_reducible refine C.out.mono ?_
            rintro e w2 ⟨rfl, rfl⟩
            go_wp2_with fail
            go_ret
            exact ⟨by rw [HE.out]; rfl, HB.out⟩
          · have HT3 := keepd (HG.out HQ2.out)
            go_wp2_with fail
            with_reducible refine C.out.mono ?_
            rintro e w2 ⟨rfl, rfl⟩
            go_wp2_with fail
            go_roundw
            case rel => exact ⟨j + 1, by omega, by go_num, HT3, by first | trivial | rfl⟩
            case measure => simp [intOf] <;> omega
        · have HE : Hid (r = j) := by
            show _ = _
            rw [← HT2.out, show j = l.length from by rw [← HN.out]; omega]
            exact fw_end _ _
          have z0 : ¬ (j : Int) < (n : Int) := by omega
          have z2 : ¬ j < n := by omega
          go_wp2_with fail
          go_ret
          exact ⟨by rw [HE.out]; rfl, HB.out⟩

theorem back_bad (A : Option Addr) (n c : Nat) (z : Int) (w : World) (hm : mayV n z = false) :
    Calls Tryd.prog 91 #[.agg #[.slice A n c, .int .i64 z]] w fun e w' => e = .returned (.int .i64 0) ∧ Below w.heap.size w w' := by
  have CK := keepd fun w => check_bad A n c z w hm
  clear hm
  go_enter Tryd.func91, Tryd.ntmps91
  go_upto_region 1 with fail
  generalize hV : w.alloc (.cells #[.slice A n c, .int .i64 z] 30) = V
  obtain ⟨H, HV⟩ := line_new _ _ _ _ hV
  have k0 := H.out.cell 0
  have k1 := H.out.cell 1
  simp only [List.getElem?_cons_zero, List.getElem?_cons_succ] at k0 k1
  clear hV
  go_wp2_with fail
  with_reducible refine (CK.out _).mono ?_
  rintro e w2 ⟨rfl, hb2⟩
  have HB := keepd (HV.out.trans (hb2.mono HV.out.size))
  clear hb2
  go_wp2_with fail
  go_ret
  exact ⟨rfl, HB.out⟩

theorem on_bad (A : Option Addr) (n c : Nat) (z : Int) (w : World) (hm : mayV n z = false) :
    Calls Tryd.prog 93 #[.agg #[.slice A n c, .int .i64 z]] w fun e w' => e = .returned (.int .i64 0) ∧ Below w.heap.size w w' := by
  have CK := keepd fun w => check_bad A n c z w hm
  clear hm
  go_enter Tryd.func93, Tryd.ntmps93
  go_upto_region 1 with fail
  generalize hV : w.alloc (.cells #[.slice A n c, .int .i64 z] 30) = V
  obtain ⟨H, HV⟩ := line_new _ _ _ _ hV
  have k0 := H.out.cell 0
  have k1 := H.out.cell 1
  simp only [List.getElem?_cons_zero, List.getElem?_cons_succ] at k0 k1
  clear hV
  go_wp2_with fail
  with_reducible refine (CK.out _).mono ?_
  rintro e w2 ⟨rfl, hb2⟩
  have HB := keepd (HV.out.trans (hb2.mono HV.out.size))
  clear hb2
  go_wp2_with fail
  go_ret
  exact ⟨rfl, HB.out⟩

end Go.Proofs.YtlfmbfecajhffaaDoor
/-
  Octets compared. No conditions beyond those each theorem states.
-/
namespace Go.Proofs.YtlfmbfecajhffaaDoor
open Go.RowKit
set_option maxRecDepth 100000

theorem line_new2 (w : World) (x y x' y' : Value) (V : World) (hV : (w.alloc (.cells #[x, y] 30)).alloc (.cells #[x', y'] 30) = V) : Hid (SR 30 V w.heap.size [x, y]) ∧ Hid (SR 30 V (w.heap.size + 1) [x', y']) ∧ Hid (Below w.heap.size w V) := by
  subst hV
  refine ⟨row_alloc (heap_alloc_new w _), ?_, bAlloc (bAlloc (Below.refl _ _) _) _⟩
  have := heap_alloc_new (w.alloc (.cells #[x, y] 30)) (.cells #[x', y'] 30)
  rw [World.size_alloc] at this
  exact this

theorem equal_any (A A' : Option Addr) (l l' : List UInt8) (n n' c c' : Nat) (r : Bool) (w : World) (hn : n = l.length) (hn' : n' = l'.length) (h : Rd w w.heap.size A l c) (h' : Rd w w.heap.size A' l' c') (hr : (l == l') = r) :
    Calls Tryd.prog 67 #[.slice A n c, .slice A' n' c'] w fun e w' => e = .returned (.bool r) ∧ w' = w := by
  have e1 := conv_str h
  have e2 := conv_str h'
  rw [← hn] at e1
  rw [← hn'] at e2
  have HR := keepd hr
  clear h h' hr hn hn'
  go_enter Tryd.func67, Tryd.ntmps67
  go_wp2_with fail
  go_ret
  exact ⟨by rw [← HR.out]; rfl, rfl⟩

theorem same_any (A A' : Option Addr) (l l' : List UInt8) (n n' c c' : Nat) (z z' : Int) (r : Bool) (w : World) (hn : n = l.length) (hn' : n' = l'.length) (h : Rd w w.heap.size A l c) (h' : Rd w w.heap.size A' l' c') (hr : (z == z' && l == l') = r) :
    Calls Tryd.prog 43 #[.agg #[.slice A n c, .int .i64 z], .agg #[.slice A' n' c', .int .i64 z']] w fun e w' => e = .returned (.bool r) ∧ Below w.heap.size w w' := by
  have HR := keepd hr
  have HH := keepd h
  have HH' := keepd h'
  have HN := keepd hn
  have HN' := keepd hn'
  clear h h' hr hn hn'
  go_enter Tryd.func43, Tryd.ntmps43
  go_upto_region 1 with fail
  generalize hV : (w.alloc (.cells #[.slice A n c, .int .i64 z] 30)).alloc (.cells #[.slice A' n' c', .int .i64 z'] 30) = V
  obtain ⟨H1, H2, HB⟩ := line_new2 _ _ _ _ _ _ hV
  have k0 := H1.out.cell 0
  have k1 := H1.out.cell 1
  have k2 := H2.out.cell 0
  have k3 := H2.out.cell 1
  simp only [List.getElem?_cons_zero, List.getElem?_cons_succ] at k0 k1 k2 k3
  have C := keepd (equal_any A A' l l' n n' c c' _ V HN.out HN'.out (HH.out.at_ HB.out) (HH'.out.at_ HB.out) rfl)
  clear hV
  cases hq : (z == z')
  · go_wp2_with fail
    go_ret
    exact ⟨by rw [← HR.out, hq]; rfl, HB.out⟩
  · go_wp2_with fail
    with_reducible refine C.out.mono ?_
    rintro e V ⟨rfl, rfl⟩
    go_wp2_with fail
    go_ret
    exact ⟨by rw [← HR.out, hq]; rfl, HB.out⟩

end Go.Proofs.YtlfmbfecajhffaaDoor
/-
  Grow of nothing; rows of slices of octets; Concat. No conditions beyond those each theorem states.
-/
namespace Go.Proofs.YtlfmbfecajhffaaDoor
open Go.RowKit
set_option maxRecDepth 100000

theorem run_app0 (w : World) (ty : TypeId) (n : Nat) (h0 : 0 < n) (hn : n ≤ 1000000) :
    ∃ c w', (Builtin.append_ #[28, 3] ty #[.slice none 0 0, .int .i64 (n : Int)]).run Tryd.prog w = .ok (.slice (some ⟨w.heap.size, 0, none⟩) n c) w' ∧ n ≤ c ∧ c ≤ maxLen ∧ Own w' w.heap.size (.slice (some ⟨w.heap.size, 0, none⟩) 0 c) [] ∧ Below w.heap.size w w' := by
  obtain ⟨i0, hi, hz0, hz1, hz2⟩ := info_parts info5
  have h := Lib.run_append_nil_zeros (P := Tryd.prog) w 28 3 ty 5 i0 _ .i64 .i64 Tryd.underlying28 Tryd.underlying3 hi hz0 n h0 (by rw [hz1]; omega) (by omega) (by rw [hz2]; omega)
  have hge := grownCap_ge w n 0 5
  have hmx := grownCap_le_maxLen w n 0 5 (by unfold maxLen; omega)
  refine ⟨_, _, h, hge, hmx, ⟨by simp, .inr ⟨w.heap.size, _, _, rfl, Nat.le_refl _, heap_alloc_new w.drew _, Nat.zero_le _, hmx, ?_, by simp⟩⟩, ((Below.refl w.heap.size w).drew).alloc (Nat.le_refl _) _⟩
  rw [Array.size_append, size_zeroCells, size_zeroCells]
  simp only [Value.cells, Array.size]
  simp
  omega

theorem grow_any (n : Nat) (hn : n ≤ 1000000) (w : World) :
    Calls Tryd.prog 71 #[.slice none 0 0, .int .i64 (n : Int)] w fun e w' => (∃ A c, e = .returned (.slice A 0 c) ∧ Own w' w.heap.size (.slice A 0 c) []) ∧ Below w.heap.size w w' := by
  have i0 : ¬ (n : Int) < 0 := by omega
  rcases Nat.eq_zero_or_pos n with h0 | h0
  · subst h0
    go_enter Tryd.func71, Tryd.ntmps71
    go_wp2_with fail
    go_ret
    exact ⟨⟨none, 0, rfl, Own.nil _ _⟩, Below.refl _ _⟩
  have i1 : (n : Int) > 0 := by omega
  have i2 : (0 : Int) < (n : Int) := by omega
  have i3 : 0 < n := h0
  obtain ⟨c, w2, hrun, hc, hm, ho, hb⟩ := run_app0 w 28 n h0 hn
  have HO := keepd ho
  have HB := keepd hb
  clear ho hb
  go_enter Tryd.func71, Tryd.ntmps71
  go_wp2_with (at_builtin; refine Lib.wpList_append_run _ rfl _ _ _ _ rfl _ _ rfl rfl _ _ hrun ?_)
  go_ret
  exact ⟨⟨_, _, rfl, HO.out⟩, HB.out⟩

end Go.Proofs.YtlfmbfecajhffaaDoor
/-
  Concat of rows of octets. No conditions beyond those each theorem states.
-/
namespace Go.Proofs.YtlfmbfecajhffaaDoor
open Go.RowKit
set_option maxRecDepth 100000

/-- A part: a slice of octets. -/
structure Pt where
  A : Option Addr
  n : Nat
  c : Nat
  l : List UInt8
def Pt.v (p : Pt) : Value := .slice p.A p.n p.c
def flat (Ps : List Pt) : List UInt8 := Ps.flatMap (·.l)
theorem flat_succ (Ps : List Pt) (k : Nat) (h : k < Ps.length) : flat (Ps.take (k + 1)) = flat (Ps.take k) ++ Ps[k].l := by
  unfold flat
  rw [List.take_succ_eq_append_getElem h, List.flatMap_append]
  simp
theorem flat_len (Ps : List Pt) (k : Nat) : (flat (Ps.take k)).length ≤ (flat Ps).length := by
  unfold flat
  conv => rhs; rw [← List.take_append_drop k Ps, List.flatMap_append, List.length_append]
  omega
/-- Block g is the row of the parts, and each of them reads as its octets. -/
structure RdP (w : World) (g : Nat) (Ps : List Pt) : Prop where
  b : w.heap[g]? = some (.cells (Ps.map Pt.v).toArray 28 (0, 0))
  r : ∀ p ∈ Ps, p.n = p.l.length ∧ Rd w w.heap.size p.A p.l p.c
theorem RdP.at_ {w W : World} {g : Nat} {Ps : List Pt} (h : RdP w g Ps) (hb : Below w.heap.size w W) : RdP W g Ps :=
  ⟨(hb.block g (Array.getElem?_eq_some_iff.1 h.b).1).trans h.b, fun p hp => ⟨(h.r p hp).1, (h.r p hp).2.at_ hb⟩⟩
theorem RdP.get {w : World} {g : Nat} {Ps : List Pt} (h : RdP w g Ps) {k : Nat} (hk : k < Ps.length) : w.cell? ⟨g, k, none⟩ = some (.slice Ps[k].A Ps[k].n Ps[k].c) ∧ Ps[k].n = Ps[k].l.length ∧ Rd w w.heap.size Ps[k].A Ps[k].l Ps[k].c := by
  refine ⟨?_, h.r _ (List.getElem_mem hk)⟩
  rw [cell_of_row w g k _ 28 (0, 0) h.b]
  simp [hk, Pt.v]

set_option maxHeartbeats 1000000 in
theorem concat_any (g K : Nat) (Ps : List Pt) (L : List UInt8) (w : World) (h : RdP w g Ps) (hK : K = Ps.length) (hk1 : K ≤ 1000) (hL : flat Ps = L) (hs : L.length ≤ 1000000) :
    Calls Tryd.prog 53 #[.slice (some ⟨g, 0, none⟩) K K] w fun e w' => (∃ A c, e = .returned (.slice A L.length c) ∧ Own w' w.heap.size (.slice A L.length c) L) ∧ Below w.heap.size w w' := by
  have HR := keepd h
  have HK := keepd hK
  have HL := keepd hL
  have HS := keepd hs
  have CG := keepd (grow_any L.length hs w)
  obtain ⟨M, hM⟩ : ∃ M, L.length = M := ⟨_, rfl⟩
  rw [hM] at CG
  rw [hM]
  have HM := keepd hM
  rw [hM] at hs
  have c1 : K ≤ maxLen := by unfold maxLen; omega
  unfold maxLen at c1
  clear h hK hL hM
  go_enter Tryd.func53, Tryd.ntmps53
  go_wp2_with fail
  go_loopw [3, 11] (fun vs vi wr => ∃ k s : Nat, k ≤ K ∧ vi = .int .i64 k ∧ vs = .int .i64 s ∧ Hid (s = (flat (Ps.take k)).length) ∧ s ≤ M ∧ w = wr) (fun _ vi _ => K - (intOf vi).toNat)
  case atStart => exact ⟨0, 0, by omega, rfl, rfl, rfl, by omega, rfl⟩
  case round =>
    obtain ⟨k, s, hk, rfl, rfl, HT, hsM, rfl⟩ := hrel
    by_cases hlt : k < K
    · have hkL : k < Ps.length := by rw [← HK.out]; exact hlt
      obtain ⟨hce, hn, _⟩ := HR.out.get hkL
      have hsu := flat_succ Ps k hkL
      have hle := flat_len Ps (k + 1)
      generalize Ps[k] = p at *
      obtain ⟨A, n, c, l⟩ := p
      simp only at hce hn hsu
      have hsn : (flat (Ps.take (k + 1))).length = s + n := by rw [hsu, List.length_append, ← HT.out, ← hn]
      rw [hsn, HL.out, show L.length = M from HM.out] at hle
      have HT2 := keepd hsn.symm
      have i0 : (0 : Int) ≤ (k : Int) := by omega
      have i1 : (k : Int) < (K : Int) := by omega
      have i2 : ¬ ((s : Int) + (n : Int) < 0) := by omega
      clear hsu hsn hn
      go_wp2_with fail
      go_roundw
      case rel => exact ⟨k + 1, s + n, by omega, by go_num, by go_num, HT2, by omega, by first | trivial | rfl⟩
      case measure => simp [intOf]; omega
    · obtain rfl : k = K := by omega
      obtain rfl : s = M := by
        have := HT.out
        rw [List.take_of_length_le (by rw [← HK.out]; omega), HL.out, show L.length = M from HM.out] at this
        exact this
      go_wp2_with fail
      with_reducible refine CG.out.mono ?_
      rintro e w2 ⟨⟨A0, c0, rfl, ho⟩, hb⟩
      have HO := keepd ho
      have HB := keepd hb
      clear ho hb CG
      go_wp2_with fail
      go_loopw [6, 27] (fun vs vi wr => ∃ j : Nat, j ≤ k ∧ vi = .int .i64 j ∧ Hid (Own wr w.heap.size vs (flat (Ps.take j))) ∧ Hid (Below w.heap.size w wr)) (fun _ vi _ => k - (intOf vi).toNat)
      case atStart => exact ⟨0, by omega, rfl, by simpa [flat] using HO, HB⟩
      case round =>
        obtain ⟨j, hj, rfl, HO2, HB2⟩ := hrel
        by_cases hlt2 : j < k
        · have hkL : j < Ps.length := by rw [← HK.out]; exact hlt2
          obtain ⟨hce, hn, hr⟩ := (HR.out.at_ HB2.out).get hkL
          have hsu := flat_succ Ps j hkL
          have hle := flat_len Ps (j + 1)
          generalize Ps[j] = p at *
          obtain ⟨A, n, c, l⟩ := p
          simp only at hce hn hsu hr
          have hlen : (flat (Ps.take j)).length + l.length ≤ 1000000 := by
            rw [hsu, List.length_append, HL.out] at hle
            have := HS.out
            omega
          have HSU := keepd hsu
          have HLE := keepd hlen
          have HN := keepd hn
          have HRR := keepd hr
          have i0 : (0 : Int) ≤ (j : Int) := by omega
          have i1 : (j : Int) < (k : Int) := by omega
          clear hsu hle hn hr hlen
          go_wp2_with (at_builtin; refine wpList_app _ rfl (.tmp 31) (.tmp 32) rfl w.heap.size _ (flat (Ps.take j)) rfl HO2.out _ A n c l rfl HN.out HRR.out HLE.out HB2.out.size ?_; intro v3 w3 ho3 hg3 _)
          have HB3 := keepd (app_below HB2.out HO2.out hg3)
          have HO3 : Hid (Own w3 w.heap.size v3 (flat (Ps.take (j + 1)))) := by
            show Own _ _ _ _
            rw [HSU.out]
            exact ho3
          clear ho3 hg3
          go_wp2_with fail
          go_roundw
          case rel => exact ⟨j + 1, by omega, by go_num, HO3, HB3⟩
          case measure => simp [intOf]; omega
        · obtain rfl : j = k := by omega
          have ho := HO2.out
          rw [List.take_of_length_le (by rw [← HK.out]; omega), HL.out] at ho
          obtain ⟨A, c, he, _⟩ := ho.rd
          rw [show L.length = s from HM.out] at he
          rw [he] at ho
          have HO4 := keepd ho
          have HE := keepd he
          clear ho he
          go_wp2_with fail
          go_ret
          exact ⟨⟨A, c, congrArg Ending.returned HE.out, HO4.out⟩, HB2.out⟩

end Go.Proofs.YtlfmbfecajhffaaDoor
/-
  Few; a line anew, and moved. No conditions beyond those each theorem states.
-/
namespace Go.Proofs.YtlfmbfecajhffaaDoor
open Go.RowKit
set_option maxRecDepth 100000

theorem Own.base {w : World} {b b' : Nat} {v : Value} {l : List UInt8} (h : Own w b v l) (hb : b' ≤ b) : Own w b' v l := by
  refine ⟨h.1, ?_⟩
  rcases h.2 with hn | ⟨g, cap, cur, rfl, hg, rest⟩
  · exact .inl hn
  · exact .inr ⟨g, cap, cur, rfl, Nat.le_trans hb hg, rest⟩
/-- A line of its own memory. -/
def GotN (w : World) (L : List UInt8) (m : Nat) (z : Int) (e : Ending) (w' : World) : Prop :=
  (∃ A c, e = .returned (.agg #[.slice A m c, .int .i64 z]) ∧ Own w' w.heap.size (.slice A m c) L) ∧ Below w.heap.size w w'

/-- No more than is looked at. -/
def fewL (l : List UInt8) : List UInt8 := if (200 < l.length ∧ l.length < 4000) ∨ 4100 < l.length then l.take 200 else l
theorem few_le (l : List UInt8) : (fewL l).length ≤ 4100 ∧ (fewL l).length ≤ l.length := by
  unfold fewL
  split
  · rw [List.length_take]; omega
  · omega

theorem line_facts {V : World} {g : Nat} {x y : Value} (H : SR 30 V g [x, y]) : V.cell? ⟨g, 0, none⟩ = some x ∧ V.cell? ⟨g, 1, none⟩ = some y ∧ V.frozen? ⟨g, 0, none⟩ = false ∧ V.frozen? ⟨g, 1, none⟩ = false ∧ g < V.heap.size :=
  ⟨H.cell 0, H.cell 1, H.frozen 0, H.frozen 1, H.lt⟩

theorem few_any (A : Option Addr) (l : List UInt8) (n c m : Nat) (z : Int) (w : World) (hn : n = l.length) (hr : Rd w w.heap.size A l c) (hm : (fewL l).length = m) :
    Calls Tryd.prog 49 #[.agg #[.slice A n c, .int .i64 z]] w fun e w' => e = .returned (.agg #[.slice A m c, .int .i64 z]) ∧ Below w.heap.size w w' := by
  have hc1 : n ≤ c := by rw [hn]; exact hr.1
  have hc2 := hr.2.1
  unfold maxLen at hc2
  have HM : Hid (m = if (200 < n ∧ n < 4000) ∨ 4100 < n then 200 else n) := by
    show _ = _
    rw [← hm, hn]
    unfold fewL
    split
    · rw [List.length_take]; omega
    · rfl
  clear hn hr hm
  go_enter Tryd.func49, Tryd.ntmps49
  go_upto_region 1 with fail
  generalize hV : (w.alloc (.cells #[.slice A n c, .int .i64 z] 30)).alloc (.cells #[.slice none 0 0, .int .i64 0] 30) = V
  obtain ⟨H1, H2, HB⟩ := line_new2 _ _ _ _ _ _ hV
  obtain ⟨k0, k1, k2, k3, kt⟩ := line_facts H1.out
  obtain ⟨j0, j1, j2, j3, lt⟩ := line_facts H2.out
  clear hV H1 H2
  by_cases h1 : 200 < n
  case neg =>
    have a0 : ¬ (n : Int) > 200 := by omega
    have a1 : ¬ (200 : Int) < n := by omega
    have a2 : ¬ 200 < n := by omega
    have b0 : ¬ (n : Int) > 4100 := by omega
    have b1 : ¬ (4100 : Int) < n := by omega
    have b2 : ¬ 4100 < n := by omega
    obtain rfl : m = n := by have := HM.out; rw [if_neg (by omega)] at this; exact this
    clear HM h1
    go_wp2_with fail
    refine bodyPost_ret (v := .agg #[.slice A m c, .int .i64 z]) (by simp [results, Tryd.results49, go_sem, j0, j1]) rfl ?_
    exact ⟨rfl, set2_below HB.out (Nat.le_succ _) _ _⟩
  have a0 : (n : Int) > 200 := by omega
  have a1 : (200 : Int) < n := by omega
  have s0 : (200 : Int) ≤ c := by omega
  have s1 : 200 ≤ c := by omega
  by_cases h2 : n < 4000
  case pos =>
    have b0 : (n : Int) < 4000 := by omega
    obtain rfl : m = 200 := by have := HM.out; rw [if_pos (by omega)] at this; exact this
    clear HM
    go_wp2_with fail
    refine bodyPost_ret (v := .agg #[.slice A 200 c, .int .i64 z]) (by simp [results, Tryd.results49, go_sem, j0, j1]) rfl ?_
    exact ⟨rfl, set2_below (HB.out.setCell (p := ⟨w.heap.size, 0, none⟩) (Nat.le_refl _) _) (Nat.le_succ _) _ _⟩
  have b0 : ¬ (n : Int) < 4000 := by omega
  by_cases h3 : 4100 < n
  case pos =>
    have c0 : (n : Int) > 4100 := by omega
    have c1 : (4100 : Int) < n := by omega
    obtain rfl : m = 200 := by have := HM.out; rw [if_pos (by omega)] at this; exact this
    clear HM
    go_wp2_with fail
    refine bodyPost_ret (v := .agg #[.slice A 200 c, .int .i64 z]) (by simp [results, Tryd.results49, go_sem, j0, j1]) rfl ?_
    exact ⟨rfl, set2_below (HB.out.setCell (p := ⟨w.heap.size, 0, none⟩) (Nat.le_refl _) _) (Nat.le_succ _) _ _⟩
  have c0 : ¬ (n : Int) > 4100 := by omega
  have c1 : ¬ (4100 : Int) < n := by omega
  obtain rfl : m = n := by have := HM.out; rw [if_neg (by omega)] at this; exact this
  clear HM
  go_wp2_with fail
  refine bodyPost_ret (v := .agg #[.slice A m c, .int .i64 z]) (by simp [results, Tryd.results49, go_sem, j0, j1]) rfl ?_
  exact ⟨rfl, set2_below HB.out (Nat.le_succ _) _ _⟩

theorem rdp1 (V : World) (A : Option Addr) (n c : Nat) (l : List UInt8) (hn : n = l.length) (h : Rd V V.heap.size A l c) : RdP (V.alloc (.cells #[.slice A n c] 28)) V.heap.size [⟨A, n, c, l⟩] :=
  ⟨heap_alloc_new V _, fun p hp => by
    simp only [List.mem_cons, List.not_mem_nil, or_false] at hp
    subst hp
    exact ⟨hn, h.alloc (Nat.le_refl _) (by simp) _⟩⟩

/-- What stands behind the call, once the answer is laid into its block. -/
theorem gotn_end {w w2 : World} {L : List UInt8} {m c : Nat} {A : Option Addr} {z : Int} {B : Nat} (hlt : w.heap.size + 1 < B) (ho : Own w2 B (.slice A m c) L) (hb : Below w.heap.size w w2) :
    Own ((w2.setCell ⟨w.heap.size + 1, 0, none⟩ (.slice A m c)).setCell ⟨w.heap.size + 1, 1, none⟩ (.int .i64 z)) w.heap.size (.slice A m c) L ∧ Below w.heap.size w ((w2.setCell ⟨w.heap.size + 1, 0, none⟩ (.slice A m c)).setCell ⟨w.heap.size + 1, 1, none⟩ (.int .i64 z)) :=
  ⟨(ho.setLow hlt _ _).base (by omega), set2_below hb (by omega) _ _⟩

theorem moved_any (A : Option Addr) (l : List UInt8) (n c : Nat) (z z' : Int) (w : World) (hn : n = l.length) (hr : Rd w w.heap.size A l c) (hl : n ≤ 1000000) :
    Calls Tryd.prog 86 #[.agg #[.slice A n c, .int .i64 z], .int .i64 z'] w (GotN w l n z') := by
  have HN := keepd hn
  have HR0 := keepd hr
  clear hn hr
  go_enter Tryd.func86, Tryd.ntmps86
  go_upto_region 1 with fail
  generalize hV : (w.alloc (.cells #[.slice A n c, .int .i64 z] 30)).alloc (.cells #[.slice none 0 0, .int .i64 0] 30) = V
  obtain ⟨H1, H2, HB⟩ := line_new2 _ _ _ _ _ _ hV
  have HS : Hid (V.heap.size = w.heap.size + 2) := by
    show _ = _
    rw [← hV, World.size_alloc, World.size_alloc]
  have k0 := H1.out.cell 0
  have k1 := H1.out.cell 1
  simp only [List.getElem?_cons_zero, List.getElem?_cons_succ] at k0 k1
  have C := concat_any V.heap.size 1 _ l _ (rdp1 V A n c l HN.out (HR0.out.at_ HB.out)) rfl (by omega) (by simp [flat]) (by rw [← HN.out]; exact hl)
  rw [← HN.out] at C
  replace C := keepd C
  clear hV
  go_wp2_with fail
  with_reducible refine C.out.mono ?_
  rintro e w2 ⟨⟨A2, c2, rfl, ho⟩, hb2⟩
  have hb3 := upA hb2
  have HO := keepd ho
  have HB2 := keepd (HB.out.trans (hb3.mono HB.out.size))
  obtain ⟨m0, m1, m2, m3, lt⟩ := line_facts (SR.call H2.out hb3 H2.out.lt)
  have HLT : Hid (w.heap.size + 1 < (V.alloc (.cells #[.slice A n c] 28)).heap.size) := by
    show _ < _
    rw [World.size_alloc, HS.out]
    omega
  clear hb2 hb3 C ho
  go_wp2_with fail
  refine bodyPost_ret (v := .agg #[.slice A2 n c2, .int .i64 z']) (by simp [results, Tryd.results86, go_sem, m0, m1]) rfl ?_
  obtain ⟨q1, q2⟩ := gotn_end (z := z') HLT.out HO.out HB2.out
  exact ⟨⟨A2, c2, rfl, q1⟩, q2⟩

/-- As moved: a line with memory of its own. -/
theorem anew_any (A : Option Addr) (l : List UInt8) (n c : Nat) (z : Int) (w : World) (hn : n = l.length) (hr : Rd w w.heap.size A l c) (hl : n ≤ 1000000) :
    Calls Tryd.prog 80 #[.agg #[.slice A n c, .int .i64 z]] w (GotN w l n z) := by
  have HN := keepd hn
  have HR0 := keepd hr
  clear hn hr
  go_enter Tryd.func80, Tryd.ntmps80
  go_upto_region 1 with fail
  generalize hV : (w.alloc (.cells #[.slice A n c, .int .i64 z] 30)).alloc (.cells #[.slice none 0 0, .int .i64 0] 30) = V
  obtain ⟨H1, H2, HB⟩ := line_new2 _ _ _ _ _ _ hV
  have HS : Hid (V.heap.size = w.heap.size + 2) := by
    show _ = _
    rw [← hV, World.size_alloc, World.size_alloc]
  obtain ⟨k0, k1, _, _, _⟩ := line_facts H1.out
  have C := keepd (moved_any A l n c z z V HN.out (HR0.out.at_ HB.out) hl)
  clear hV
  go_wp2_with fail
  with_reducible refine C.out.mono ?_
  rintro e w2 ⟨⟨A2, c2, rfl, ho⟩, hb2⟩
  have HO := keepd ho
  have HB2 := keepd (HB.out.trans (hb2.mono HB.out.size))
  obtain ⟨m0, m1, m2, m3, lt⟩ := line_facts (SR.call H2.out hb2 H2.out.lt)
  have HLT : Hid (w.heap.size + 1 < V.heap.size) := by
    show _ < _
    rw [HS.out]
    omega
  clear hb2 C ho
  go_wp2_with fail
  refine bodyPost_ret (v := .agg #[.slice A2 n c2, .int .i64 z]) (by simp [results, Tryd.results80, go_sem, m0, m1]) rfl ?_
  obtain ⟨q1, q2⟩ := gotn_end (z := z) HLT.out HO.out HB2.out
  exact ⟨⟨A2, c2, rfl, q1⟩, q2⟩

end Go.Proofs.YtlfmbfecajhffaaDoor
/-
  A line without some of its octets. No conditions beyond those each theorem states.
-/
namespace Go.Proofs.YtlfmbfecajhffaaDoor
open Go.RowKit
set_option maxRecDepth 100000

theorem upD2 {w1 w2 : World} {o o' : Obj} (hb : Below ((w1.alloc o).alloc o').drew.heap.size ((w1.alloc o).alloc o').drew w2) : Below w1.heap.size w1 w2 := by
  have h1 : Below w1.heap.size w1 ((w1.alloc o).alloc o').drew := (bAlloc (bAlloc (Below.refl _ _) _) _).drew
  exact h1.trans (hb.mono (by simp only [World.size_drew, World.size_alloc]; omega))
theorem sL {V W : World} {g : Nat} {x y : Value} (k0 : V.cell? ⟨g, 0, none⟩ = some x) (k1 : V.cell? ⟨g, 1, none⟩ = some y) (h : Below (g + 1) V W) : W.cell? ⟨g, 0, none⟩ = some x ∧ W.cell? ⟨g, 1, none⟩ = some y ∧ Below (g + 1) V W :=
  ⟨(h.cell (p := ⟨g, 0, none⟩) (Nat.lt_succ_self g)).trans k0, (h.cell (p := ⟨g, 1, none⟩) (Nat.lt_succ_self g)).trans k1, h⟩

theorem rdp2 (V : World) (A A' : Option Addr) (n n' c c' : Nat) (l l' : List UInt8) (hn : n = l.length) (hn' : n' = l'.length) (h : Rd V V.heap.size A l c) (h' : Rd V V.heap.size A' l' c') :
    RdP (V.alloc (.cells #[.slice A n c, .slice A' n' c'] 28)) V.heap.size [⟨A, n, c, l⟩, ⟨A', n', c', l'⟩] :=
  ⟨heap_alloc_new V _, fun p hp => by
    simp only [List.mem_cons, List.not_mem_nil, or_false] at hp
    rcases hp with rfl | rfl
    · exact ⟨hn, h.alloc (Nat.le_refl _) (by simp) _⟩
    · exact ⟨hn', h'.alloc (Nat.le_refl _) (by simp) _⟩⟩
theorem RdP.drew {w : World} {g : Nat} {Ps : List Pt} (h : RdP w g Ps) : RdP w.drew g Ps := ⟨h.b, h.r⟩

theorem tail_of {w : World} {A : Option Addr} {l : List UInt8} {c n t : Nat} (hn : n = l.length) (hr : Rd w w.heap.size A l c) (ht : t ≤ n) :
    ∃ A2 k d, k = (l.drop t).length ∧ Rd w w.heap.size A2 (l.drop t) d ∧ ∀ W, (Instr.sliceAt 28 (.slice A n c) (some (.int .i64 t)) none none).run Tryd.prog W = .ok (.slice A2 k d) W :=
  ⟨_, n - t, _, by rw [List.length_drop, hn], hr.drop t (by omega), fun W => slice_from A n c t ht W⟩

set_option maxHeartbeats 1000000 in
theorem without_any (A : Option Addr) (l : List UInt8) (n c f t m : Nat) (z : Int) (w : World) (hn : n = l.length) (hr : Rd w w.heap.size A l c) (hl : n ≤ 100000) (hf : f ≤ n) (ht : t ≤ n) (hm : (l.take f ++ l.drop t).length = m) :
    Calls Tryd.prog 88 #[.agg #[.slice A n c, .int .i64 z], .int .i64 (f : Int), .int .i64 (t : Int)] w (GotN w (l.take f ++ l.drop t) m (f : Int)) := by
  obtain ⟨A2, k, d, hk, hr2, hsl⟩ := tail_of hn hr ht
  have hc1 : n ≤ c := by rw [hn]; exact hr.1
  have hc2 := hr.2.1
  unfold maxLen at hc2
  have HF : Hid (f = (l.take f).length) := by show _ = _; rw [List.length_take]; omega
  have HK := keepd hk
  have HM := keepd hm
  have HML : Hid ((l.take f ++ l.drop t).length ≤ 1000000) := by
    show _ ≤ _
    rw [List.length_append, List.length_take, List.length_drop]
    omega
  have HR1 := keepd (hr.take f)
  have HR2 := keepd hr2
  have s0 : (f : Int) ≤ c := by omega
  have s1 : f ≤ c := by omega
  have s2 : (0 : Int) ≤ (f : Int) := by omega
  clear hn hr hr2 hk hm ht
  go_enter Tryd.func88, Tryd.ntmps88
  go_upto_region 1 with fail
  generalize hV : (w.alloc (.cells #[.slice A n c, .int .i64 z] 30)).alloc (.cells #[.slice none 0 0, .int .i64 0] 30) = V
  obtain ⟨H1, H2, HB⟩ := line_new2 _ _ _ _ _ _ hV
  have HS : Hid (V.heap.size = w.heap.size + 2) := by
    show _ = _
    rw [← hV, World.size_alloc, World.size_alloc]
  obtain ⟨k0, k1, k2, k3, kt⟩ := line_facts H1.out
  have K0 := keepd k0
  have K1 := keepd k1
  have xx : w.heap.size + 1 ≤ V.heap.size := by rw [HS.out]; omega
  have C := concat_any V.heap.size 2 _ (l.take f ++ l.drop t) _ (rdp2 V A A2 f k c d _ _ HF.out HK.out (HR1.out.at_ HB.out) (HR2.out.at_ HB.out)).drew rfl (by omega) (by simp [flat]) HML.out
  rw [show (l.take f ++ l.drop t).length = m from HM.out] at C
  replace C := keepd C
  have HLT : Hid (w.heap.size + 1 < (V.alloc (.cells #[.slice A f c, .slice A2 k d] 28)).drew.heap.size) := by
    show _ < (V.alloc _).heap.size
    rw [World.size_alloc, HS.out]
    omega
  clear hV
  go_region_held3 (fun W => W.cell? ⟨w.heap.size, 0, none⟩ = some (.slice A n c) ∧ W.cell? ⟨w.heap.size, 1, none⟩ = some (.int .i64 z) ∧ Below (w.heap.size + 1) V W)
    ((refine sL K0.out K1.out ?_; repeat (first | assumption | exact Below.refl _ _ | with_reducible refine Below.setCell ?_ (Nat.le_refl (w.heap.size + 1)) _ | with_reducible refine bAl xx ?_ _ | with_reducible refine Below.drew ?_)))
    (first | (go_at_call 53; (with_reducible refine C.out.mono ?_); rintro e w2 ⟨⟨A3, c3, rfl, ho⟩, hb2⟩; have hb3 : Below V.heap.size V w2 := upD hb2; have hb4 := hb3.mono xx; have HO := keepd ho; have HB2 := keepd (HB.out.trans (hb3.mono HB.out.size)); obtain ⟨m0, m1, m2, m3, lt⟩ := line_facts (SR.call H2.out hb3 H2.out.lt); clear hb2 ho))
  all_goals
    go_wp2_with fail
    refine bodyPost_ret (v := .agg #[.slice A3 m c3, .int .i64 (f : Int)]) (by simp [results, Tryd.results88, go_sem, m0, m1]) rfl ?_
    obtain ⟨q1, q2⟩ := gotn_end (z := (f : Int)) HLT.out HO.out HB2.out
    exact ⟨⟨A3, c3, rfl, q1⟩, q2⟩

theorem rdp3 (V : World) (A A' : Option Addr) (n n' c c' : Nat) (l l' : List UInt8) (u : UInt8) (hn : n = l.length) (hn' : n' = l'.length) (h : Rd V V.heap.size A l c) (h' : Rd V V.heap.size A' l' c') :
    RdP ((V.alloc (.cells #[.int .u8 (u.toNat : Int)] 5)).alloc (.cells #[.slice A n c, .slice (some ⟨V.heap.size, 0, none⟩) 1 1, .slice A' n' c'] 28)) (V.heap.size + 1) [⟨A, n, c, l⟩, ⟨some ⟨V.heap.size, 0, none⟩, 1, 1, [u]⟩, ⟨A', n', c', l'⟩] := by
  have hb : Below V.heap.size V ((V.alloc (.cells #[.int .u8 (u.toNat : Int)] 5)).alloc (.cells #[.slice A n c, .slice (some ⟨V.heap.size, 0, none⟩) 1 1, .slice A' n' c'] 28)) := bAlloc (bAlloc (Below.refl _ _) _) _
  refine ⟨?_, fun p hp => ?_⟩
  · have := heap_alloc_new (V.alloc (.cells #[.int .u8 (u.toNat : Int)] 5)) (.cells #[.slice A n c, .slice (some ⟨V.heap.size, 0, none⟩) 1 1, .slice A' n' c'] 28)
    rw [World.size_alloc] at this
    exact this
  · simp only [List.mem_cons, List.not_mem_nil, or_false] at hp
    rcases hp with rfl | rfl | rfl
    · exact ⟨hn, h.at_ hb⟩
    · exact ⟨rfl, (one_rdb V u).alloc (by simp) (by simp) _⟩
    · exact ⟨hn', h'.at_ hb⟩

set_option maxHeartbeats 1000000 in
theorem typed_any (A : Option Addr) (l : List UInt8) (n c t r m : Nat) (u : UInt8) (w : World) (hn : n = l.length) (hr : Rd w w.heap.size A l c) (hl : n ≤ 100000) (ht : t ≤ n) (hrn : r ≤ n) (hm : (l.take t ++ ([u] ++ l.drop r)).length = m) :
    Calls Tryd.prog 85 #[.agg #[.slice A n c, .int .i64 (t : Int)], .int .u8 (u.toNat : Int), .int .i64 (r : Int)] w (GotN w (l.take t ++ ([u] ++ l.drop r)) m ((t : Int) + 1)) := by
  obtain ⟨A2, k, d, hk, hr2, hsl⟩ := tail_of hn hr hrn
  have hc1 : n ≤ c := by rw [hn]; exact hr.1
  have hc2 := hr.2.1
  unfold maxLen at hc2
  have HF : Hid (t = (l.take t).length) := by show _ = _; rw [List.length_take]; omega
  have HK := keepd hk
  have HM := keepd hm
  have HML : Hid ((l.take t ++ ([u] ++ l.drop r)).length ≤ 1000000) := by
    show _ ≤ _
    rw [List.length_append, List.length_append, List.length_take, List.length_drop]
    simp only [List.length_cons, List.length_nil]
    omega
  have HR1 := keepd (hr.take t)
  have HR2 := keepd hr2
  have s0 : (t : Int) ≤ c := by omega
  have s1 : t ≤ c := by omega
  have s2 : (0 : Int) ≤ (t : Int) := by omega
  have s3 : (t : Int) ≤ 100000 := by omega
  have hw : IntKind.i64.wrap ((t : Int) + 1) = (t : Int) + 1 := by rw [IntKind.wrap_i64]; omega
  clear hn hr hr2 hk hm hrn
  go_enter Tryd.func85, Tryd.ntmps85
  go_upto_region 1 with fail
  generalize hV : (w.alloc (.cells #[.slice A n c, .int .i64 (t : Int)] 30)).alloc (.cells #[.slice none 0 0, .int .i64 0] 30) = V
  obtain ⟨H1, H2, HB⟩ := line_new2 _ _ _ _ _ _ hV
  have HS : Hid (V.heap.size = w.heap.size + 2) := by
    show _ = _
    rw [← hV, World.size_alloc, World.size_alloc]
  obtain ⟨k0, k1, k2, k3, kt⟩ := line_facts H1.out
  have K0 := keepd k0
  have K1 := keepd k1
  have xx : w.heap.size + 1 ≤ V.heap.size := by rw [HS.out]; omega
  have C := concat_any (V.heap.size + 1) 3 _ (l.take t ++ ([u] ++ l.drop r)) _ (rdp3 V A A2 t k c d _ _ u HF.out HK.out (HR1.out.at_ HB.out) (HR2.out.at_ HB.out)).drew rfl (by omega) (by simp [flat]) HML.out
  rw [show (l.take t ++ ([u] ++ l.drop r)).length = m from HM.out] at C
  replace C := keepd C
  have HLT : Hid (w.heap.size + 1 < ((V.alloc (.cells #[.int .u8 (u.toNat : Int)] 5)).alloc (.cells #[.slice A t c, .slice (some ⟨V.heap.size, 0, none⟩) 1 1, .slice A2 k d] 28)).drew.heap.size) := by
    show _ < ((V.alloc _).alloc _).heap.size
    rw [World.size_alloc, World.size_alloc, HS.out]
    omega
  clear hV
  go_region_held3 (fun W => W.cell? ⟨w.heap.size, 0, none⟩ = some (.slice A n c) ∧ W.cell? ⟨w.heap.size, 1, none⟩ = some (.int .i64 (t : Int)) ∧ Below (w.heap.size + 1) V W)
    ((refine sL K0.out K1.out ?_; repeat (first | assumption | exact Below.refl _ _ | with_reducible refine Below.setCell ?_ (Nat.le_refl (w.heap.size + 1)) _ | with_reducible refine bAl xx ?_ _ | with_reducible refine Below.drew ?_)))
    (first | (go_at_call 53; (with_reducible refine C.out.mono ?_); rintro e w2 ⟨⟨A3, c3, rfl, ho⟩, hb2⟩; have hb3 : Below V.heap.size V w2 := upD2 hb2; have hb4 := hb3.mono xx; have HO := keepd ho; have HB2 := keepd (HB.out.trans (hb3.mono HB.out.size)); obtain ⟨m0, m1, m2, m3, lt⟩ := line_facts (SR.call H2.out hb3 H2.out.lt); clear hb2 ho))
  all_goals
    go_wp2_with fail
    refine bodyPost_ret (v := .agg #[.slice A3 m c3, .int .i64 ((t : Int) + 1)]) (by simp [results, Tryd.results85, go_sem, m0, m1]) rfl ?_
    obtain ⟨q1, q2⟩ := gotn_end (z := ((t : Int) + 1)) HLT.out HO.out HB2.out
    exact ⟨⟨A3, c3, rfl, q1⟩, q2⟩

end Go.Proofs.YtlfmbfecajhffaaDoor
/-
  A map of functions: made, written at new keys, looked up. No conditions beyond those each theorem states.
-/
namespace Go.Proofs.YtlfmbfecajhffaaDoor
open Go.RowKit
set_option maxRecDepth 100000

/-- The entries of a map that was written at the keys of l, one behind the other. -/
def entL : Nat → List (Int × Value) → List MapEntry
  | _, [] => []
  | i, p :: r => ⟨.int .i64 p.1, p.2, i⟩ :: entL (i + 1) r
def mapO (l : List (Int × Value)) : Obj := .map (entL 0 l).toArray l.length
def look (l : List (Int × Value)) (k : Int) : Option Value := (l.find? (fun p => p.1 == k)).map (·.2)

theorem entL_snoc (p : Int × Value) : ∀ (l : List (Int × Value)) (i : Nat), entL i (l ++ [p]) = entL i l ++ [⟨.int .i64 p.1, p.2, i + l.length⟩]
  | [], i => rfl
  | q :: r, i => by
    rw [List.cons_append, entL, entL, entL_snoc p r (i + 1), List.cons_append, List.length_cons, Nat.add_assoc, Nat.add_comm 1]

theorem findNow_look (k : Int) : ∀ (l : List (Int × Value)) (i j : Nat), ∃ o, Instr.findNow (.int .i64) (.int .i64 k) (entL i l) j = some o ∧ o.map (·.2) = look l k
  | [], _, _ => ⟨none, rfl, rfl⟩
  | p :: r, i, j => by
    cases hq : (p.1 == k)
    · obtain ⟨o, h1, h2⟩ := findNow_look k r (i + 1) (j + 1)
      have hq2 : (k == p.1) = false := by
        simp only [beq_eq_false_iff_ne, ne_eq] at hq ⊢
        exact fun e => hq e.symm
      refine ⟨o, ?_, ?_⟩
      · simp only [entL, Instr.findNow, Instr.sameNow, if_true, hq2]
        exact h1
      · rw [h2]
        simp [look, hq]
    · have hq2 : (k == p.1) = true := by
        simp only [beq_iff_eq] at hq ⊢
        exact hq.symm
      refine ⟨some (j, p.2), ?_, ?_⟩
      · simp only [entL, Instr.findNow, Instr.sameNow, if_true, hq2]
      · simp [look, hq]

theorem heap_mapO {W : World} {l : List (Int × Value)} : (W.alloc (mapO l)).heap[W.heap.size]? = some (.map (entL 0 l).toArray l.length) := heap_alloc_new W _

theorem und47 : Tryd.prog.underlying 119 = some (.map 3 117) := by kernel_rfl
theorem set_new (W : World) (o o' : Obj) : { (W.alloc o) with heap := (W.alloc o).heap.setIfInBounds W.heap.size o' } = W.alloc o' := by
  have e : (W.heap.push o).setIfInBounds W.heap.size o' = W.heap.push o' := by
    apply Array.ext'
    simp [Array.toList_setIfInBounds]
  unfold World.alloc
  rw [e]

theorem run_new (w : World) : (Instr.makeMap 119 none).run Tryd.prog w = .ok (.map (some w.heap.size)) (w.alloc (mapO [])) := rfl

theorem run_ck (em : Bool) (n : Nat) (k : Int) (w : World) : (Instr.checkKey em (n + 1) 3 (.int .i64 k)).run Tryd.prog w = .ok () w := by
  unfold Instr.checkKey
  simp only [Sem.run_bind, run_underlying Tryd.underlying3, Result.andThen]
  rfl

theorem run_ins (W : World) (l : List (Int × Value)) (k : Int) (v : Value) (h : look l k = none) :
    (Instr.mapUpdate 119 (.map (some W.heap.size)) (.int .i64 k) v).run Tryd.prog (W.alloc (mapO l)) = .ok () (W.alloc (mapO (l ++ [(k, v)]))) := by
  obtain ⟨o, h1, h2⟩ := findNow_look k l 0 0
  rw [h] at h2
  have ho : o = none := by cases o <;> simp_all
  subst ho
  have hs := MapKept.run_setObj_map (P := Tryd.prog) (.map ((entL 0 l).toArray.push ⟨.int .i64 k, v, l.length⟩) (l.length + 1)) (heap_mapO (W := W) (l := l))
  rw [set_new] at hs
  have e : mapO (l ++ [(k, v)]) = .map ((entL 0 l).toArray.push ⟨.int .i64 k, v, l.length⟩) (l.length + 1) := by
    unfold mapO
    rw [entL_snoc]
    simp
  rw [e, ← hs]
  simp [Instr.mapUpdate, run_underlying und47, MapKept.run_getObj_map heap_mapO, run_ck, Instr.findKey, run_underlying Tryd.underlying3, h1, Result.andThen]

theorem info45 : (Tryd.prog.info? 117).map (·.zero) = some (some .nilFunc) := by kernel_rfl
theorem zero45 (w : World) : (zeroValue 117).run Tryd.prog w = .ok .nilFunc w := by
  have h := info45
  cases hq : Tryd.prog.info? 117 with
  | none => rw [hq] at h; cases h
  | some i =>
    rw [hq] at h
    simp only [Option.map_some, Option.some.injEq] at h
    simp [zeroValue, typeInfo, hq, h]

/-- 'f, ok := m[k]'. -/
theorem run_look (W : World) (b : Nat) (l : List (Int × Value)) (k : Int) (hb : W.heap[b]? = some (mapO l)) :
    (Instr.lookup 119 (.map (some b)) (.int .i64 k) true).run Tryd.prog W = .ok (.tuple #[(look l k).getD .nilFunc, .bool (look l k).isSome]) W := by
  obtain ⟨o, h1, h2⟩ := findNow_look k l 0 0
  rw [← h2]
  unfold mapO at hb
  cases o with
  | none => simp [Instr.lookup, run_underlying und47, MapKept.run_getObj_map hb, run_ck, Instr.findKey, run_underlying Tryd.underlying3, h1, Result.andThen]
  | some o => simp [Instr.lookup, run_underlying und47, MapKept.run_getObj_map hb, run_ck, Instr.findKey, run_underlying Tryd.underlying3, h1, Result.andThen]

end Go.Proofs.YtlfmbfecajhffaaDoor
