/-
  Lines as lists: words, what a function does, what a key does. No walks.
-/
import Derived.Test.YtecihodifgjkoaaDoorWords
namespace Go.Proofs.YtecihodifgjkoaaDoor
open Go.RowKit
set_option maxRecDepth 100000

/-- Is it a blank? -/
def isB (c : UInt8) : Bool := c == 32 || c == 9
/-- Back while p holds of what stands ahead. -/
def bk (p : UInt8 → Bool) (l : List UInt8) : Nat → Nat
  | 0 => 0
  | t + 1 => if p (l.getD t 0) then bk p l t else t + 1
/-- On while p holds. -/
def fw (p : UInt8 → Bool) (l : List UInt8) (t : Nat) : Nat := t + ((l.drop t).takeWhile p).length
def notB (c : UInt8) : Bool := !isB c
/-- A word back, a word on. -/
def backL (l : List UInt8) (t : Nat) : Nat := bk notB l (bk isB l t)
def onL (l : List UInt8) (t : Nat) : Nat := fw isB l (fw notB l t)

theorem getD_at {l : List UInt8} {k : Nat} (h : k < l.length) : l.getD k 0 = l[k] := by simp [List.getD_eq_getElem?_getD, h]

theorem bk_le (p : UInt8 → Bool) (l : List UInt8) : ∀ t, bk p l t ≤ t
  | 0 => Nat.le_refl _
  | t + 1 => by
    unfold bk
    split
    · exact Nat.le_succ_of_le (bk_le p l t)
    · exact Nat.le_refl _
theorem bk_go {p : UInt8 → Bool} {l : List UInt8} {t : Nat} (h : t < l.length) (hp : p l[t] = true) : bk p l (t + 1) = bk p l t := by
  rw [bk, getD_at h, if_pos hp]
theorem bk_stop {p : UInt8 → Bool} {l : List UInt8} {t : Nat} (h : t < l.length) (hp : p l[t] = false) : bk p l (t + 1) = t + 1 := by
  rw [bk, getD_at h, if_neg (by rw [hp]; decide)]
/-- Where it stopped: at the beginning, or behind what p does not hold of; and if it went at all p holds there. -/
theorem bk_spec (p : UInt8 → Bool) (l : List UInt8) : ∀ t, (bk p l t = 0 ∨ p (l.getD (bk p l t - 1) 0) = false) ∧ (bk p l t = t ∨ p (l.getD (bk p l t) 0) = true)
  | 0 => ⟨.inl rfl, .inl rfl⟩
  | t + 1 => by
    unfold bk
    split
    · rename_i h
      obtain ⟨h1, h2⟩ := bk_spec p l t
      refine ⟨h1, .inr ?_⟩
      rcases h2 with h2 | h2
      · rw [h2]; exact h
      · exact h2
    · rename_i h
      exact ⟨.inr (by simpa using h), .inl rfl⟩

theorem fw_ge (p : UInt8 → Bool) (l : List UInt8) (t : Nat) : t ≤ fw p l t := Nat.le_add_right _ _
theorem fw_le (p : UInt8 → Bool) (l : List UInt8) {t : Nat} (h : t ≤ l.length) : fw p l t ≤ l.length := by
  unfold fw
  have := (List.takeWhile_prefix p (l := l.drop t)).length_le
  rw [List.length_drop] at this
  omega
theorem fw_end (p : UInt8 → Bool) (l : List UInt8) : fw p l l.length = l.length := by simp [fw]
theorem fw_go {p : UInt8 → Bool} {l : List UInt8} {t : Nat} (h : t < l.length) (hp : p l[t] = true) : fw p l (t + 1) = fw p l t := by
  unfold fw
  rw [List.drop_eq_getElem_cons h, List.takeWhile_cons, if_pos hp, List.length_cons]
  omega
theorem fw_stop {p : UInt8 → Bool} {l : List UInt8} {t : Nat} (h : t < l.length) (hp : p l[t] = false) : fw p l t = t := by
  unfold fw
  rw [List.drop_eq_getElem_cons h, List.takeWhile_cons, if_neg (by rw [hp]; decide)]
  rfl
theorem fw_spec (p : UInt8 → Bool) (l : List UInt8) : ∀ d t, l.length - t = d → t ≤ l.length → (fw p l t = l.length ∨ p (l.getD (fw p l t) 0) = false) ∧ (fw p l t = t ∨ p (l.getD (fw p l t - 1) 0) = true)
  | 0, t, hd, ht => by
    obtain rfl : t = l.length := by omega
    rw [fw_end]
    exact ⟨.inl rfl, .inl rfl⟩
  | d + 1, t, hd, ht => by
    have h : t < l.length := by omega
    cases hp : p l[t]
    · rw [fw_stop h hp]
      exact ⟨.inr (by rw [getD_at h]; exact hp), .inl rfl⟩
    · obtain ⟨h1, h2⟩ := fw_spec p l d (t + 1) (by omega) (by omega)
      rw [fw_go h hp] at h1 h2
      refine ⟨h1, .inr ?_⟩
      rcases h2 with h2 | h2
      · rw [h2, Nat.add_sub_cancel, getD_at h]; exact hp
      · exact h2

theorem back_le (l : List UInt8) (t : Nat) : backL l t ≤ t := Nat.le_trans (bk_le _ _ _) (bk_le _ _ _)
theorem on_ge (l : List UInt8) (t : Nat) : t ≤ onL l t := Nat.le_trans (fw_ge _ _ _) (fw_ge _ _ _)
theorem on_le (l : List UInt8) {t : Nat} (h : t ≤ l.length) : onL l t ≤ l.length := fw_le _ _ (fw_le _ _ h)
theorem notB_t {c : UInt8} (h : notB c = true) : isB c = false := by simpa [notB] using h
theorem notB_f {c : UInt8} (h : notB c = false) : isB c = true := by simpa [notB] using h
/-- A word back begins the line, or stands behind a blank; and is no blank, where one went. -/
theorem back_spec (l : List UInt8) (t : Nat) : (backL l t = 0 ∨ isB (l.getD (backL l t - 1) 0) = true) ∧ (t = 0 ∨ (backL l t < t ∧ (backL l t = 0 ∨ isB (l.getD (backL l t) 0) = false))) := by
  obtain ⟨a1, a2⟩ := bk_spec isB l t
  obtain ⟨b1, b2⟩ := bk_spec notB l (bk isB l t)
  have l1 := bk_le isB l t
  have l2 := bk_le notB l (bk isB l t)
  refine ⟨b1.imp id notB_f, ?_⟩
  rcases Nat.eq_zero_or_pos t with h0 | h0
  · exact .inl h0
  · refine .inr ?_
    show bk notB l (bk isB l t) < t ∧ _
    rcases b2 with b2 | b2
    · rcases b1 with b1 | b1
      · exact ⟨by omega, .inl b1⟩
      · rcases a1 with a1 | a1
        · exact ⟨by omega, .inl (by unfold backL; omega)⟩
        · rw [b2] at b1
          rw [notB_f b1] at a1
          cases a1
    · refine ⟨?_, .inr (notB_t b2)⟩
      rcases Nat.lt_or_ge (bk notB l (bk isB l t)) t with h | h
      · exact h
      · exfalso
        have e1 : bk isB l t = t := by omega
        have e2 : bk notB l t = t := by rw [e1] at h l2; omega
        rcases a1 with a1 | a1
        · omega
        · have := bk_spec notB l t
          rw [e2] at this
          rw [e1] at a1
          rcases this.1 with h3 | h3
          · omega
          · rw [notB_f h3] at a1; cases a1
theorem on_spec (l : List UInt8) {t : Nat} (ht : t ≤ l.length) : (onL l t = l.length ∨ (t < onL l t ∧ isB (l.getD (onL l t) 0) = false ∧ isB (l.getD (onL l t - 1) 0) = true)) ∧ (t < l.length → t < onL l t) := by
  rcases Nat.lt_or_ge t l.length with hlt | hge
  case inr =>
    obtain rfl : t = l.length := by omega
    refine ⟨.inl ?_, fun h => absurd h (Nat.lt_irrefl _)⟩
    unfold onL
    rw [fw_end, fw_end]
  obtain ⟨a1, a2⟩ := fw_spec notB l _ t rfl ht
  have l1 := fw_ge notB l t
  have l3 := fw_le notB l ht
  obtain ⟨b1, b2⟩ := fw_spec isB l _ (fw notB l t) rfl l3
  have l2 := fw_ge isB l (fw notB l t)
  have key : onL l t = l.length ∨ (t < onL l t ∧ isB (l.getD (onL l t) 0) = false ∧ isB (l.getD (onL l t - 1) 0) = true) := by
    show fw isB l (fw notB l t) = _ ∨ (_ < fw isB l (fw notB l t) ∧ isB (l.getD (fw isB l (fw notB l t)) 0) = false ∧ isB (l.getD (fw isB l (fw notB l t) - 1) 0) = true)
    rcases b1 with b1 | b1
    · exact .inl b1
    · rcases b2 with b2 | b2
      · rcases a1 with a1 | a1
        · exact .inl (by rw [b2]; exact a1)
        · rw [b2] at b1
          rw [notB_f a1] at b1
          cases b1
      · refine .inr ⟨?_, b1, b2⟩
        rcases Nat.lt_or_ge t (fw isB l (fw notB l t)) with h | h
        · exact h
        · exfalso
          have e1 : fw notB l t = t := by omega
          have e2 : fw isB l (fw notB l t) = t := by omega
          rcases a1 with a1 | a1
          · omega
          · rw [e1] at a1
            rw [e2] at b1
            rw [notB_f a1] at b1
            cases b1
  refine ⟨key, fun h => ?_⟩
  rcases key with k | k
  · omega
  · exact k.1

/-- What a function does; none of another one. -/
def doL (l : List UInt8) (t : Nat) (f : Int) : Option (List UInt8 × Nat) :=
  if f = 10 then some (l.take (t - 1) ++ l.drop t, t - 1)
  else if f = 27 then some (l.take t ++ l.drop (min (t + 1) l.length), t)
  else if f = 12 then some (l.take (backL l t) ++ l.drop t, backL l t)
  else if f = 28 then some (l.take t ++ l.drop (onL l t), t)
  else if f = 29 then some (l.drop t, 0)
  else if f = 30 then some (l.take t, t)
  else if f = 11 then some ([], 0)
  else if f = 19 then some (l, t - 1)
  else if f = 20 then some (l, min (t + 1) l.length)
  else if f = 21 then some (l, backL l t)
  else if f = 22 then some (l, onL l t)
  else if f = 23 then some (l, 0)
  else if f = 24 then some (l, l.length)
  else none

/-- What a key does; none if there is no room. -/
def tyL (l : List UInt8) (t : Nat) (room : Int) (over : Bool) (c : UInt8) : Option (List UInt8 × Nat) :=
  if (over && decide (t < l.length)) = true then some (l.take t ++ ([c] ++ l.drop (t + 1)), t + 1)
  else if min room 4096 ≤ (l.length : Int) then none
  else some (l.take t ++ ([c] ++ l.drop t), t + 1)

theorem do_spec {l m : List UInt8} {t s : Nat} {f : Int} (ht : t ≤ l.length) (h : doL l t f = some (m, s)) : s ≤ m.length ∧ m.length ≤ l.length := by
  have h1 := back_le l t
  have h2 := on_ge l t
  have h3 := on_le l ht
  unfold doL at h
  by_cases h9 : f = 10
  · rw [if_pos h9] at h
    simp only [Option.some.injEq, Prod.mk.injEq] at h
    obtain ⟨rfl, rfl⟩ := h
    clear h9
    simp only [List.length_append, List.length_take, List.length_drop]
    omega
  rw [if_neg h9] at h
  clear h9
  by_cases h9 : f = 27
  · rw [if_pos h9] at h
    simp only [Option.some.injEq, Prod.mk.injEq] at h
    obtain ⟨rfl, rfl⟩ := h
    clear h9
    simp only [List.length_append, List.length_take, List.length_drop]
    omega
  rw [if_neg h9] at h
  clear h9
  by_cases h9 : f = 12
  · rw [if_pos h9] at h
    simp only [Option.some.injEq, Prod.mk.injEq] at h
    obtain ⟨rfl, rfl⟩ := h
    clear h9
    simp only [List.length_append, List.length_take, List.length_drop]
    omega
  rw [if_neg h9] at h
  clear h9
  by_cases h9 : f = 28
  · rw [if_pos h9] at h
    simp only [Option.some.injEq, Prod.mk.injEq] at h
    obtain ⟨rfl, rfl⟩ := h
    clear h9
    simp only [List.length_append, List.length_take, List.length_drop]
    omega
  rw [if_neg h9] at h
  clear h9
  by_cases h9 : f = 29
  · rw [if_pos h9] at h
    simp only [Option.some.injEq, Prod.mk.injEq] at h
    obtain ⟨rfl, rfl⟩ := h
    clear h9
    simp only [List.length_drop]
    omega
  rw [if_neg h9] at h
  clear h9
  by_cases h9 : f = 30
  · rw [if_pos h9] at h
    simp only [Option.some.injEq, Prod.mk.injEq] at h
    obtain ⟨rfl, rfl⟩ := h
    clear h9
    simp only [List.length_take]
    omega
  rw [if_neg h9] at h
  clear h9
  by_cases h9 : f = 11
  · rw [if_pos h9] at h
    simp only [Option.some.injEq, Prod.mk.injEq] at h
    obtain ⟨rfl, rfl⟩ := h
    clear h9
    simp only [List.length_nil]
    omega
  rw [if_neg h9] at h
  clear h9
  by_cases h9 : f = 19
  · rw [if_pos h9] at h
    simp only [Option.some.injEq, Prod.mk.injEq] at h
    obtain ⟨rfl, rfl⟩ := h
    clear h9
    omega
  rw [if_neg h9] at h
  clear h9
  by_cases h9 : f = 20
  · rw [if_pos h9] at h
    simp only [Option.some.injEq, Prod.mk.injEq] at h
    obtain ⟨rfl, rfl⟩ := h
    clear h9
    omega
  rw [if_neg h9] at h
  clear h9
  by_cases h9 : f = 21
  · rw [if_pos h9] at h
    simp only [Option.some.injEq, Prod.mk.injEq] at h
    obtain ⟨rfl, rfl⟩ := h
    clear h9
    omega
  rw [if_neg h9] at h
  clear h9
  by_cases h9 : f = 22
  · rw [if_pos h9] at h
    simp only [Option.some.injEq, Prod.mk.injEq] at h
    obtain ⟨rfl, rfl⟩ := h
    clear h9
    omega
  rw [if_neg h9] at h
  clear h9
  by_cases h9 : f = 23
  · rw [if_pos h9] at h
    simp only [Option.some.injEq, Prod.mk.injEq] at h
    obtain ⟨rfl, rfl⟩ := h
    clear h9
    omega
  rw [if_neg h9] at h
  clear h9
  by_cases h9 : f = 24
  · rw [if_pos h9] at h
    simp only [Option.some.injEq, Prod.mk.injEq] at h
    obtain ⟨rfl, rfl⟩ := h
    clear h9
    omega
  rw [if_neg h9] at h
  clear h9
  cases h
theorem ty_spec {l m : List UInt8} {t s : Nat} {room : Int} {over : Bool} {c : UInt8} (ht : t ≤ l.length) (h : tyL l t room over c = some (m, s)) :
    s = t + 1 ∧ s ≤ m.length ∧ (m.length = l.length ∨ (m.length = l.length + 1 ∧ (m.length : Int) ≤ room ∧ m.length ≤ 4096)) := by
  unfold tyL at h
  split at h
  · rename_i h0
    simp only [Bool.and_eq_true, decide_eq_true_eq] at h0
    simp only [Option.some.injEq, Prod.mk.injEq] at h
    obtain ⟨rfl, rfl⟩ := h
    have h1 := h0.2
    have e : (l.take t ++ ([c] ++ l.drop (t + 1))).length = l.length := by simp; omega
    rw [e]
    exact ⟨rfl, h1, .inl rfl⟩
  · split at h
    · cases h
    · rename_i h1
      simp only [Option.some.injEq, Prod.mk.injEq] at h
      obtain ⟨rfl, rfl⟩ := h
      have e : (l.take t ++ ([c] ++ l.drop t)).length = l.length + 1 := by simp; omega
      rw [e]
      exact ⟨rfl, by omega, .inr ⟨rfl, by omega, by omega⟩⟩

end Go.Proofs.YtecihodifgjkoaaDoor
