/-
  Two sides, on numbers and lists: all that they can come to, how much they have said, and how soon they rest.
-/
import Derived.Test.YtlgcfpdmklieiaaDoorV4
namespace Go.Proofs.YtlgcfpdmklieiaaDoor
open Go.RowKit

/-- What is said, as it is under way; how much that is. -/
def sayB (s : Int) : List Bool := if s = 0 then [] else [s == 1]
def sayN (s : Int) : Nat := if s = 0 then 0 else 1

/-- Two sides: whether it may be on each, where each has it, what is under way to each. -/
abbrev Sides := Bool × Bool × Int × Int × List Bool × List Bool

/-- All that they can come to; by how much less than twice as much as was asked has been said then; and how many things come until they rest. -/
def tbl : List (Sides × Nat × Nat) := [
  ((false, false, 0, 0, [], []), 0, 0),
  ((false, true, 0, 0, [], []), 0, 0),
  ((false, true, 0, 4, [], [false]), 0, 1),
  ((false, true, 0, 4, [true], []), 1, 2),
  ((false, true, 0, 5, [], [false]), 2, 1),
  ((false, true, 0, 5, [true], []), 3, 2),
  ((true, false, 0, 0, [], []), 0, 0),
  ((true, false, 4, 0, [], [true]), 1, 2),
  ((true, false, 4, 0, [false], []), 0, 1),
  ((true, false, 5, 0, [], [true]), 3, 2),
  ((true, false, 5, 0, [false], []), 2, 1),
  ((true, true, 0, 0, [], []), 0, 0),
  ((true, true, 0, 2, [], [false]), 0, 1),
  ((true, true, 0, 3, [], [false]), 2, 3),
  ((true, true, 0, 4, [true], []), 1, 2),
  ((true, true, 0, 5, [true], []), 3, 4),
  ((true, true, 1, 1, [], []), 0, 0),
  ((true, true, 1, 2, [false], []), 1, 2),
  ((true, true, 1, 3, [false], []), 3, 4),
  ((true, true, 1, 4, [], [true]), 0, 1),
  ((true, true, 1, 5, [], [true]), 2, 3),
  ((true, true, 2, 0, [false], []), 0, 1),
  ((true, true, 2, 1, [], [false]), 1, 2),
  ((true, true, 2, 2, [false], [false]), 2, 2),
  ((true, true, 2, 3, [false], [false]), 4, 4),
  ((true, true, 2, 4, [], [true, false]), 1, 3),
  ((true, true, 2, 4, [false, true], []), 1, 3),
  ((true, true, 2, 5, [], [true, false]), 3, 3),
  ((true, true, 2, 5, [false, true], []), 3, 5),
  ((true, true, 3, 0, [false], []), 2, 3),
  ((true, true, 3, 1, [], [false]), 3, 4),
  ((true, true, 3, 2, [false], [false]), 4, 4),
  ((true, true, 3, 3, [false], [false]), 6, 4),
  ((true, true, 3, 4, [], [true, false]), 3, 5),
  ((true, true, 3, 4, [false, true], []), 3, 3),
  ((true, true, 3, 5, [], [true, false]), 5, 5),
  ((true, true, 3, 5, [false, true], []), 5, 5),
  ((true, true, 4, 0, [], [true]), 1, 2),
  ((true, true, 4, 1, [true], []), 0, 1),
  ((true, true, 4, 2, [], [false, true]), 1, 3),
  ((true, true, 4, 2, [true, false], []), 1, 3),
  ((true, true, 4, 3, [], [false, true]), 3, 3),
  ((true, true, 4, 3, [true, false], []), 3, 5),
  ((true, true, 4, 4, [true], [true]), 2, 2),
  ((true, true, 4, 5, [true], [true]), 4, 4),
  ((true, true, 5, 0, [], [true]), 3, 4),
  ((true, true, 5, 1, [true], []), 2, 3),
  ((true, true, 5, 2, [], [false, true]), 3, 5),
  ((true, true, 5, 2, [true, false], []), 3, 3),
  ((true, true, 5, 3, [], [false, true]), 5, 5),
  ((true, true, 5, 3, [true, false], []), 5, 5),
  ((true, true, 5, 4, [true], [true]), 4, 4),
  ((true, true, 5, 5, [true], [true]), 6, 4)]

def findT (s : Sides) : Option (Nat × Nat) := (tbl.find? fun t => t.1 == s).map (·.2)

/-- They are there, and have said so much. -/
def Meet (a b : Bool) (x0 x1 : Int) (l0 l1 : List Bool) (said asked rk : Nat) : Prop := ∃ d, findT (a, b, x0, x1, l0, l1) = some (d, rk) ∧ said + d ≤ 2 * asked

/-- What holds of each line of the table. -/
def okRow : Sides × Nat × Nat → Bool
  | ((a, b, x0, x1, l0, l1), d, rk) =>
    decide (0 ≤ x0 ∧ x0 ≤ 5 ∧ 0 ≤ x1 ∧ x1 ≤ 5 ∧ l0.length ≤ 2 ∧ l1.length ≤ 2 ∧ rk ≤ 5) &&
    (match l0 with
      | [] => true
      | y :: r => let z := gF x0 y a; z.2.2 == 0 && (match findT (a, b, z.1, x1, r, l1 ++ sayB z.2.1) with
        | some (d', rk') => decide (sayN z.2.1 + d' ≤ d ∧ rk' + 1 = rk)
        | none => false)) &&
    (match l1 with
      | [] => true
      | y :: r => let z := gF x1 y b; z.2.2 == 0 && (match findT (a, b, x0, z.1, l0 ++ sayB z.2.1, r) with
        | some (d', rk') => decide (sayN z.2.1 + d' ≤ d ∧ (l0 = [] → rk' + 1 = rk))
        | none => false)) &&
    ([true, false].all fun on => (!a && on) || (let z := aF x0 on; (z.2.2 == 0 || z.2.2 == 5 && z.2.1 == 0) && (match findT (a, b, z.1, x1, l0, l1 ++ sayB z.2.1) with
        | some (d', _) => decide (sayN z.2.1 + d' ≤ d + (if z.2.2 = 0 then 2 else 0))
        | none => false))) &&
    ([true, false].all fun on => (!b && on) || (let z := aF x1 on; (z.2.2 == 0 || z.2.2 == 5 && z.2.1 == 0) && (match findT (a, b, x0, z.1, l0 ++ sayB z.2.1, l1) with
        | some (d', _) => decide (sayN z.2.1 + d' ≤ d + (if z.2.2 = 0 then 2 else 0))
        | none => false))) &&
    decide (l0 = [] → l1 = [] → x0 = x1 ∧ (x0 = 0 ∨ x0 = 1 ∧ a = true ∧ b = true))

theorem tbl_ok : tbl.all okRow = true := by decide +kernel

theorem findT_mem {s : Sides} {d rk : Nat} (h : findT s = some (d, rk)) : (s, d, rk) ∈ tbl := by
  unfold findT at h
  rw [Option.map_eq_some_iff] at h
  obtain ⟨⟨s', d', rk'⟩, hf, e⟩ := h
  have hp := List.find?_some hf
  have hm := List.mem_of_find?_eq_some hf
  simp only [beq_iff_eq] at hp
  simp only [Prod.mk.injEq] at e
  obtain ⟨rfl, rfl⟩ := e
  rw [← hp]
  exact hm

theorem row_ok {s : Sides} {d rk : Nat} (h : findT s = some (d, rk)) : okRow (s, d, rk) = true := List.all_eq_true.1 tbl_ok _ (findT_mem h)

section
variable {a b : Bool} {x0 x1 : Int} {l0 l1 : List Bool} {said asked rk : Nat}

theorem Meet.start (a b : Bool) : ∃ rk, Meet a b 0 0 [] [] 0 0 rk := by
  cases a <;> cases b <;> exact ⟨0, 0, by decide +kernel, by omega⟩

theorem Meet.bounds (h : Meet a b x0 x1 l0 l1 said asked rk) : 0 ≤ x0 ∧ x0 ≤ 5 ∧ 0 ≤ x1 ∧ x1 ≤ 5 ∧ l0.length ≤ 2 ∧ l1.length ≤ 2 ∧ rk ≤ 5 := by
  obtain ⟨d, hf, _⟩ := h
  have := row_ok hf
  simp only [okRow, Bool.and_eq_true, decide_eq_true_eq] at this
  exact this.1.1.1.1.1

theorem Meet.said_le (h : Meet a b x0 x1 l0 l1 said asked rk) : said ≤ 2 * asked := by
  obtain ⟨d, _, hd⟩ := h
  omega

theorem Meet.rest (h : Meet a b x0 x1 [] [] said asked rk) : x0 = x1 ∧ (x0 = 0 ∨ x0 = 1 ∧ a = true ∧ b = true) := by
  obtain ⟨d, hf, _⟩ := h
  have := row_ok hf
  simp only [okRow, Bool.and_eq_true, decide_eq_true_eq] at this
  exact this.2 trivial trivial

theorem Meet.come0 {y : Bool} (h : Meet a b x0 x1 (y :: l0) l1 said asked rk) {z s e : Int} (hz : gF x0 y a = (z, s, e)) :
    e = 0 ∧ ∃ rk', rk' + 1 = rk ∧ Meet a b z x1 l0 (l1 ++ sayB s) (said + sayN s) asked rk' := by
  obtain ⟨d, hf, hd⟩ := h
  have := row_ok hf
  simp only [okRow, Bool.and_eq_true, hz, beq_iff_eq] at this
  obtain ⟨⟨⟨⟨⟨_, h1, h2⟩, _⟩, _⟩, _⟩, _⟩ := this
  split at h2
  · rename_i d' rk' hf'
    simp only [decide_eq_true_eq] at h2
    exact ⟨h1, rk', h2.2, d', hf', by omega⟩
  · cases h2

theorem Meet.come1 {y : Bool} (h : Meet a b x0 x1 l0 (y :: l1) said asked rk) {z s e : Int} (hz : gF x1 y b = (z, s, e)) :
    e = 0 ∧ ∃ rk', (l0 = [] → rk' + 1 = rk) ∧ Meet a b x0 z (l0 ++ sayB s) l1 (said + sayN s) asked rk' := by
  obtain ⟨d, hf, hd⟩ := h
  have := row_ok hf
  simp only [okRow, Bool.and_eq_true, hz, beq_iff_eq] at this
  obtain ⟨⟨⟨⟨_, h1, h2⟩, _⟩, _⟩, _⟩ := this
  split at h2
  · rename_i d' rk' hf'
    simp only [decide_eq_true_eq] at h2
    exact ⟨h1, rk', h2.2, d', hf', by omega⟩
  · cases h2

theorem Meet.ask0 {on : Bool} (h : Meet a b x0 x1 l0 l1 said asked rk) (ho : a = true ∨ on = false) {z s e : Int} (hz : aF x0 on = (z, s, e)) :
    (e = 0 ∨ e = 5 ∧ s = 0) ∧ ∃ rk', Meet a b z x1 l0 (l1 ++ sayB s) (said + sayN s) (asked + if e = 0 then 1 else 0) rk' := by
  obtain ⟨d, hf, hd⟩ := h
  have := row_ok hf
  simp only [okRow, Bool.and_eq_true] at this
  obtain ⟨⟨⟨_, h1⟩, _⟩, _⟩ := this
  have h2 := List.all_eq_true.1 h1 on (by cases on <;> simp)
  have h3 : (!a && on) = false := by rcases ho with rfl | rfl <;> simp
  simp only [h3, Bool.false_or, hz, Bool.and_eq_true, Bool.or_eq_true, beq_iff_eq] at h2
  obtain ⟨h4, h5⟩ := h2
  refine ⟨h4, ?_⟩
  split at h5
  · rename_i d' rk' hf'
    simp only [decide_eq_true_eq] at h5
    refine ⟨rk', d', hf', ?_⟩
    split
    · rename_i he; rw [if_pos he] at h5; omega
    · rename_i he; rw [if_neg he] at h5; omega
  · cases h5

theorem Meet.ask1 {on : Bool} (h : Meet a b x0 x1 l0 l1 said asked rk) (ho : b = true ∨ on = false) {z s e : Int} (hz : aF x1 on = (z, s, e)) :
    (e = 0 ∨ e = 5 ∧ s = 0) ∧ ∃ rk', Meet a b x0 z (l0 ++ sayB s) l1 (said + sayN s) (asked + if e = 0 then 1 else 0) rk' := by
  obtain ⟨d, hf, hd⟩ := h
  have := row_ok hf
  simp only [okRow, Bool.and_eq_true] at this
  obtain ⟨⟨_, h1⟩, _⟩ := this
  have h2 := List.all_eq_true.1 h1 on (by cases on <;> simp)
  have h3 : (!b && on) = false := by rcases ho with rfl | rfl <;> simp
  simp only [h3, Bool.false_or, hz, Bool.and_eq_true, Bool.or_eq_true, beq_iff_eq] at h2
  obtain ⟨h4, h5⟩ := h2
  refine ⟨h4, ?_⟩
  split at h5
  · rename_i d' rk' hf'
    simp only [decide_eq_true_eq] at h5
    refine ⟨rk', d', hf', ?_⟩
    split
    · rename_i he; rw [if_pos he] at h5; omega
    · rename_i he; rw [if_neg he] at h5; omega
  · cases h5
end

end Go.Proofs.YtlgcfpdmklieiaaDoor
