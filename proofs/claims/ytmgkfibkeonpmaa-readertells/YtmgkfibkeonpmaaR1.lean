/-
  Layer 4 on lists: items and readers without their memory, what one octet does, what octets do; theorems on these. No conditions beyond those each theorem states.
-/
import Derived.Test.YtmgkfibkeonpmaaJ2
import Derived.Test.YtmgkfibkeonpmaaI5
import Derived.Test.YtmgkfibkeonpmaaT8
namespace Go.Proofs.Ytmgkfibkeonpmaa
open Go.RowKit

/-- An item, or a reader, without the slice that holds its octets. -/
structure Abs where
  k : Int
  a : Int
  b : Int
  l : List UInt8

instance : DecidableEq Abs := fun x y =>
  if h : x.k = y.k ∧ x.a = y.a ∧ x.b = y.b ∧ x.l = y.l then isTrue (by
    obtain ⟨k, a, b, l⟩ := x
    obtain ⟨k', a', b', l'⟩ := y
    obtain ⟨h1, h2, h3, h4⟩ := h
    simp only at h1 h2 h3 h4
    subst h1 h2 h3 h4
    rfl)
  else isFalse (by
    intro e
    subst e
    exact h ⟨rfl, rfl, rfl, rfl⟩)

def Itm.abs (x : Itm) : Abs := ⟨x.k, x.a, x.b, x.l⟩

theorem sameI_abs (x y : Itm) : sameI x y = decide (x.abs = y.abs) := by
  unfold sameI Itm.abs
  rw [Bool.eq_iff_iff]
  simp [and_assoc]

theorem sameL_abs : ∀ (L M : List Itm), sameL L M = decide (L.map Itm.abs = M.map Itm.abs)
  | [], [] => by simp [sameL]
  | [], y :: s => by simp [sameL]
  | x :: r, [] => by simp [sameL]
  | x :: r, y :: s => by
    rw [sameL, sameI_abs, sameL_abs r s, Bool.eq_iff_iff]
    simp

/-- A reader that waits, with nothing. -/
def inn (n : Int) : Abs := ⟨n, 0, 0, []⟩
def dat (c : UInt8) : Abs := ⟨1, (c.toNat : Int), 0, []⟩

def sData (c : UInt8) : Abs × List Abs := if c = 255 then (inn 2, []) else if c = 13 then (inn 1, [dat 13]) else (inn 0, [dat c])
def sCmd (c : UInt8) : Abs × List Abs :=
  if c = 255 then (inn 0, [dat 255]) else if verbB (c.toNat : Int) = true then (⟨3, (c.toNat : Int), 0, []⟩, []) else if c = 250 then (inn 4, [])
  else if cmdB (c.toNat : Int) = true then (inn 0, [⟨2, (c.toNat : Int), 0, []⟩]) else (inn 0, [])
def sKeep (r : Abs) (c : UInt8) : Abs := if r.l.length = 512 then inn 7 else ⟨5, r.a, r.b, r.l ++ [c]⟩

/-- What an octet does. -/
def step (r : Abs) (c : UInt8) : Abs × List Abs :=
  if r.k = 0 then sData c
  else if r.k = 1 then (if c = 10 ∨ c = 0 then (inn 0, []) else sData c)
  else if r.k = 2 then sCmd c
  else if r.k = 3 then (inn 0, [⟨3, r.a, (c.toNat : Int), []⟩])
  else if r.k = 4 then (⟨5, 0, (c.toNat : Int), []⟩, [])
  else if r.k = 5 then (if c = 255 then (⟨6, r.a, r.b, r.l⟩, []) else (sKeep r c, []))
  else if r.k = 6 then (if c = 255 then (sKeep r c, []) else if c = 240 then (inn 0, [⟨4, r.b, 0, r.l⟩]) else sCmd c)
  else if r.k = 7 then (if c = 255 then (inn 8, []) else (r, []))
  else (if c = 255 then (inn 7, []) else if c = 240 then (inn 0, []) else sCmd c)

/-- What octets do. -/
def feed (r : Abs) : List UInt8 → Abs × List Abs
  | [] => (r, [])
  | c :: b => ((feed (step r c).1 b).1, (step r c).2 ++ (feed (step r c).1 b).2)

theorem feed_append (r : Abs) (x y : List UInt8) : feed r (x ++ y) = ((feed (feed r x).1 y).1, (feed r x).2 ++ (feed (feed r x).1 y).2) := by
  induction x generalizing r with
  | nil => simp [feed]
  | cons c x ih => simp [feed, ih, List.append_assoc]

theorem feed_one (r : Abs) (c : UInt8) : feed r [c] = step r c := by simp [feed]

theorem feed_succ (r : Abs) (l : List UInt8) (k : Nat) (h : k < l.length) :
    feed r (l.take (k + 1)) = ((step (feed r (l.take k)).1 l[k]).1, (feed r (l.take k)).2 ++ (step (feed r (l.take k)).1 l[k]).2) := by
  rw [List.take_succ_eq_append_getElem h, feed_append, feed_one]

/-- Which readers may be. -/
def mayR (r : Abs) : Bool :=
  if r.k = 3 then verbB r.a && (r.b == 0) && (r.l.length == 0)
  else if r.k = 5 ∨ r.k = 6 then (r.a == 0) && (oct r.b && decide (r.l.length ≤ 512))
  else decide (0 ≤ r.k ∧ r.k < 9) && (r.a == 0) && (r.b == 0) && (r.l.length == 0)

def Abs.may (x : Abs) : Bool := mayN x.k x.a x.b x.l.length
def Abs.lies (x : Abs) : List UInt8 := liesN x.k x.a x.b x.l

theorem Itm.may_abs (x : Itm) : x.may = x.abs.may := rfl
theorem Itm.lies_abs (x : Itm) : x.lies = x.abs.lies := rfl
theorem allMay_abs (L : List Itm) : allMay L = (L.map Itm.abs).all Abs.may := by
  unfold allMay
  rw [List.all_map]
  rfl
theorem liesAll_abs (L : List Itm) : liesAll L = (L.map Itm.abs).flatMap Abs.lies := by
  unfold liesAll
  rw [List.flatMap_map]
  rfl

theorem inn_may (n : Int) (h : n = 0 ∨ n = 1 ∨ n = 2 ∨ n = 4 ∨ n = 7 ∨ n = 8) : mayR (inn n) = true := by
  rcases h with rfl | rfl | rfl | rfl | rfl | rfl <;> decide

theorem may0 : mayR (inn 0) = true := by decide
theorem oct_u8 (u : UInt8) : oct (u.toNat : Int) = true := by
  have := u.toNat_lt
  exact decide_eq_true (by omega)

theorem dat_may (c : UInt8) : (dat c).may = true := by
  show mayN 1 (c.toNat : Int) 0 0 = true
  unfold mayN
  rw [if_pos rfl, oct_u8]
  rfl

theorem sData_may (c : UInt8) : mayR (sData c).1 = true ∧ (∀ x ∈ (sData c).2, x.may = true) ∧ (sData c).2.length ≤ 1 := by
  unfold sData
  split
  · exact ⟨inn_may 2 (by omega), by simp, by simp⟩
  · split
    · exact ⟨inn_may 1 (by omega), by simp [dat_may], by simp⟩
    · exact ⟨may0, by simp [dat_may], by simp⟩

theorem sCmd_may (c : UInt8) : mayR (sCmd c).1 = true ∧ (∀ x ∈ (sCmd c).2, x.may = true) ∧ (sCmd c).2.length ≤ 1 := by
  unfold sCmd
  split
  · exact ⟨may0, by simp [dat_may], by simp⟩
  · split
    · rename_i h
      refine ⟨?_, by simp, by simp⟩
      unfold mayR
      rw [if_pos rfl, h]
      rfl
    · split
      · exact ⟨inn_may 4 (by omega), by simp, by simp⟩
      · split
        · rename_i h
          refine ⟨may0, fun x hx => ?_, by simp⟩
          simp only [List.mem_singleton] at hx
          subst hx
          show mayN 2 (c.toNat : Int) 0 0 = true
          unfold mayN
          rw [if_neg (by decide), if_pos rfl, h]
          rfl
        · exact ⟨may0, by simp, by simp⟩

theorem mayR_sub {r : Abs} (hk : r.k = 5 ∨ r.k = 6) (h : mayR r = true) : r.a = 0 ∧ oct r.b = true ∧ r.l.length ≤ 512 := by
  unfold mayR at h
  rw [if_neg (by omega), if_pos hk] at h
  simp only [Bool.and_eq_true, beq_iff_eq, decide_eq_true_eq] at h
  exact ⟨h.1, h.2.1, h.2.2⟩

theorem mayR_verb {r : Abs} (hk : r.k = 3) (h : mayR r = true) : verbB r.a = true ∧ r.b = 0 ∧ r.l = [] := by
  unfold mayR at h
  rw [if_pos hk] at h
  simp only [Bool.and_eq_true, beq_iff_eq] at h
  exact ⟨h.1.1, h.1.2, List.eq_nil_of_length_eq_zero h.2⟩

theorem mayR_plain {r : Abs} (h3 : r.k ≠ 3) (h5 : r.k ≠ 5) (h6 : r.k ≠ 6) (h : mayR r = true) : r = inn r.k ∧ 0 ≤ r.k ∧ r.k < 9 := by
  unfold mayR at h
  rw [if_neg h3, if_neg (by omega)] at h
  simp only [Bool.and_eq_true, beq_iff_eq, decide_eq_true_eq] at h
  obtain ⟨k, a, b, l⟩ := r
  obtain ⟨⟨⟨hk, ha⟩, hb⟩, hl⟩ := h
  simp only at ha hb hl hk
  have := List.eq_nil_of_length_eq_zero hl
  subst ha hb this
  exact ⟨rfl, hk⟩

theorem mayR_range {r : Abs} (h : mayR r = true) : 0 ≤ r.k ∧ r.k < 9 := by
  by_cases h3 : r.k = 3
  · omega
  · by_cases h5 : r.k = 5
    · omega
    · by_cases h6 : r.k = 6
      · omega
      · exact (mayR_plain h3 h5 h6 h).2

theorem sKeep_may {r : Abs} {c : UInt8} (ha : r.a = 0) (hb : oct r.b = true) (hl : r.l.length ≤ 512) : mayR (sKeep r c) = true := by
  unfold sKeep
  split
  · decide
  · unfold mayR
    rw [if_neg (by show ¬ (5 : Int) = 3; decide), if_pos (.inl rfl)]
    simp only [Bool.and_eq_true, beq_iff_eq, decide_eq_true_eq, List.length_append, List.length_cons, List.length_nil]
    exact ⟨ha, hb, by omega⟩

theorem step_0 {r : Abs} (h : r.k = 0) (c : UInt8) : step r c = sData c := if_pos h
theorem step_1 {r : Abs} (h : r.k = 1) (c : UInt8) : step r c = if c = 10 ∨ c = 0 then (inn 0, []) else sData c := by
  unfold step; rw [if_neg (by omega), if_pos h]
theorem step_2 {r : Abs} (h : r.k = 2) (c : UInt8) : step r c = sCmd c := by
  unfold step; rw [if_neg (by omega), if_neg (by omega), if_pos h]
theorem step_3 {r : Abs} (h : r.k = 3) (c : UInt8) : step r c = (inn 0, [⟨3, r.a, (c.toNat : Int), []⟩]) := by
  unfold step; rw [if_neg (by omega), if_neg (by omega), if_neg (by omega), if_pos h]
theorem step_4 {r : Abs} (h : r.k = 4) (c : UInt8) : step r c = (⟨5, 0, (c.toNat : Int), []⟩, []) := by
  unfold step; rw [if_neg (by omega), if_neg (by omega), if_neg (by omega), if_neg (by omega), if_pos h]
theorem step_5 {r : Abs} (h : r.k = 5) (c : UInt8) : step r c = if c = 255 then (⟨6, r.a, r.b, r.l⟩, []) else (sKeep r c, []) := by
  unfold step; rw [if_neg (by omega), if_neg (by omega), if_neg (by omega), if_neg (by omega), if_neg (by omega), if_pos h]
theorem step_6 {r : Abs} (h : r.k = 6) (c : UInt8) : step r c = if c = 255 then (sKeep r c, []) else if c = 240 then (inn 0, [⟨4, r.b, 0, r.l⟩]) else sCmd c := by
  unfold step; rw [if_neg (by omega), if_neg (by omega), if_neg (by omega), if_neg (by omega), if_neg (by omega), if_neg (by omega), if_pos h]
theorem step_7 {r : Abs} (h : r.k = 7) (c : UInt8) : step r c = if c = 255 then (inn 8, []) else (r, []) := by
  unfold step; rw [if_neg (by omega), if_neg (by omega), if_neg (by omega), if_neg (by omega), if_neg (by omega), if_neg (by omega), if_neg (by omega), if_pos h]
theorem step_8 {r : Abs} (h : r.k = 8) (c : UInt8) : step r c = if c = 255 then (inn 7, []) else if c = 240 then (inn 0, []) else sCmd c := by
  unfold step; rw [if_neg (by omega), if_neg (by omega), if_neg (by omega), if_neg (by omega), if_neg (by omega), if_neg (by omega), if_neg (by omega), if_neg (by omega)]

theorem nine {k : Int} (h : 0 ≤ k ∧ k < 9) : k = 0 ∨ k = 1 ∨ k = 2 ∨ k = 3 ∨ k = 4 ∨ k = 5 ∨ k = 6 ∨ k = 7 ∨ k = 8 := by omega

/-- What an octet does to a reader that may be. -/
theorem step_may {r : Abs} (h : mayR r = true) (c : UInt8) : mayR (step r c).1 = true ∧ (∀ x ∈ (step r c).2, x.may = true) ∧ (step r c).2.length ≤ 1 := by
  rcases nine (mayR_range h) with hk | hk | hk | hk | hk | hk | hk | hk | hk
  · rw [step_0 hk]
    exact sData_may c
  · rw [step_1 hk]
    split
    · exact ⟨may0, by simp, by simp⟩
    · exact sData_may c
  · rw [step_2 hk]
    exact sCmd_may c
  · rw [step_3 hk]
    have := mayR_verb hk h
    refine ⟨may0, fun x hx => ?_, by simp⟩
    simp only [List.mem_singleton] at hx
    subst hx
    show mayN 3 r.a (c.toNat : Int) 0 = true
    unfold mayN
    rw [if_neg (by decide), if_neg (by decide), if_pos rfl, this.1, oct_u8]
    rfl
  · rw [step_4 hk]
    refine ⟨?_, by simp, by simp⟩
    unfold mayR
    rw [if_neg (by show ¬ (5 : Int) = 3; decide), if_pos (.inl rfl), oct_u8]
    rfl
  · rw [step_5 hk]
    obtain ⟨ha, hb, hl⟩ := mayR_sub (.inl hk) h
    split
    · refine ⟨?_, by simp, by simp⟩
      unfold mayR
      rw [if_neg (by show ¬ (6 : Int) = 3; decide), if_pos (.inr rfl)]
      simp only [Bool.and_eq_true, beq_iff_eq, decide_eq_true_eq]
      exact ⟨ha, hb, hl⟩
    · exact ⟨sKeep_may ha hb hl, by simp, by simp⟩
  · rw [step_6 hk]
    obtain ⟨ha, hb, hl⟩ := mayR_sub (.inr hk) h
    split
    · exact ⟨sKeep_may ha hb hl, by simp, by simp⟩
    split
    · refine ⟨may0, fun x hx => ?_, by simp⟩
      simp only [List.mem_singleton] at hx
      subst hx
      show mayN 4 r.b 0 r.l.length = true
      unfold mayN
      rw [if_neg (by decide), if_neg (by decide), if_neg (by decide), if_pos rfl, hb]
      simpa using hl
    · exact sCmd_may c
  · rw [step_7 hk]
    split
    · exact ⟨inn_may 8 (by omega), by simp, by simp⟩
    · exact ⟨h, by simp, by simp⟩
  · rw [step_8 hk]
    split
    · exact ⟨inn_may 7 (by omega), by simp, by simp⟩
    split
    · exact ⟨may0, by simp, by simp⟩
    · exact sCmd_may c

/-- What octets do to a reader that may be. -/
theorem feed_may {r : Abs} (h : mayR r = true) (b : List UInt8) : mayR (feed r b).1 = true ∧ (∀ x ∈ (feed r b).2, x.may = true) ∧ (feed r b).2.length ≤ b.length := by
  induction b generalizing r with
  | nil => exact ⟨h, by simp [feed], by simp [feed]⟩
  | cons c b ih =>
    obtain ⟨h1, h2, h3⟩ := step_may h c
    obtain ⟨g1, g2, g3⟩ := ih h1
    refine ⟨g1, fun x hx => ?_, ?_⟩
    · rcases List.mem_append.1 hx with hx | hx
      · exact h2 x hx
      · exact g2 x hx
    · simp only [feed, List.length_append, List.length_cons]
      omega

theorem mayR_len {r : Abs} (h : mayR r = true) : r.l.length ≤ 512 := by
  by_cases h3 : r.k = 3
  · rw [(mayR_verb h3 h).2.2]; simp
  · by_cases h5 : r.k = 5
    · exact (mayR_sub (.inl h5) h).2.2
    · by_cases h6 : r.k = 6
      · exact (mayR_sub (.inr h6) h).2.2
      · rw [(mayR_plain h3 h5 h6 h).1]; simp [inn]

/- What was laid is read. -/

theorem feed_dbl (o : Int) (l : List UInt8) : ∀ l0 : List UInt8, l0.length + l.length ≤ 512 → feed ⟨5, 0, o, l0⟩ (dbl l) = (⟨5, 0, o, l0 ++ l⟩, []) := by
  induction l with
  | nil => intro l0 _; simp [dbl, feed]
  | cons c l ih =>
    intro l0 h
    rw [List.length_cons] at h
    have hk : sKeep ⟨6, 0, o, l0⟩ c = ⟨5, 0, o, l0 ++ [c]⟩ := by unfold sKeep; rw [if_neg (by show ¬ l0.length = 512; omega)]
    have hk' : sKeep ⟨5, 0, o, l0⟩ c = ⟨5, 0, o, l0 ++ [c]⟩ := by unfold sKeep; rw [if_neg (by show ¬ l0.length = 512; omega)]
    have := ih (l0 ++ [c]) (by simp; omega)
    rw [List.append_assoc] at this
    have e : dbl (c :: l) = d1 c ++ dbl l := by simp [dbl]
    rw [e]
    unfold d1
    split
    · rename_i hc
      subst hc
      have s1 : step ⟨5, 0, o, l0⟩ 255 = (⟨6, 0, o, l0⟩, []) := rfl
      have s2 : step ⟨6, 0, o, l0⟩ 255 = (sKeep ⟨6, 0, o, l0⟩ 255, []) := rfl
      show feed ⟨5, 0, o, l0⟩ (255 :: 255 :: dbl l) = _
      simp only [feed, s1, s2, hk, this]
      rfl
    · rename_i hc
      have s1 : step ⟨5, 0, o, l0⟩ c = (sKeep ⟨5, 0, o, l0⟩ c, []) := by
        unfold step
        simp [hc]
      show feed ⟨5, 0, o, l0⟩ (c :: dbl l) = _
      simp only [feed, s1, hk', this]
      rfl

theorem step0 (c : UInt8) : step (inn 0) c = sData c := rfl
theorem step2 (c : UInt8) : step (inn 2) c = sCmd c := rfl
theorem step4 (c : UInt8) : step (inn 4) c = (⟨5, 0, (c.toNat : Int), []⟩, []) := rfl

theorem u8_toNat {z : Int} (h0 : 0 ≤ z) (h1 : z ≤ 255) : ((u8 z).toNat : Int) = z := u8_back h0 h1

theorem u8_ne {z : Int} (h0 : 0 ≤ z) (h1 : z ≤ 255) (n : UInt8) (h : z ≠ (n.toNat : Int)) : u8 z ≠ n := by
  rintro rfl
  exact h (u8_back h0 h1).symm

/-- One item that may be, laid, is read. -/
theorem feed_lies (x : Abs) (h : x.may = true) : feed (inn 0) x.lies = (inn 0, [x]) := by
  obtain ⟨k, a, b, l⟩ := x
  unfold Abs.may mayN at h
  unfold Abs.lies liesN
  simp only at h ⊢
  by_cases h1 : k = 1
  · subst h1
    rw [if_pos rfl] at h ⊢
    simp only [Bool.and_eq_true, beq_iff_eq] at h
    obtain ⟨⟨ha, rfl⟩, hl⟩ := h
    have hl2 := List.eq_nil_of_length_eq_zero hl
    subst hl2
    obtain ⟨a0, a1⟩ := oct_iff ha
    have e : layL [u8 a] = lay1 (u8 a) := by simp [layL]
    have hd : dat (u8 a) = ⟨1, a, 0, []⟩ := by unfold dat; rw [u8_back a0 a1]
    rw [e, ← hd]
    generalize u8 a = u
    unfold lay1
    split
    · rename_i e; subst e; rfl
    · split
      · rename_i e; subst e; rfl
      · rename_i e1 e2
        rw [feed_one, step0]
        unfold sData
        rw [if_neg e1, if_neg e2]
  rw [if_neg h1] at h ⊢
  by_cases h2 : k = 2
  · subst h2
    rw [if_pos rfl] at h ⊢
    simp only [Bool.and_eq_true, beq_iff_eq] at h
    obtain ⟨⟨ha, rfl⟩, hl⟩ := h
    have hl2 := List.eq_nil_of_length_eq_zero hl
    subst hl2
    obtain ⟨a0, a1, a2⟩ := of_decide_eq_true (show decide _ = true from ha)
    have hb := u8_back (z := a) (by omega) (by omega)
    have n1 : u8 a ≠ 255 := u8_ne (by omega) (by omega) _ (by show a ≠ 255; omega)
    have n2 : u8 a ≠ 250 := u8_ne (by omega) (by omega) _ (by show a ≠ 250; omega)
    have n3 : verbB ((u8 a).toNat : Int) = false := by rw [hb]; exact decide_eq_false (by omega)
    have s1 : step (inn 0) 255 = (inn 2, []) := rfl
    have s2 : step (inn 2) (u8 a) = (inn 0, [⟨2, a, 0, []⟩]) := by
      rw [step2]
      unfold sCmd
      rw [if_neg n1, n3, if_neg (by decide), if_neg n2, hb, ha, if_pos rfl]
    simp only [feed, s1, s2]
    rfl
  rw [if_neg h2] at h ⊢
  by_cases h3 : k = 3
  · subst h3
    rw [if_pos rfl] at h ⊢
    simp only [Bool.and_eq_true, beq_iff_eq] at h
    obtain ⟨⟨ha, hb'⟩, hl⟩ := h
    have hl2 := List.eq_nil_of_length_eq_zero hl
    subst hl2
    obtain ⟨a0, a1⟩ := of_decide_eq_true (show decide _ = true from ha)
    obtain ⟨b0, b1⟩ := oct_iff hb'
    have hb := u8_back (z := a) (by omega) (by omega)
    have hbb := u8_back b0 b1
    have n1 : u8 a ≠ 255 := u8_ne (by omega) (by omega) _ (by show a ≠ 255; omega)
    have s1 : step (inn 0) 255 = (inn 2, []) := rfl
    have s2 : step (inn 2) (u8 a) = (⟨3, a, 0, []⟩, []) := by
      rw [step2]
      unfold sCmd
      rw [if_neg n1, hb, ha, if_pos rfl]
    have s3 : step ⟨3, a, 0, []⟩ (u8 b) = (inn 0, [⟨3, a, b, []⟩]) := by
      have : step ⟨3, a, 0, []⟩ (u8 b) = (inn 0, [⟨3, a, ((u8 b).toNat : Int), []⟩]) := rfl
      rw [this, hbb]
    simp only [feed, s1, s2, s3]
    rfl
  rw [if_neg h3] at h ⊢
  by_cases h4 : k = 4
  · subst h4
    rw [if_pos rfl] at h
    simp only [Bool.and_eq_true, beq_iff_eq, decide_eq_true_eq] at h
    obtain ⟨⟨ha, rfl⟩, hl⟩ := h
    obtain ⟨a0, a1⟩ := oct_iff ha
    have hb := u8_back a0 a1
    have s1 : feed (inn 0) [255, 250, u8 a] = (⟨5, 0, a, []⟩, []) := by
      have : feed (inn 0) [255, 250, u8 a] = (⟨5, 0, ((u8 a).toNat : Int), []⟩, []) := rfl
      rw [this, hb]
    have s2 := feed_dbl a l [] (by simpa using hl)
    have s3 : feed ⟨5, 0, a, l⟩ [255, 240] = (inn 0, [⟨4, a, 0, l⟩]) := rfl
    rw [List.append_assoc, feed_append, s1, feed_append, s2]
    show ((feed ⟨5, 0, a, l⟩ [255, 240]).1, _) = _
    rw [show ([] : List UInt8) ++ l = l from rfl, s3]
    rfl
  rw [if_neg h4] at h
  cases h

/-- Items that may be, laid, are read. -/
theorem feed_liesAll (X : List Abs) (h : X.all Abs.may = true) : feed (inn 0) (X.flatMap Abs.lies) = (inn 0, X) := by
  induction X with
  | nil => rfl
  | cons x r ih =>
    rw [List.all_cons, Bool.and_eq_true] at h
    rw [List.flatMap_cons, feed_append, feed_lies x h.1, ih h.2]
    rfl

end Go.Proofs.Ytmgkfibkeonpmaa
