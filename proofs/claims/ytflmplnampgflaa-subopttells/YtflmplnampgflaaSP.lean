/-
  Layer 7 as lists: triples, which may be, how they lie, what octets tell.
-/
import Derived.Test.YtflmplnampgflaaWords
namespace Go.Proofs.Ytflmplnampgflaa
open Go.RowKit

/-- A triple. -/
structure Tr where
  f : Int
  lv : Int
  a : Bool
  i : Bool
  o : Bool
  v : UInt8
deriving DecidableEq

def Tr.cells (x : Tr) : List Value := [.int .i64 x.f, .int .i64 x.lv, .bool x.a, .bool x.i, .bool x.o, .int .u8 (x.v.toNat : Int)]
def Tr.val (x : Tr) : Value := .agg #[.int .i64 x.f, .int .i64 x.lv, .bool x.a, .bool x.i, .bool x.o, .int .u8 (x.v.toNat : Int)]

def u8 (z : Int) : UInt8 := UInt8.ofNat z.toNat
theorem u8_back {z : Int} (h0 : 0 ≤ z) (h1 : z ≤ 255) : ((u8 z).toNat : Int) = z := by
  unfold u8
  rw [UInt8.toNat_ofNat']
  omega
theorem u8_of (u : UInt8) : u8 (u.toNat : Int) = u := by
  unfold u8
  simp

/-- Which triples may be. -/
def mayT (f lv : Int) : Bool := decide (0 ≤ f ∧ f ≤ 255 ∧ 0 ≤ lv ∧ lv ≤ 3)
theorem mayT_iff {f lv : Int} : mayT f lv = true ↔ (0 ≤ f ∧ f ≤ 255 ∧ 0 ≤ lv ∧ lv ≤ 3) := by unfold mayT; simp
theorem mayT_no {f lv : Int} : mayT f lv = false ↔ ¬ (0 ≤ f ∧ f ≤ 255 ∧ 0 ≤ lv ∧ lv ≤ 3) := by unfold mayT; simp

/-- A mark's weight. -/
def wt (b : Bool) (n : Int) : Int := if b then n else 0
/-- The second octet, as a number. -/
def secI (lv : Int) (a i o : Bool) : Int := lv + wt a 128 + wt i 64 + wt o 32
theorem secI_rng {lv : Int} (h : 0 ≤ lv ∧ lv ≤ 3) (a i o : Bool) : 0 ≤ secI lv a i o ∧ secI lv a i o ≤ 255 := by
  cases a <;> cases i <;> cases o <;> simp [secI, wt] <;> omega
def Tr.sec (x : Tr) : UInt8 := u8 (secI x.lv x.a x.i x.o)
/-- How a triple lies. -/
def Tr.lies (x : Tr) : List UInt8 := [u8 x.f, x.sec, x.v]
def Tr.may (x : Tr) : Bool := mayT x.f x.lv
def allT (L : List Tr) : Bool := L.all Tr.may
def liesL (L : List Tr) : List UInt8 := L.flatMap Tr.lies

/-- Is it a second octet? What three octets tell. -/
def isS (c : UInt8) : Bool := c.toNat / 4 % 8 == 0
def tri (f c v : UInt8) : Tr := ⟨(f.toNat : Int), (c.toNat : Int) % 4, decide (128 ≤ c.toNat), decide (c.toNat / 64 % 2 = 1), decide (c.toNat / 32 % 2 = 1), v⟩

/-- What octets tell. -/
def getL : List UInt8 → Option (List Tr)
  | [] => some []
  | f :: c :: v :: r => if isS c then (getL r).map (tri f c v :: ·) else none
  | _ => none

theorem getL_nil : getL [] = some [] := by unfold getL; rfl
theorem getL_cons (f c v : UInt8) (r : List UInt8) : getL (f :: c :: v :: r) = if isS c then (getL r).map (tri f c v :: ·) else none := by
  rw [getL]

theorem liesL_nil : liesL [] = [] := rfl
theorem liesL_cons (x : Tr) (L : List Tr) : liesL (x :: L) = u8 x.f :: x.sec :: x.v :: liesL L := rfl
theorem liesL_append (L M : List Tr) : liesL (L ++ M) = liesL L ++ liesL M := by simp [liesL]
theorem liesL_len (L : List Tr) : (liesL L).length = 3 * L.length := by
  induction L with
  | nil => rfl
  | cons x r ih => rw [liesL_cons]; simp only [List.length_cons, ih]; omega
theorem allT_cons (x : Tr) (L : List Tr) : allT (x :: L) = (x.may && allT L) := rfl
theorem allT_append (L M : List Tr) : allT (L ++ M) = (allT L && allT M) := by simp [allT]

theorem isS_all : ∀ c : Fin 256, (decide (c.val / 4 % 8 = 0)) = decide (c.val % 4 + (if 128 ≤ c.val then 128 else 0) + (if c.val / 64 % 2 = 1 then 64 else 0) + (if c.val / 32 % 2 = 1 then 32 else 0) = c.val) := by decide +kernel

/-- A second octet is what its level and marks weigh. -/
theorem tri_sec (f c v : UInt8) (h : isS c = true) : (tri f c v).sec = c ∧ u8 (tri f c v).f = f ∧ (tri f c v).v = v ∧ (tri f c v).may = true := by
  have hc : c.toNat < 256 := c.toNat_lt
  have hf : f.toNat < 256 := f.toNat_lt
  have hk := isS_all ⟨c.toNat, hc⟩
  simp only [] at hk
  have h' : c.toNat / 4 % 8 = 0 := by simpa [isS] using h
  rw [decide_eq_true h'] at hk
  have hk' := of_decide_eq_true hk.symm
  refine ⟨?_, u8_of f, rfl, ?_⟩
  · have : secI (tri f c v).lv (tri f c v).a (tri f c v).i (tri f c v).o = (c.toNat : Int) := by
      unfold secI tri wt
      simp only [decide_eq_true_eq]
      by_cases h1 : 128 ≤ c.toNat <;> by_cases h2 : c.toNat / 64 % 2 = 1 <;> by_cases h3 : c.toNat / 32 % 2 = 1 <;> simp only [h1, h2, h3, if_true, if_false] at hk' ⊢ <;> omega
    unfold Tr.sec
    rw [this, u8_of]
  · unfold Tr.may tri
    rw [mayT_iff]
    simp only []
    omega

theorem tri_all : ∀ (l : Fin 4) (a i o : Bool), let n := l.val + (if a then 128 else 0) + (if i then 64 else 0) + (if o then 32 else 0); n < 256 ∧ n / 4 % 8 = 0 ∧ n % 4 = l.val ∧ decide (128 ≤ n) = a ∧ decide (n / 64 % 2 = 1) = i ∧ decide (n / 32 % 2 = 1) = o := by decide +kernel

/-- What was put is got: of one triple. -/
theorem sec_tri (x : Tr) (h : x.may = true) : isS x.sec = true ∧ tri (u8 x.f) x.sec x.v = x := by
  obtain ⟨f, lv, a, i, o, v⟩ := x
  unfold Tr.may at h
  simp only [] at h
  rw [mayT_iff] at h
  obtain ⟨k, rfl⟩ : ∃ k : Nat, lv = k := ⟨lv.toNat, by omega⟩
  have hk : k < 4 := by omega
  have ht := tri_all ⟨k, hk⟩ a i o
  simp only [] at ht
  obtain ⟨t1, t2, t3, t4, t5, t6⟩ := ht
  have hs : (Tr.sec ⟨f, k, a, i, o, v⟩).toNat = k + (if a then 128 else 0) + (if i then 64 else 0) + (if o then 32 else 0) := by
    unfold Tr.sec u8 secI wt
    simp only []
    rw [UInt8.toNat_ofNat']
    cases a <;> cases i <;> cases o <;> simp <;> omega
  generalize (Tr.sec ⟨f, k, a, i, o, v⟩) = s at hs ⊢
  have hf : ((u8 f).toNat : Int) = f := u8_back h.1 h.2.1
  generalize u8 f = F at hf ⊢
  rw [← hs] at t2 t3 t4 t5 t6
  refine ⟨by unfold isS; simpa using t2, ?_⟩
  unfold tri
  simp only [t4, t5, t6]
  rw [hf, show ((s.toNat : Int) % 4) = (k : Int) by omega]

theorem get_lies (L : List Tr) (h : allT L = true) : getL (liesL L) = some L := by
  induction L with
  | nil => exact getL_nil
  | cons x r ih =>
    rw [allT_cons, Bool.and_eq_true] at h
    obtain ⟨h1, h2⟩ := sec_tri x h.1
    rw [liesL_cons, getL_cons, h1, ih h.2]
    simp [h2]

theorem lies_get : ∀ (b : List UInt8) (L : List Tr), getL b = some L → liesL L = b ∧ allT L = true
  | [], L, h => by rw [getL_nil] at h; injection h with h; subst h; exact ⟨rfl, rfl⟩
  | [x], L, h => by simp [getL] at h
  | [x, y], L, h => by simp [getL] at h
  | f :: c :: v :: r, L, h => by
    rw [getL_cons] at h
    cases hs : isS c
    · rw [hs] at h; simp at h
    · rw [hs] at h
      simp only [if_true, Option.map_eq_some_iff] at h
      obtain ⟨M, hM, rfl⟩ := h
      obtain ⟨h1, h2⟩ := lies_get r M hM
      obtain ⟨k1, k2, k3, k4⟩ := tri_sec f c v hs
      rw [liesL_cons, allT_cons, h1, h2, k1, k2, k3, k4]
      exact ⟨rfl, rfl⟩

theorem get_len {b : List UInt8} {L : List Tr} (h : getL b = some L) : b.length = 3 * L.length := by
  rw [← (lies_get b L h).1, liesL_len]

/-- One behind the other. -/
theorem get_append : ∀ (a b : List UInt8), a.length % 3 = 0 → getL (a ++ b) = (getL a).bind fun x => (getL b).map (x ++ ·)
  | [], b, _ => by rw [getL_nil]; cases h : getL b <;> simp [h]
  | [x], b, h => by simp at h
  | [x, y], b, h => by simp at h
  | f :: c :: v :: r, b, h => by
    have ih := get_append r b (by simp only [List.length_cons] at h; omega)
    rw [show (f :: c :: v :: r) ++ b = f :: c :: v :: (r ++ b) from rfl, getL_cons, getL_cons, ih]
    cases isS c
    · rfl
    · cases getL r <;> cases getL b <;> rfl

theorem get_short {b : List UInt8} (h : b.length % 3 ≠ 0) : getL b = none := by
  cases hb : getL b with
  | none => rfl
  | some L => have := get_len hb; omega

/-- What Get answers, and its error; what Put answers, and its error. -/
def gotL (b : List UInt8) : List Tr := (getL b).getD []
def gerr (b : List UInt8) : Int := if (getL b).isSome then 0 else 2
def putL (L : List Tr) : List UInt8 := if allT L then liesL L else []
def perr (L : List Tr) : Int := if allT L then 0 else 1

theorem got_yes {b : List UInt8} {L : List Tr} (h : getL b = some L) : gotL b = L ∧ gerr b = 0 := by unfold gotL gerr; rw [h]; exact ⟨rfl, rfl⟩
theorem got_no {b : List UInt8} (h : getL b = none) : gotL b = [] ∧ gerr b = 2 := by unfold gotL gerr; rw [h]; exact ⟨rfl, rfl⟩
theorem put_yes {L : List Tr} (h : allT L = true) : putL L = liesL L ∧ perr L = 0 := by unfold putL perr; rw [h]; exact ⟨rfl, rfl⟩
theorem put_no {L : List Tr} (h : allT L = false) : putL L = [] ∧ perr L = 1 := by unfold putL perr; rw [h]; exact ⟨rfl, rfl⟩

end Go.Proofs.Ytflmplnampgflaa
