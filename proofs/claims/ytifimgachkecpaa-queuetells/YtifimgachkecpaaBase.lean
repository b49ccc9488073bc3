/-
  Words for bytes in memory that the proofs of layer 1's statements share: a slice that reads as bytes, a block of bytes that a call has made.
-/
import Derived.Test.YtifimgachkecpaaRows
import Derived.WalkKit
import Derived.WalkSpells
import Derived.WalkLawsBesides
namespace Go.Proofs.Ytifimgachkecpaa
open Go.RowKit

theorem keepd {p : Prop} (h : p) : Hid p := h

/-- An octet as a value. -/
def bv (b : UInt8) : Value := .int .u8 (b.toNat : Int)

/-- The slice value 'slice A l.length c' reads as the octets l, and lies below block B. -/
def Rd (w : World) (B : Nat) (A : Option Addr) (l : List UInt8) (c : Nat) : Prop :=
  l.length ≤ c ∧ c ≤ maxLen ∧ (l ≠ [] → ∃ ad, A = some ad ∧ ad.block < B) ∧ ∀ ad, A = some ad → ∀ j u, l[j]? = some u → w.cell? (ad.add j) = some (bv u)

/-- Block g is just the octets l. -/
def Bk (w : World) (g : Nat) (l : List UInt8) : Prop := w.heap[g]? = some (.cells (l.map bv).toArray 5 (0, 0))

theorem blk_add (a : Addr) (n : Nat) : (a.add n).block = a.block := by unfold Addr.add; split <;> rfl

theorem Rd.len {w : World} {B : Nat} {A : Option Addr} {l : List UInt8} {c : Nat} (h : Rd w B A l c) : l.length ≤ c ∧ c ≤ maxLen := ⟨h.1, h.2.1⟩

theorem Rd.keep {w w' : World} {B B' : Nat} {A : Option Addr} {l : List UInt8} {c : Nat} (h : Rd w B A l c) (hB : B ≤ B') (hk : ∀ p : Addr, p.block < B → w'.cell? p = w.cell? p) : Rd w' B' A l c := by
  refine ⟨h.1, h.2.1, fun hl => ?_, fun ad had j u hu => ?_⟩
  · obtain ⟨ad, e, hb⟩ := h.2.2.1 hl
    exact ⟨ad, e, Nat.lt_of_lt_of_le hb hB⟩
  · have hl : l ≠ [] := by intro e; subst e; simp at hu
    obtain ⟨ad', e, hb⟩ := h.2.2.1 hl
    rw [had] at e
    injection e with e
    subst e
    rw [hk _ (by rw [blk_add]; exact hb)]
    exact h.2.2.2 ad had j u hu

theorem Rd.below {w w' : World} {B B' : Nat} {A : Option Addr} {l : List UInt8} {c : Nat} (h : Rd w B A l c) (hb : Below B w w') (hB : B ≤ B') : Rd w' B' A l c :=
  h.keep hB fun _ hp => hb.cell hp

theorem add_lit0 (g j : Nat) : (⟨g, 0, none⟩ : Addr).add j = ⟨g, j, none⟩ := by unfold Addr.add; split <;> simp_all

theorem Bk.lt {w : World} {g : Nat} {l : List UInt8} (h : Bk w g l) : g < w.heap.size := (Array.getElem?_eq_some_iff.1 h).1

theorem Bk.rd {w : World} {g : Nat} {l : List UInt8} (h : Bk w g l) {B c : Nat} (hB : g < B) (hc : l.length ≤ c) (hm : c ≤ maxLen) : Rd w B (some ⟨g, 0, none⟩) l c := by
  refine ⟨hc, hm, fun _ => ⟨_, rfl, hB⟩, fun ad had j u hu => ?_⟩
  injection had with had
  subst had
  rw [add_lit0]
  have hj : ((l.map bv).toArray)[j]? = some (bv u) := by simp [hu]
  rw [← hj]
  exact cell_of_row w g j _ 5 (0, 0) h

theorem Bk.below {w w' : World} {B g : Nat} {l : List UInt8} (h : Bk w g l) (hb : Below B w w') (hg : g < B) : Bk w' g l := (hb.block g hg).trans h

end Go.Proofs.Ytifimgachkecpaa
