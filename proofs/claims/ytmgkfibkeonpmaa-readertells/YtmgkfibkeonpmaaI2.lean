/-
  Contracts over the library as layer 3 calls it: bytes.Count, bytes.IndexByte, bytes.Index of one octet; and the list that doubles each 255. No conditions beyond those each theorem states.
-/
import Derived.Test.YtmgkfibkeonpmaaT7
import Derived.Shelf.Bytes.SlIndexAt
import Derived.Shelf.Bytes.SlCountOne
namespace Go.Proofs.Ytmgkfibkeonpmaa
open Go.RowKit

/-- Each 255 twice. -/
def d1 (u : UInt8) : List UInt8 := if u = 255 then [255, 255] else [u]
def dbl (l : List UInt8) : List UInt8 := l.flatMap d1

theorem dbl_append (a b : List UInt8) : dbl (a ++ b) = dbl a ++ dbl b := by simp [dbl]
theorem dbl_255 : dbl [255] = [255, 255] := rfl
theorem dbl_none {l : List UInt8} (h : (255 : UInt8) ∉ l) : dbl l = l := by
  induction l with
  | nil => rfl
  | cons a r ih =>
    have h1 : a ≠ 255 := fun e => h (by simp [e])
    have h2 : (255 : UInt8) ∉ r := fun e => h (by simp [e])
    have := ih h2
    unfold dbl at this ⊢
    rw [List.flatMap_cons, this]
    simp [d1, h1]
theorem dbl_len (l : List UInt8) : (dbl l).length = l.length + l.count 255 := by
  induction l with
  | nil => rfl
  | cons a r ih =>
    unfold dbl at ih ⊢
    rw [List.flatMap_cons, List.length_append, ih, List.count_cons, List.length_cons]
    by_cases h : a = 255
    · simp [d1, h]; omega
    · simp [d1, h]; omega

theorem bytes_back (l : List UInt8) : Lib.bytesOf (l.map (fun b : UInt8 => (b.toNat : Int))) = l := by
  induction l with
  | nil => rfl
  | cons a r ih =>
    unfold Lib.bytesOf at ih ⊢
    simp only [List.map_cons, ih]
    simp

theorem Rd.intsAt {w : World} {B : Nat} {ad : Addr} {l : List UInt8} {c : Nat} (h : Rd w B (some ad) l c) :
    ∀ i, i < l.length → w.cell? (ad.add i) = some (.int .u8 ((l.map (fun b : UInt8 => (b.toNat : Int))).getD i 0)) := by
  intro i hi
  have := h.2.2.2 ad rfl i l[i] (List.getElem?_eq_getElem hi)
  rw [this]
  simp [bv, hi]

/-- The first 255. -/
theorem index_has {l : List UInt8} (h : (255 : UInt8) ∈ l) : ∃ j, j < l.length ∧ Lib.indexByte l 255 = (j : Int) ∧ (255 : UInt8) ∉ l.take j ∧ l.take (j + 1) = l.take j ++ [255] := by
  induction l with
  | nil => cases h
  | cons a r ih =>
    by_cases ha : a = 255
    · subst ha
      exact ⟨0, by simp, by simp [Lib.indexByte], by simp, by simp⟩
    · have hr : (255 : UInt8) ∈ r := by
        rcases List.mem_cons.1 h with e | e
        · exact absurd e.symm ha
        · exact e
      obtain ⟨j, h1, h2, h3, h4⟩ := ih hr
      refine ⟨j + 1, by simpa using h1, ?_, ?_, ?_⟩
      · unfold Lib.indexByte
        rw [h2]
        have e1 : (a == 255) = false := by simpa using ha
        have e2 : ((j : Int) == -1) = false := by simp
        rw [e1, e2]
        simp
      · rw [List.take_succ_cons]
        intro e
        rcases List.mem_cons.1 e with e | e
        · exact ha e.symm
        · exact h3 e
      · rw [List.take_succ_cons, h4, List.take_succ_cons]
        rfl

end Go.Proofs.Ytmgkfibkeonpmaa
