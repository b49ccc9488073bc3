/-
  A contract over layer 3: lay, of an item that may be. No conditions beyond those each theorem states.
-/
import Derived.Test.YtmgkfibkeonpmaaI4
namespace Go.Proofs.Ytmgkfibkeonpmaa
open Go.RowKit

def u8 (z : Int) : UInt8 := UInt8.ofNat z.toNat

theorem u8_back {z : Int} (h0 : 0 ≤ z) (h1 : z ≤ 255) : ((u8 z).toNat : Int) = z := by
  unfold u8
  rw [UInt8.toNat_ofNat']
  omega

theorem u8_val {z : Int} (h0 : 0 ≤ z) (h1 : z ≤ 255) : Value.int .u8 z = bv (u8 z) := by
  unfold bv
  rw [u8_back h0 h1]

/-- How an item lies. -/
def liesN (k a b : Int) (l : List UInt8) : List UInt8 :=
  if k = 1 then layL [u8 a] else if k = 2 then [255, u8 a] else if k = 3 then [255, u8 a, u8 b] else [255, 250, u8 a] ++ dbl l ++ [255, 240]

theorem new_rd2 (w : World) (o : Obj) (cs : Array Value) (l : List UInt8) (n : Nat) (h : cs = (l.map bv).toArray) (hn : l.length = n) (hl : n ≤ 1000) :
    Rd ((w.alloc o).alloc (.cells cs 5)) ((w.alloc o).alloc (.cells cs 5)).heap.size (some ⟨w.heap.size + 1, 0, none⟩) l n := by
  have e : (w.alloc o).heap.size = w.heap.size + 1 := by simp
  have := new_rd (w.alloc o) cs l n h hn hl
  rw [show (⟨(w.alloc o).heap.size, 0, none⟩ : Addr) = ⟨w.heap.size + 1, 0, none⟩ by rw [e]] at this
  exact this

theorem oct_iff {n : Int} (h : oct n = true) : 0 ≤ n ∧ n ≤ 255 := of_decide_eq_true h

theorem liesN_len (k a b : Int) (l : List UInt8) (h : l.length ≤ 512) : (liesN k a b l).length ≤ 1100 := by
  unfold liesN
  have h1 := (layL_len [u8 a]).2
  have h2 := dbl_len l
  have h3 := List.count_le_length (a := (255 : UInt8)) (l := l)
  split
  · simp only [List.length_cons, List.length_nil] at h1; omega
  split
  · simp
  split
  · simp
  · rw [List.length_append, List.length_append, h2]
    simp only [List.length_cons, List.length_nil]
    omega

theorem mayN_len {k a b : Int} {n : Nat} (h : mayN k a b n = true) : n ≤ 512 := by
  unfold mayN at h
  split at h
  · simp at h; omega
  split at h
  · simp at h; omega
  split at h
  · simp at h; omega
  split at h
  · simp at h; omega
  · cases h

end Go.Proofs.Ytmgkfibkeonpmaa
