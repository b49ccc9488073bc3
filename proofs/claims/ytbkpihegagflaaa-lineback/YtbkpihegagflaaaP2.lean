/-
  Lines as lists: octets typed one behind the other, typed over, and gone again. No walks.
-/
import Derived.Test.YtbkpihegagflaaaP1
namespace Go.Proofs.Ytbkpihegagflaaa
open Go.RowKit
set_option maxRecDepth 100000

/-- The line behind j of the keys K, typed at t. -/
def typL (x : List UInt8) (t : Nat) (K : List UInt8) (j : Nat) : List UInt8 := x.take t ++ (K.take j ++ x.drop t)
/-- The line behind j of the keys K, typed over from t on. -/
def ovL (x : List UInt8) (t : Nat) (K : List UInt8) (j : Nat) : List UInt8 := x.take t ++ (K.take j ++ x.drop (t + j))

theorem take_getD {K : List UInt8} {j : Nat} (h : j < K.length) : K.take (j + 1) = K.take j ++ [K.getD j 0] := by
  rw [List.take_succ_eq_append_getElem h, getD_at h]
theorem cat_take {a b : List UInt8} {n j : Nat} (ha : a.length = n) : (a ++ b).take (n + j) = a ++ b.take j := by
  subst ha
  rw [List.take_append, List.take_of_length_le (by omega), Nat.add_sub_cancel_left]
theorem cat_drop {a b : List UInt8} {n j : Nat} (ha : a.length = n) : (a ++ b).drop (n + j) = b.drop j := by
  subst ha
  rw [List.drop_append, List.drop_of_length_le (by omega), Nat.add_sub_cancel_left, List.nil_append]
theorem take_len {x : List UInt8} {t : Nat} (ht : t ≤ x.length) : (x.take t).length = t := by rw [List.length_take]; omega

theorem typL_zero (x : List UInt8) (t : Nat) (K : List UInt8) : typL x t K 0 = x := by simp [typL]
theorem ovL_zero (x : List UInt8) (t : Nat) (K : List UInt8) : ovL x t K 0 = x := by simp [ovL]
section
variable {x K : List UInt8} {t j : Nat}
theorem typL_len (ht : t ≤ x.length) (hj : j ≤ K.length) : (typL x t K j).length = x.length + j := by
  unfold typL
  rw [List.length_append, List.length_append, List.length_take, List.length_take, List.length_drop]
  omega
theorem ovL_len (ht : t + j ≤ x.length) (hj : j ≤ K.length) : (ovL x t K j).length = x.length := by
  unfold ovL
  rw [List.length_append, List.length_append, List.length_take, List.length_take, List.length_drop]
  omega
theorem typL_take (ht : t ≤ x.length) (hj : j ≤ K.length) : (typL x t K j).take (t + j) = x.take t ++ K.take j := by
  unfold typL
  rw [cat_take (take_len ht)]
  have := cat_take (b := x.drop t) (j := 0) (take_len hj)
  rw [Nat.add_zero] at this
  rw [this, List.take_zero, List.append_nil]
theorem typL_drop (ht : t ≤ x.length) (hj : j ≤ K.length) : (typL x t K j).drop (t + j) = x.drop t := by
  unfold typL
  rw [cat_drop (take_len ht)]
  have := cat_drop (b := x.drop t) (j := 0) (take_len hj)
  rw [Nat.add_zero] at this
  rw [this, List.drop_zero]
theorem typL_mid (ht : t ≤ x.length) (hj : j ≤ K.length) : ((typL x t K j).drop t).take j = K.take j := by
  unfold typL
  have := cat_drop (b := K.take j ++ x.drop t) (j := 0) (take_len ht)
  rw [Nat.add_zero] at this
  rw [this, List.drop_zero]
  have h2 := cat_take (b := x.drop t) (j := 0) (take_len hj)
  rw [Nat.add_zero] at h2
  rw [h2, List.take_zero, List.append_nil]
theorem ty_step (ht : t ≤ x.length) (hj : j < K.length) (hl : x.length + j < 4096) : tyL (typL x t K j) (t + j) 4096 false (K.getD j 0) = some (typL x t K (j + 1), t + (j + 1)) := by
  unfold tyL
  rw [Bool.false_and, if_neg (by decide), if_neg (by rw [typL_len ht (by omega)]; omega), typL_take ht (by omega), typL_drop ht (by omega)]
  congr 2
  unfold typL
  rw [take_getD hj]
  simp
theorem ty_stop (ht : t ≤ x.length) (hj : j ≤ K.length) (hl : ¬ x.length + j < 4096) (u : UInt8) : tyL (typL x t K j) (t + j) 4096 false u = none := by
  unfold tyL
  rw [Bool.false_and, if_neg (by decide), if_pos (by rw [typL_len ht hj]; omega)]
theorem do_back (ht : t ≤ x.length) (hj : j + 1 ≤ K.length) : doL (typL x t K (j + 1)) (t + (j + 1)) 10 = some (typL x t K j, t + j) := by
  unfold doL
  rw [if_pos rfl, typL_drop ht hj, show t + (j + 1) - 1 = t + j by omega]
  have h1 := typL_take ht hj
  have h2 : (typL x t K (j + 1)).take (t + j) = x.take t ++ K.take j := by
    have := congrArg (List.take (t + j)) h1
    rw [List.take_take, show min (t + j) (t + (j + 1)) = t + j by omega] at this
    rw [this, cat_take (take_len ht), List.take_take, show min j (j + 1) = j by omega]
  rw [h2]
  unfold typL
  simp
theorem ov_step (ht : t + j < x.length) (hj : j < K.length) : tyL (ovL x t K j) (t + j) 0 true (K.getD j 0) = some (ovL x t K (j + 1), t + (j + 1)) := by
  have h0 : t ≤ x.length := by omega
  have h1 : (ovL x t K j).take (t + j) = x.take t ++ K.take j := by
    unfold ovL
    rw [cat_take (take_len h0)]
    have := cat_take (b := x.drop (t + j)) (j := 0) (take_len (x := K) (t := j) (by omega))
    rw [Nat.add_zero] at this
    rw [this, List.take_zero, List.append_nil]
  have h2 : (ovL x t K j).drop (t + j + 1) = x.drop (t + (j + 1)) := by
    unfold ovL
    rw [Nat.add_assoc, cat_drop (take_len h0), cat_drop (take_len (by omega)), List.drop_drop]
    congr 1
  unfold tyL
  rw [Bool.true_and, if_pos (by rw [ovL_len (by omega) (by omega)]; simpa using ht), h1, h2]
  congr 2
  unfold ovL
  rw [take_getD hj]
  simp
theorem ov_get (ht : t + j < x.length) (hj : j < K.length) : (ovL x t K (j + 1)).getD (t + j) 0 = K.getD j 0 := by
  have h0 : t ≤ x.length := by omega
  unfold ovL
  rw [List.getD_eq_getElem?_getD, List.getElem?_append_right (by rw [take_len h0]; omega), take_len h0, Nat.add_sub_cancel_left, take_getD hj, List.append_assoc,
    List.getElem?_append_right (by rw [take_len (by omega)]; omega), take_len (by omega), Nat.sub_self]
  rfl
end

end Go.Proofs.Ytbkpihegagflaaa
