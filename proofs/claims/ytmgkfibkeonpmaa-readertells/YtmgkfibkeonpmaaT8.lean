/-
  Data laid and read, as functions on lists: what was laid is read; laid one behind the other; cut off anywhere; what ends data.
-/
import Derived.Test.YtmgkfibkeonpmaaT5
namespace Go.Proofs.Ytmgkfibkeonpmaa

theorem layL_cons (a : UInt8) (r : List UInt8) : layL (a :: r) = lay1 a ++ layL r := by simp [layL]
theorem layL_append (a b : List UInt8) : layL (a ++ b) = layL a ++ layL b := by simp [layL]

theorem lay1_255 : lay1 255 = [255, 255] := rfl
theorem lay1_13 : lay1 13 = [13, 10] := rfl
theorem lay1_other {u : UInt8} (h1 : u ≠ 255) (h2 : u ≠ 13) : lay1 u = [u] := by unfold lay1; rw [if_neg h1, if_neg h2]

theorem wid_lay255 (t : List UInt8) : wid (255 :: 255 :: t) = 2 := by simp [wid]
theorem wid_lay13 (t : List UInt8) : wid (13 :: 10 :: t) = 2 := by simp [wid]
theorem wid_layo {u : UInt8} (h1 : u ≠ 255) (h2 : u ≠ 13) (t : List UInt8) : wid (u :: t) = 1 := by simp [wid, h1, h2]

theorem readD_255 (t : List UInt8) : readD (255 :: 255 :: t) = (255 :: (readD t).1, 2 + (readD t).2) := by
  rw [readD_go (by simp) (by rw [wid_lay255]; decide), wid_lay255]; rfl
theorem readD_13 (t : List UInt8) : readD (13 :: 10 :: t) = (13 :: (readD t).1, 2 + (readD t).2) := by
  rw [readD_go (by simp) (by rw [wid_lay13]; decide), wid_lay13]; rfl
theorem readD_o {u : UInt8} (h1 : u ≠ 255) (h2 : u ≠ 13) (t : List UInt8) : readD (u :: t) = (u :: (readD t).1, 1 + (readD t).2) := by
  rw [readD_go (by simp) (by rw [wid_layo h1 h2]; decide), wid_layo h1 h2]; rfl
theorem readD_nil : readD [] = ([], 0) := readD_stop (.inl rfl)

theorem read_laid (b t : List UInt8) (ht : readD t = ([], 0)) : readD (layL b ++ t) = (b, (layL b).length) := by
  induction b with
  | nil => simpa [layL] using ht
  | cons a r ih =>
    rw [layL_cons, List.append_assoc]
    by_cases h1 : a = 255
    · subst h1
      show readD (255 :: 255 :: (layL r ++ t)) = _
      rw [readD_255, ih, lay1_255, List.length_append, List.length_cons, List.length_cons, List.length_nil]
    · by_cases h2 : a = 13
      · subst h2
        show readD (13 :: 10 :: (layL r ++ t)) = _
        rw [readD_13, ih, lay1_13, List.length_append, List.length_cons, List.length_cons, List.length_nil]
      · rw [lay1_other h1 h2]
        show readD (a :: (layL r ++ t)) = _
        rw [readD_o h1 h2, ih, List.length_append, List.length_cons, List.length_nil]

theorem read_lay (b : List UInt8) : readD (layL b) = (b, (layL b).length) := by
  have := read_laid b [] readD_nil
  rwa [List.append_nil] at this

theorem read_cmd (c : UInt8) (h : c ≠ 255) : readD [255, c] = ([], 0) := readD_stop (.inr (by simp [wid, h]))

theorem layL_inj {a b : List UInt8} (h : layL a = layL b) : a = b := by
  have h1 := read_lay a
  have h2 := read_lay b
  rw [h, h2] at h1
  exact (congrArg Prod.fst h1).symm

theorem layL_beq (a b : List UInt8) : (layL a == layL b) = (a == b) := by
  by_cases h : a = b
  · subst h; simp
  · rw [beq_eq_false_iff_ne.2 h, beq_eq_false_iff_ne.2 (fun e => h (layL_inj e))]

/-- Is one of them a 255 or a 13? -/
def oddL (l : List UInt8) : Bool := l.any fun u => u == 255 || u == 13

theorem plain_odd (l : List UInt8) : decide ((layL l).length = l.length) = !oddL l := by
  induction l with
  | nil => rfl
  | cons a r ih =>
    have hle := (layL_len r).1
    have e : oddL (a :: r) = ((a == 255 || a == 13) || oddL r) := rfl
    rw [layL_cons, e, List.length_append, List.length_cons]
    by_cases h1 : a = 255
    · subst h1
      rw [lay1_255]
      simp
      omega
    · by_cases h2 : a = 13
      · subst h2
        rw [lay1_13]
        simp
        omega
      · rw [lay1_other h1 h2, beq_eq_false_iff_ne.2 h1, beq_eq_false_iff_ne.2 h2]
        rw [Bool.false_or, Bool.false_or, ← ih]
        simp
        omega

theorem plain_beq (l : List UInt8) : decide ((layL l).length = l.length) = (layL l == l) := by
  by_cases h : (layL l).length = l.length
  · have : layL l = l := by
      induction l with
      | nil => rfl
      | cons a r ih =>
        have hle := (layL_len r).1
        rw [layL_cons, List.length_append, List.length_cons] at h
        by_cases h1 : a = 255
        · subst h1; rw [lay1_255] at h; simp at h; omega
        · by_cases h2 : a = 13
          · subst h2; rw [lay1_13] at h; simp at h; omega
          · rw [layL_cons, lay1_other h1 h2]
            rw [lay1_other h1 h2] at h
            simp at h
            rw [ih (by omega)]
            rfl
    rw [this]; simp
  · rw [beq_eq_false_iff_ne.2 (fun e => h (by rw [e]))]; simp [h]

/-- Of what was laid, cut off anywhere. -/
theorem read_cut (b : List UInt8) (m : Nat) (hm : m ≤ (layL b).length) :
    (readD ((layL b).take m)).2 ≤ m ∧ m - (readD ((layL b).take m)).2 ≤ 1 ∧ (readD ((layL b).take m)).1 <+: b := by
  induction b generalizing m with
  | nil =>
    have : m = 0 := by simpa [layL] using hm
    subst this
    rw [List.take_zero, readD_nil]
    simp
  | cons a r ih =>
    rw [layL_cons] at hm ⊢
    by_cases h1 : a = 255
    · subst h1
      rw [lay1_255] at hm ⊢
      match m, hm with
      | 0, _ => rw [List.take_zero, readD_nil]; simp
      | 1, _ =>
        have : readD ([255, 255] ++ layL r |>.take 1) = ([], 0) := readD_stop (.inr (by simp [wid]))
        rw [this]; simp
      | m + 2, hm =>
        have hm' : m ≤ (layL r).length := by simp at hm; omega
        obtain ⟨i1, i2, i3⟩ := ih m hm'
        have : readD ([255, 255] ++ layL r |>.take (m + 2)) = (255 :: (readD ((layL r).take m)).1, 2 + (readD ((layL r).take m)).2) := by
          show readD (255 :: 255 :: (layL r).take m) = _
          rw [readD_255]
        rw [this]
        refine ⟨by show 2 + _ ≤ _; omega, by show m + 2 - (2 + _) ≤ _; omega, ?_⟩
        exact List.cons_prefix_cons.2 ⟨rfl, i3⟩
    · by_cases h2 : a = 13
      · subst h2
        rw [lay1_13] at hm ⊢
        match m, hm with
        | 0, _ => rw [List.take_zero, readD_nil]; simp
        | 1, _ =>
          have : readD ([13, 10] ++ layL r |>.take 1) = ([13], 1) := ((RI.start [13]).step (by decide) (by decide)).fin (.inl (by decide))
          rw [this]; simp
        | m + 2, hm =>
          have hm' : m ≤ (layL r).length := by simp at hm; omega
          obtain ⟨i1, i2, i3⟩ := ih m hm'
          have : readD ([13, 10] ++ layL r |>.take (m + 2)) = (13 :: (readD ((layL r).take m)).1, 2 + (readD ((layL r).take m)).2) := by
            show readD (13 :: 10 :: (layL r).take m) = _
            rw [readD_13]
          rw [this]
          refine ⟨by show 2 + _ ≤ _; omega, by show m + 2 - (2 + _) ≤ _; omega, ?_⟩
          exact List.cons_prefix_cons.2 ⟨rfl, i3⟩
      · rw [lay1_other h1 h2] at hm ⊢
        match m, hm with
        | 0, _ => rw [List.take_zero, readD_nil]; simp
        | m + 1, hm =>
          have hm' : m ≤ (layL r).length := by simp at hm; omega
          obtain ⟨i1, i2, i3⟩ := ih m hm'
          have : readD ([a] ++ layL r |>.take (m + 1)) = (a :: (readD ((layL r).take m)).1, 1 + (readD ((layL r).take m)).2) := by
            show readD (a :: (layL r).take m) = _
            rw [readD_o h1 h2]
          rw [this]
          refine ⟨by show 1 + _ ≤ _; omega, by show m + 1 - (1 + _) ≤ _; omega, ?_⟩
          exact List.cons_prefix_cons.2 ⟨rfl, i3⟩

/-- What ends data: the octets' end, or a 255 that no 255 is behind. -/
theorem read_end (l : List UInt8) : (readD l).2 = l.length ∨ (l[(readD l).2]? = some 255 ∧ l[(readD l).2 + 1]? ≠ some 255) := by
  induction hn : l.length using Nat.strongRecOn generalizing l with
  | _ n ih =>
    by_cases h : l = []
    · subst h; rw [readD_nil]; left; simpa using hn
    · by_cases hw : wid l = 0
      · rw [readD_stop (.inr hw)]
        right
        unfold wid at hw
        split at hw
        · rename_i h0
          split at hw
          · cases hw
          · rename_i h1; exact ⟨h0, h1⟩
        · split at hw <;> cases hw
      · have hp : 0 < l.length := List.length_pos_iff.2 h
        have hle := wid_le l h
        have := ih (l.drop (wid l)).length (by rw [List.length_drop]; omega) (l.drop (wid l)) rfl
        rw [readD_go hp hw]
        rw [List.length_drop, List.getElem?_drop, List.getElem?_drop] at this
        rcases this with e | e
        · left; show wid l + _ = _; omega
        · right; exact e
end Go.Proofs.Ytmgkfibkeonpmaa
