/-
  What Got and Ask keep: one option of one side at most is changed, all may be again, one answer at most.
-/
import Derived.Test.YtlgcfpdmklieiaaDoorV2
namespace Go.Proofs.YtlgcfpdmklieiaaDoor
open Go.RowKit

theorem okF_set (x : Four Int) (m : Four Bool) (p q : Int) (hp : P4 p) (h : okF x m = true) (hq : ok1 q (m.at p) = true) : okF (x.set p q) m = true := by
  unfold okF at h ⊢
  simp only [Bool.and_eq_true] at h ⊢
  obtain ⟨h0, h1, h2, h3⟩ := h
  rcases hp with rfl | rfl | rfl | rfl
  · exact ⟨hq, h1, h2, h3⟩
  · exact ⟨h0, hq, h2, h3⟩
  · exact ⟨h0, h1, hq, h3⟩
  · exact ⟨h0, h1, h2, hq⟩

theorem okF_at (x : Four Int) (m : Four Bool) (p : Int) (hp : P4 p) (h : okF x m = true) : ok1 (x.at p) (m.at p) = true := by
  unfold okF at h
  simp only [Bool.and_eq_true] at h
  obtain ⟨h0, h1, h2, h3⟩ := h
  rcases hp with rfl | rfl | rfl | rfl
  · exact h0
  · exact h1
  · exact h2
  · exact h3

theorem at_set {α : Type} (x : Four α) (p i : Int) (z : α) (hp : P4 p) (hi : P4 i) : (x.set p z).at i = if i = p then z else x.at i := by
  rcases hp with rfl | rfl | rfl | rfl <;> rcases hi with rfl | rfl | rfl | rfl <;> rfl

/-- Where it is and may be, there Got and Ask leave it. -/
theorem ok1_six {q : Int} {m : Bool} (h : ok1 q m = true) : (q = 0 ∨ q = 1 ∨ q = 2 ∨ q = 3 ∨ q = 4 ∨ q = 5) ∧ (q = 0 ∨ m = true) := by
  unfold ok1 at h
  simp only [Bool.and_eq_true, decide_eq_true_eq, Bool.or_eq_true] at h
  exact ⟨by omega, h.2⟩

theorem gF_ok (q : Int) (y m : Bool) (h : ok1 q m = true) : ok1 (gF q y m).1 m = true ∧ ((gF q y m).2.1 = 0 ∨ (gF q y m).2.1 = 1 ∨ (gF q y m).2.1 = 2) := by
  obtain ⟨h6, hm⟩ := ok1_six h
  rcases h6 with rfl | rfl | rfl | rfl | rfl | rfl <;> cases y <;> cases m <;> first | (exact ⟨by decide, by decide⟩) | (exfalso; revert hm; decide)

theorem aF_ok (q : Int) (on m : Bool) (h : ok1 q m = true) (ho : (on && !m) = false) : ok1 (aF q on).1 m = true ∧ ((aF q on).2.1 = 0 ∨ (aF q on).2.1 = 1 ∨ (aF q on).2.1 = 2) := by
  obtain ⟨h6, hm⟩ := ok1_six h
  rcases h6 with rfl | rfl | rfl | rfl | rfl | rfl <;> cases on <;> cases m <;> first | (exact ⟨by decide, by decide⟩) | (exfalso; revert hm; decide) | (exfalso; revert ho; decide)

theorem okO_side {X : O} (h : okO X = true) (b : Bool) : okF (sideF X b).at_ (sideF X b).may = true := by
  unfold okO at h
  rw [Bool.and_eq_true] at h
  cases b
  · exact h.1
  · exact h.2

theorem okO_set {X : O} (h : okO X = true) (b : Bool) (p q : Int) (hp : P4 p) (hq : ok1 q ((sideF X b).may.at p) = true) : okO (setO X b p q) = true := by
  have h1 := okO_side h b
  have h2 := okF_set _ _ p q hp h1 hq
  unfold okO at h ⊢
  rw [Bool.and_eq_true] at h ⊢
  cases b
  · exact ⟨h2, h.2⟩
  · exact ⟨h.1, h2⟩

/-- What is changed of X in Y: at most the option p of the side b. -/
structure Only (X Y : O) (b : Bool) (p : Int) (found : Bool) : Prop where
  ok : okO Y = true
  mu : Y.mu = X.mu
  mh : Y.mh = X.mh
  him : ∀ i, P4 i → Y.him.at i = X.him.at i ∨ (found = true ∧ i = p ∧ b = true)
  us : ∀ i, P4 i → Y.us.at i = X.us.at i ∨ (found = true ∧ i = p ∧ b = false)

theorem Only.refl {X : O} (h : okO X = true) (b : Bool) (p : Int) (f : Bool) : Only X X b p f := ⟨h, rfl, rfl, fun _ _ => .inl rfl, fun _ _ => .inl rfl⟩

theorem Only.set {X : O} (h : okO X = true) (b : Bool) (p q : Int) (hp : P4 p) (hq : ok1 q ((sideF X b).may.at p) = true) : Only X (setO X b p q) b p true := by
  refine ⟨okO_set h b p q hp hq, by cases b <;> rfl, by cases b <;> rfl, fun i hi => ?_, fun i hi => ?_⟩
  · cases b
    · exact .inl rfl
    · show (X.him.set p q).at i = _ ∨ _
      rw [at_set _ _ _ _ hp hi]
      by_cases e : i = p
      · exact .inr ⟨rfl, e, rfl⟩
      · rw [if_neg e]; exact .inl rfl
  · cases b
    · show (X.us.set p q).at i = _ ∨ _
      rw [at_set _ _ _ _ hp hi]
      by_cases e : i = p
      · exact .inr ⟨rfl, e, rfl⟩
      · rw [if_neg e]; exact .inl rfl
    · exact .inl rfl

/-- One answer at most, a verb of that code, which may be. -/
def Ans (L : List (Int × Int)) (c : Int) : Prop := L = [] ∨ ∃ u, L = [(u, c)] ∧ (vOk u && cOk c) = true

theorem sayL_ans {y n c s : Int} (hy : vOk y = true) (hn : vOk n = true) (hc : cOk c = true) (hs : s = 0 ∨ s = 1 ∨ s = 2) : Ans (sayL y n c s) c := by
  rcases hs with rfl | rfl | rfl
  · exact .inl rfl
  · exact .inr ⟨y, rfl, by rw [hy, hc]; rfl⟩
  · exact .inr ⟨n, rfl, by rw [hn, hc]; rfl⟩

theorem side_verbs (X : O) (b : Bool) : vOk (sideF X b).yes = true ∧ vOk (sideF X b).no = true := by cases b <;> exact ⟨rfl, rfl⟩

theorem code_pl {c : Int} (h : plK c = true) : codeI (plI c) = c := by
  unfold plK at h
  simp only [decide_eq_true_eq] at h
  rcases h with rfl | rfl | rfl | rfl <;> rfl
theorem code_ok (p : Int) : cOk (codeI p) = true := by
  unfold codeI
  split
  · decide
  · split
    · decide
    · split <;> decide
theorem pl_code {p : Int} (hp : P4 p) : plI (codeI p) = p ∧ plK (codeI p) = true := by
  rcases hp with rfl | rfl | rfl | rfl <;> exact ⟨rfl, rfl⟩

theorem nk_ans {v c : Int} (hc : cOk c = true) : Ans (nkF v c) c := by
  unfold nkF
  split
  · split
    · exact .inr ⟨251, rfl, by rw [hc]; decide⟩
    · exact .inl rfl
  · split
    · exact .inr ⟨254, rfl, by rw [hc]; decide⟩
    · split
      · exact .inr ⟨252, rfl, by rw [hc]; decide⟩
      · exact .inl rfl

theorem got_only (X : O) (v c : Int) (h : okO X = true) : Only X (gotF X v c).1 (ofHim v) (plI c) (plK c) ∧ Ans (gotF X v c).2.1 c := by
  unfold gotF
  cases hb : (okO X && (vOk v && cOk c))
  · rw [if_pos rfl]
    exact ⟨Only.refl h _ _ _, .inl rfl⟩
  · rw [if_neg (by simp)]
    have hc : cOk c = true := by simp only [Bool.and_eq_true] at hb; exact hb.2.2
    cases hk : plK c
    · rw [if_pos rfl]
      exact ⟨Only.refl h _ _ _, nk_ans hc⟩
    · rw [if_neg (by simp)]
      have hp := P4_pl c
      have h1 := gF_ok _ (isYes v) _ (okF_at _ _ _ hp (okO_side h (ofHim v)))
      refine ⟨Only.set h _ _ _ hp h1.1, ?_⟩
      rw [code_pl hk]
      exact sayL_ans (side_verbs X _).1 (side_verbs X _).2 hc h1.2

theorem ask_only (X : O) (b : Bool) (p : Int) (on : Bool) (h : okO X = true) : Only X (askF X b p on).1 b p true ∧ Ans (askF X b p on).2.1 (codeI p) := by
  unfold askF
  cases hb : (okO X && pOk p)
  · rw [if_pos rfl]
    exact ⟨Only.refl h _ _ _, .inl rfl⟩
  · rw [if_neg (by simp)]
    rw [Bool.and_eq_true] at hb
    have hp := P4_ok hb.2
    cases hm : (on && !(sideF X b).may.at p)
    · rw [if_neg (by simp)]
      have h1 := aF_ok _ on _ (okF_at _ _ _ hp (okO_side h b)) hm
      exact ⟨Only.set h _ _ _ hp h1.1, sayL_ans (side_verbs X _).1 (side_verbs X _).2 (code_ok p) h1.2⟩
    · rw [if_pos rfl]
      exact ⟨Only.refl h _ _ _, .inl rfl⟩

end Go.Proofs.YtlgcfpdmklieiaaDoor
