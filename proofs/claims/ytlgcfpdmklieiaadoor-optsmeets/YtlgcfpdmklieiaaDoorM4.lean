/-
  Two ends, on lists: what comes of a verb that comes, and of asking, at either end; how they rest.
-/
import Derived.Test.YtlgcfpdmklieiaaDoorM3
namespace Go.Proofs.YtlgcfpdmklieiaaDoor
open Go.RowKit

theorem pj_cons (h : Bool) (p : Int) (x : Int × Int) (r : List (Int × Int)) : pj h p (x :: r) = if ofHim x.1 = h ∧ x.2 = codeI p then isYes x.1 :: pj h p r else pj h p r := rfl

theorem gotF_kept {X : O} {v c : Int} (hO : okO X = true) (hv : vOk v = true) (hk : plK c = true) :
    gotF X v c = (setO X (ofHim v) (plI c) (gF ((sideF X (ofHim v)).at_.at (plI c)) (isYes v) ((sideF X (ofHim v)).may.at (plI c))).1,
      sayL (sideF X (ofHim v)).yes (sideF X (ofHim v)).no (codeI (plI c)) (gF ((sideF X (ofHim v)).at_.at (plI c)) (isYes v) ((sideF X (ofHim v)).may.at (plI c))).2.1,
      (gF ((sideF X (ofHim v)).at_.at (plI c)) (isYes v) ((sideF X (ofHim v)).may.at (plI c))).2.2) := by
  have hc : cOk c = true := by rw [← code_pl hk]; exact code_ok _
  unfold gotF
  rw [hO, hv, hc, hk, if_neg (by simp), if_neg (by simp)]

section
variable {A B : O} {s t : List (Int × Int)} {said asked : Nat}

theorem Meets.said_le (h : Meets A B s t said asked) : said ≤ 2 * asked := by
  obtain ⟨d, _, hd⟩ := h.ch
  omega

theorem Meets.come0 {v c : Int} (h : Meets A B ((v, c) :: s) t said asked) {A' : O} {L : List (Int × Int)} {e : Int} (hz : gotF A v c = (A', L, e)) :
    e = 0 ∧ Meets A' B s (t ++ L) (said + L.length) asked := by
  obtain ⟨hv, hk⟩ := h.ks (v, c) (by simp)
  simp only [] at hv hk
  have hp := P4_pl c
  have oG := (got_only A v c h.okA).1.ok
  rw [hz] at oG
  rw [gotF_kept h.okA hv hk] at hz
  have hs := (gF_ok _ (isYes v) _ (okF_at _ _ _ hp (okO_side h.okA (ofHim v)))).2
  obtain ⟨d, hd, hsum⟩ := h.ch
  obtain ⟨rk, hf⟩ := hd (ofHim v) (plI c) hp
  rw [pj_cons, if_pos ⟨rfl, (code_pl hk).symm⟩] at hf
  obtain ⟨⟨z, sy, er⟩, hg⟩ : ∃ z, gF ((sideF A (ofHim v)).at_.at (plI c)) (isYes v) ((sideF A (ofHim v)).may.at (plI c)) = z := ⟨_, rfl⟩
  rw [hg] at hz hs
  simp only [Prod.mk.injEq] at hz
  obtain ⟨hA, hLL, he⟩ := hz
  obtain ⟨e0, rk', _, d', hf', hle⟩ := Meet.come0 (said := d (ofHim v, plI c)) (asked := d (ofHim v, plI c)) ⟨_, hf, by omega⟩ hg
  have hlen : L.length = sayN sy := by rw [← hLL]; exact sayL_len _ _ _ _ hs
  refine ⟨by rw [← he]; exact e0, oG, h.okB, h.ks.tail, h.kt.append (by rw [← hLL]; exact kept_say A _ _ _ hp), fun k => if k = (ofHim v, plI c) then d' else d k, fun h2 p2 hp2 => ?_, ?_⟩
  · have eL : pj (!h2) p2 (t ++ L) = pj (!h2) p2 t ++ (if h2 = ofHim v ∧ p2 = plI c then sayB sy else []) := by
      rw [pj_append, ← hLL, pj_say A _ _ _ _ _ hp hp2 hs]
      congr 1
      cases h2 <;> cases ofHim v <;> simp
    by_cases e : h2 = ofHim v ∧ p2 = plI c
    · obtain ⟨rfl, rfl⟩ := e
      refine ⟨rk', ?_⟩
      simp only [if_true]
      rw [eL, if_pos ⟨rfl, rfl⟩, ← hA, may_setO, side_setO _ _ _ _ _ _ hp hp, if_pos ⟨rfl, rfl⟩]
      exact hf'
    · obtain ⟨rk2, hf2⟩ := hd h2 p2 hp2
      have en : ¬ ((h2, p2) = (ofHim v, plI c)) := fun x => e (by simpa using x)
      have ec : ¬ (ofHim v = h2 ∧ c = codeI p2) := by
        rintro ⟨rfl, e2⟩
        refine e ⟨rfl, codeI_inj hp2 hp ?_⟩
        rw [code_pl hk, e2]
      rw [pj_cons, if_neg ec] at hf2
      refine ⟨rk2, ?_⟩
      simp only [en, if_false]
      rw [eL, if_neg e, List.append_nil, ← hA, may_setO, side_setO _ _ _ _ _ _ hp hp2, if_neg e]
      exact hf2
  · have := sum8_upd d (ofHim v) hp d'
    rw [hlen]
    omega

theorem Meets.come1 {v c : Int} (h : Meets A B s ((v, c) :: t) said asked) {B' : O} {L : List (Int × Int)} {e : Int} (hz : gotF B v c = (B', L, e)) :
    e = 0 ∧ Meets A B' (s ++ L) t (said + L.length) asked := by
  obtain ⟨hv, hk⟩ := h.kt (v, c) (by simp)
  simp only [] at hv hk
  have hp := P4_pl c
  have oG := (got_only B v c h.okB).1.ok
  rw [hz] at oG
  rw [gotF_kept h.okB hv hk] at hz
  have hs := (gF_ok _ (isYes v) _ (okF_at _ _ _ hp (okO_side h.okB (ofHim v)))).2
  obtain ⟨d, hd, hsum⟩ := h.ch
  obtain ⟨rk, hf⟩ := hd (!ofHim v) (plI c) hp
  rw [Bool.not_not, pj_cons, if_pos ⟨rfl, (code_pl hk).symm⟩] at hf
  obtain ⟨⟨z, sy, er⟩, hg⟩ : ∃ z, gF ((sideF B (ofHim v)).at_.at (plI c)) (isYes v) ((sideF B (ofHim v)).may.at (plI c)) = z := ⟨_, rfl⟩
  rw [hg] at hz hs
  simp only [Prod.mk.injEq] at hz
  obtain ⟨hA, hLL, he⟩ := hz
  obtain ⟨e0, rk', _, d', hf', hle⟩ := Meet.come1 (said := d (!ofHim v, plI c)) (asked := d (!ofHim v, plI c)) ⟨_, hf, by omega⟩ hg
  have hlen : L.length = sayN sy := by rw [← hLL]; exact sayL_len _ _ _ _ hs
  refine ⟨by rw [← he]; exact e0, h.okA, oG, h.ks.append (by rw [← hLL]; exact kept_say B _ _ _ hp), h.kt.tail, fun k => if k = (!ofHim v, plI c) then d' else d k, fun h2 p2 hp2 => ?_, ?_⟩
  · have eL : pj h2 p2 (s ++ L) = pj h2 p2 s ++ (if h2 = !ofHim v ∧ p2 = plI c then sayB sy else []) := by
      rw [pj_append, ← hLL, pj_say B _ _ _ _ _ hp hp2 hs]
    by_cases e : h2 = !ofHim v ∧ p2 = plI c
    · obtain ⟨rfl, rfl⟩ := e
      refine ⟨rk', ?_⟩
      simp only [if_true]
      rw [eL, if_pos ⟨rfl, rfl⟩, Bool.not_not, ← hA, may_setO, side_setO _ _ _ _ _ _ hp hp, if_pos ⟨rfl, rfl⟩]
      exact hf'
    · obtain ⟨rk2, hf2⟩ := hd h2 p2 hp2
      have en : ¬ ((h2, p2) = (!ofHim v, plI c)) := fun x => e (by simpa using x)
      have ec : ¬ (ofHim v = !h2 ∧ c = codeI p2) := by
        rintro ⟨e1, e2⟩
        refine e ⟨by rw [e1, Bool.not_not], codeI_inj hp2 hp ?_⟩
        rw [code_pl hk, e2]
      have es : ¬ ((!h2) = ofHim v ∧ p2 = plI c) := fun x => e ⟨by rw [← x.1, Bool.not_not], x.2⟩
      rw [pj_cons, if_neg ec] at hf2
      refine ⟨rk2, ?_⟩
      simp only [en, if_false]
      rw [eL, if_neg e, List.append_nil, ← hA, may_setO, side_setO _ _ _ _ _ _ hp hp2, if_neg es]
      exact hf2
  · have := sum8_upd d (!ofHim v) hp d'
    rw [hlen]
    omega

theorem askF_in {X : O} {b : Bool} {p : Int} {on : Bool} (hO : okO X = true) (hp : P4 p) : askF X b p on =
    if (on && !(sideF X b).may.at p) = true then (X, [], 5)
    else (setO X b p (aF ((sideF X b).at_.at p) on).1, sayL (sideF X b).yes (sideF X b).no (codeI p) (aF ((sideF X b).at_.at p) on).2.1, (aF ((sideF X b).at_.at p) on).2.2) := by
  have hpo : pOk p = true := by unfold pOk; unfold P4 at hp; simp; omega
  unfold askF
  rw [hO, hpo, if_neg (by simp)]

theorem Meets.ask0 (h : Meets A B s t said asked) {b : Bool} {p : Int} (hp : P4 p) {on : Bool} {A' : O} {L : List (Int × Int)} {e : Int} (hz : askF A b p on = (A', L, e)) :
    Meets A' B s (t ++ L) (said + L.length) (asked + if e = 0 then 1 else 0) := by
  have oG := (ask_only A b p on h.okA).1.ok
  rw [hz] at oG
  rw [askF_in h.okA hp] at hz
  by_cases hm : (on && !(sideF A b).may.at p) = true
  · rw [if_pos hm] at hz
    simp only [Prod.mk.injEq] at hz
    obtain ⟨rfl, rfl, rfl⟩ := hz
    rw [List.append_nil]
    exact h
  · rw [if_neg hm] at hz
    have hm' : (on && !(sideF A b).may.at p) = false := by simpa using hm
    have hs := (aF_ok _ on _ (okF_at _ _ _ hp (okO_side h.okA b)) hm').2
    obtain ⟨d, hd, hsum⟩ := h.ch
    obtain ⟨rk, hf⟩ := hd b p hp
    obtain ⟨⟨z, sy, er⟩, hg⟩ : ∃ z, aF ((sideF A b).at_.at p) on = z := ⟨_, rfl⟩
    rw [hg] at hz hs
    simp only [Prod.mk.injEq] at hz
    obtain ⟨hA, hLL, he⟩ := hz
    have ho : (sideF A b).may.at p = true ∨ on = false := by
      cases on
      · exact .inr rfl
      · exact .inl (by simpa using hm')
    obtain ⟨_, rk', d', hf', hle⟩ := Meet.ask0 (said := d (b, p)) (asked := d (b, p)) ⟨_, hf, by omega⟩ ho hg
    have hlen : L.length = sayN sy := by rw [← hLL]; exact sayL_len _ _ _ _ hs
    rw [he] at hle
    refine ⟨oG, h.okB, h.ks, h.kt.append (by rw [← hLL]; exact kept_say A _ _ _ hp), fun k => if k = (b, p) then d' else d k, fun h2 p2 hp2 => ?_, ?_⟩
    · have eL : pj (!h2) p2 (t ++ L) = pj (!h2) p2 t ++ (if h2 = b ∧ p2 = p then sayB sy else []) := by
        rw [pj_append, ← hLL, pj_say A _ _ _ _ _ hp hp2 hs]
        congr 1
        cases h2 <;> cases b <;> simp
      by_cases e : h2 = b ∧ p2 = p
      · obtain ⟨rfl, rfl⟩ := e
        refine ⟨rk', ?_⟩
        simp only [if_true]
        rw [eL, if_pos ⟨rfl, rfl⟩, ← hA, may_setO, side_setO _ _ _ _ _ _ hp hp, if_pos ⟨rfl, rfl⟩]
        exact hf'
      · obtain ⟨rk2, hf2⟩ := hd h2 p2 hp2
        have en : ¬ ((h2, p2) = (b, p)) := fun x => e (by simpa using x)
        refine ⟨rk2, ?_⟩
        simp only [en, if_false]
        rw [eL, if_neg e, List.append_nil, ← hA, may_setO, side_setO _ _ _ _ _ _ hp hp2, if_neg e]
        exact hf2
    · have := sum8_upd d b hp d'
      rw [hlen]
      omega

theorem Meets.ask1 (h : Meets A B s t said asked) {b : Bool} {p : Int} (hp : P4 p) {on : Bool} {B' : O} {L : List (Int × Int)} {e : Int} (hz : askF B b p on = (B', L, e)) :
    Meets A B' (s ++ L) t (said + L.length) (asked + if e = 0 then 1 else 0) := by
  have oG := (ask_only B b p on h.okB).1.ok
  rw [hz] at oG
  rw [askF_in h.okB hp] at hz
  by_cases hm : (on && !(sideF B b).may.at p) = true
  · rw [if_pos hm] at hz
    simp only [Prod.mk.injEq] at hz
    obtain ⟨rfl, rfl, rfl⟩ := hz
    rw [List.append_nil]
    exact h
  · rw [if_neg hm] at hz
    have hm' : (on && !(sideF B b).may.at p) = false := by simpa using hm
    have hs := (aF_ok _ on _ (okF_at _ _ _ hp (okO_side h.okB b)) hm').2
    obtain ⟨d, hd, hsum⟩ := h.ch
    obtain ⟨rk, hf⟩ := hd (!b) p hp
    rw [Bool.not_not] at hf
    obtain ⟨⟨z, sy, er⟩, hg⟩ : ∃ z, aF ((sideF B b).at_.at p) on = z := ⟨_, rfl⟩
    rw [hg] at hz hs
    simp only [Prod.mk.injEq] at hz
    obtain ⟨hA, hLL, he⟩ := hz
    have ho : (sideF B b).may.at p = true ∨ on = false := by
      cases on
      · exact .inr rfl
      · exact .inl (by simpa using hm')
    obtain ⟨_, rk', d', hf', hle⟩ := Meet.ask1 (said := d (!b, p)) (asked := d (!b, p)) ⟨_, hf, by omega⟩ ho hg
    have hlen : L.length = sayN sy := by rw [← hLL]; exact sayL_len _ _ _ _ hs
    rw [he] at hle
    refine ⟨h.okA, oG, h.ks.append (by rw [← hLL]; exact kept_say B _ _ _ hp), h.kt, fun k => if k = (!b, p) then d' else d k, fun h2 p2 hp2 => ?_, ?_⟩
    · have eL : pj h2 p2 (s ++ L) = pj h2 p2 s ++ (if h2 = !b ∧ p2 = p then sayB sy else []) := by
        rw [pj_append, ← hLL, pj_say B _ _ _ _ _ hp hp2 hs]
      by_cases e : h2 = !b ∧ p2 = p
      · obtain ⟨rfl, rfl⟩ := e
        refine ⟨rk', ?_⟩
        simp only [if_true]
        rw [eL, if_pos ⟨rfl, rfl⟩, Bool.not_not, ← hA, may_setO, side_setO _ _ _ _ _ _ hp hp, if_pos ⟨rfl, rfl⟩]
        exact hf'
      · obtain ⟨rk2, hf2⟩ := hd h2 p2 hp2
        have en : ¬ ((h2, p2) = (!b, p)) := fun x => e (by simpa using x)
        have es : ¬ ((!h2) = b ∧ p2 = p) := fun x => e ⟨by rw [← x.1, Bool.not_not], x.2⟩
        refine ⟨rk2, ?_⟩
        simp only [en, if_false]
        rw [eL, if_neg e, List.append_nil, ← hA, may_setO, side_setO _ _ _ _ _ _ hp hp2, if_neg es]
        exact hf2
    · have := sum8_upd d (!b) hp d'
      rw [hlen]
      omega

theorem Meets.rest (h : Meets A B [] [] said asked) (i : Nat) (hi : i < 4) : A.us.at i = B.him.at i ∧ A.him.at i = B.us.at i ∧ A.us.at i ≤ 1 ∧ A.him.at i ≤ 1 := by
  have hp : P4 (i : Int) := by unfold P4; omega
  obtain ⟨d, hd, _⟩ := h.ch
  obtain ⟨r0, h0⟩ := hd false i hp
  obtain ⟨r1, h1⟩ := hd true i hp
  have a0 := Meet.rest (said := d (false, (i : Int))) (asked := d (false, (i : Int))) ⟨_, h0, by omega⟩
  have a1 := Meet.rest (said := d (true, (i : Int))) (asked := d (true, (i : Int))) ⟨_, h1, by omega⟩
  refine ⟨a0.1, a1.1, ?_, ?_⟩
  · have e : (sideF A false).at_.at i = A.us.at i := rfl
    rw [e] at a0
    rcases a0.2 with x | ⟨x, _⟩ <;> omega
  · have e : (sideF A true).at_.at i = A.him.at i := rfl
    rw [e] at a1
    rcases a1.2 with x | ⟨x, _⟩ <;> omega

theorem Meets.start (m0 m1 n0 n1 : Four Bool) : Meets ⟨⟨0, 0, 0, 0⟩, ⟨0, 0, 0, 0⟩, m0, n0⟩ ⟨⟨0, 0, 0, 0⟩, ⟨0, 0, 0, 0⟩, m1, n1⟩ [] [] 0 0 := by
  refine ⟨by simp [okO, okF, ok1], by simp [okO, okF, ok1], fun x hx => by simp at hx, fun x hx => by simp at hx, fun _ => 0, fun h p hp => ?_, by decide⟩
  have e : ∀ a b : Bool, ∃ rk, findT (a, b, 0, 0, [], []) = some (0, rk) := by
    intro a b
    cases a <;> cases b <;> exact ⟨0, by decide +kernel⟩
  rcases hp with rfl | rfl | rfl | rfl <;> cases h <;> exact e _ _
end

end Go.Proofs.YtlgcfpdmklieiaaDoor
