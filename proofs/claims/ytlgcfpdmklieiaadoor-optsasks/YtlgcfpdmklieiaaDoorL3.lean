/-
  The law OptsAsks, walked.
-/
import Derived.Test.YtlgcfpdmklieiaaDoorL3b
import Derived.Test.YtlgcfpdmklieiaaDoorL3c
namespace Go.Proofs.YtlgcfpdmklieiaaDoor
open Go.RowKit

theorem side_set (X : O) (b : Bool) (p q : Int) (hp : P4 p) : (sideF (setO X b p q) b).at_.at p = q := by
  cases b
  · show (X.us.set p q).at p = q
    rw [at_set _ _ _ _ hp hp, if_pos rfl]
  · show (X.him.set p q).at p = q
    rw [at_set _ _ _ _ hp hp, if_pos rfl]

theorem asks_law (X : O) (hm on : Bool) (p : Int) (A : Option Addr) (l : List (Int × Int)) (n cp : Nat) (hn : n = l.length) (w : World) (hL : LaidA w) (hr : RdV w A l cp) :
    Calls Tryd.prog 7 #[X.v, .agg #[.bool hm, .bool on, .int .i64 p], .slice A n cp] w fun e w' => e = .returned (.bool true) ∧ Below w.heap.size w w' := by
  cases h : okO X
  · exact asks_bad X hm on p A n cp h w hL
  · obtain ⟨i, hi, h3⟩ : ∃ i : Nat, i < 4 ∧ p % 4 = (i : Int) := ⟨(p % 4).toNat, by omega, by omega⟩
    have hp : P4 (i : Int) := by unfold P4; omega
    have hpo : pOk (i : Int) = true := by unfold pOk; simp; omega
    have ho := (ask_only X hm i on h).1.ok
    have hq := ok1_range (okF_at _ _ (i : Int) hp (okO_side h hm))
    cases hmm : (on && !(sideF X hm).may.at i)
    · have z : askF X hm i on = (setO X hm i (aF ((sideF X hm).at_.at i) on).1, sayL (sideF X hm).yes (sideF X hm).no (codeI i) (aF ((sideF X hm).at_.at i) on).2.1, (aF ((sideF X hm).at_.at i) on).2.2) := by
        unfold askF
        rw [h, hpo, if_neg (by simp), hmm, if_neg (by simp)]
      rw [z] at ho
      have hw := wF_aF _ on hq
      rw [← side_set X hm i (aF ((sideF X hm).at_.at i) on).1 hp] at hw
      cases hm
      · exact asks_go_f X on p i hi h3 A l n cp hn h hmm _ _ _ z ho hw w hL hr
      · exact asks_go_t X on p i hi h3 A l n cp hn h hmm _ _ _ z ho hw w hL hr
    · have z : askF X hm i on = (X, [], 5) := by
        unfold askF
        rw [h, hpo, if_neg (by simp), hmm, if_pos rfl]
      rw [Bool.and_eq_true, Bool.not_eq_true'] at hmm
      obtain ⟨rfl, hmm⟩ := hmm
      cases hm
      · exact asks_not_f X p i hi h3 A n cp h hmm z w hL
      · exact asks_not_t X p i hi h3 A n cp h hmm z w hL

end Go.Proofs.YtlgcfpdmklieiaaDoor
