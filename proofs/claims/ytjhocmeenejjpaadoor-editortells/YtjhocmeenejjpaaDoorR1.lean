/-
  The document's own line of two parts. No conditions beyond those each theorem states.
-/
import Derived.Test.YtjhocmeenejjpaaDoorL0
namespace Go.Proofs.YtjhocmeenejjpaaDoor
open Go.RowKit
set_option maxRecDepth 100000

/-- A line that a call has answered, and whether it was done. -/
def GotR (w : World) (L : List UInt8) (m : Nat) (z : Int) (d : Bool) (e : Ending) (w' : World) : Prop :=
  (∃ A c, e = .returned (.tuple #[.agg #[.slice A m c, .int .i64 z], .bool d]) ∧ Rd w' w'.heap.size A L c) ∧ Below w.heap.size w w'

theorem of_any (A A' : Option Addr) (l l' : List UInt8) (n n' c c' m : Nat) (w : World) (hn : n = l.length) (hn' : n' = l'.length) (hr : Rd w w.heap.size A l c) (hr' : Rd w w.heap.size A' l' c') (hl : n ≤ 100000) (hl' : n' ≤ 100000) (hm : (l ++ l').length = m) :
    Calls Tryd.prog 57 #[.slice A n c, .slice A' n' c'] w (GotN w (l ++ l') m (n : Int)) := by
  have HN := keepd hn
  have HN' := keepd hn'
  have HR := keepd hr
  have HR' := keepd hr'
  have HM := keepd hm
  have HL1 : Hid (([] : List UInt8).length + l.length ≤ 1000000) := by show _ ≤ _; rw [← hn]; simp; omega
  have HL2 : Hid (l.length + l'.length ≤ 1000000) := by show _ ≤ _; rw [← hn, ← hn']; omega
  clear hn hn' hr hr' hm
  go_enter Tryd.func57, Tryd.ntmps57
  go_upto_region 1 with fail
  generalize hV : w.alloc (.cells #[.slice none 0 0, .int .i64 0] 28) = V
  obtain ⟨H, HB⟩ := line_new _ _ _ _ hV
  have HLT := keepd H.out.lt
  have HE := keepd (empty_own V _ (Nat.le_refl _))
  have HRa : Hid (Rd (V.alloc (.cells #[] 5)) (V.alloc (.cells #[] 5)).heap.size A l c) := (HR.out.at_ HB.out).at_ (bAlloc (Below.refl _ _) _)
  have HSZ : Hid (V.heap.size ≤ (V.alloc (.cells #[] 5)).heap.size) := by show _ ≤ _; rw [World.size_alloc]; omega
  clear hV
  go_wp2_with (first
    | (at_builtin; refine wpList_app _ rfl (.tmp 5) (.tmp 6) rfl V.heap.size _ [] rfl HE.out _ A n c l rfl HN.out HRa.out HL1.out HSZ.out ?_; intro v1 w1 ho1 hg1 _; rw [List.nil_append] at ho1; have HO1 := keepd ho1; have HB1 := keepd (app_start0 hg1); clear ho1 hg1)
    | (at_builtin; refine wpList_app _ rfl (.tmp 7) (.tmp 8) rfl V.heap.size _ l rfl HO1.out _ A' n' c' l' rfl HN'.out ((HR'.out.at_ HB.out).at_ HB1.out) HL2.out HB1.out.size ?_; intro v2 w2 ho2 hg2 _; have HB2 := keepd (app_below HB1.out HO1.out hg2); obtain ⟨A2, c2, hv2, _⟩ := ho2.rd; rw [show (l ++ l').length = m from HM.out] at hv2; subst hv2; have HO2 := keepd ho2; clear ho2 hg2; obtain ⟨m0, m1, m2, m3, lt⟩ := line_facts (SR.call H.out HB2.out HLT.out)))
  refine bodyPost_ret (v := .agg #[.slice A2 m c2, .int .i64 (n : Int)]) (by simp [results, Tryd.results57, go_sem, m0, m1]) rfl ?_
  obtain ⟨q1, q2⟩ := gotn_end1 (z := (n : Int)) HLT.out HO2.out (HB.out.trans (HB2.out.mono HB.out.size))
  exact ⟨⟨A2, c2, rfl, q1⟩, q2⟩

end Go.Proofs.YtjhocmeenejjpaaDoor
