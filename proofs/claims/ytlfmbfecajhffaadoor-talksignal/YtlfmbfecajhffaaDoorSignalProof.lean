/-
  Proved: for every table and room, any steps, and any key behind them the law TalkSignal returns true, and its arguments read behind the call as they read before; the variable that the row lists is tied to the program. No conditions of ours.
-/
import Derived.Test.YtlfmbfecajhffaaDoorL5
import Derived.Test.YtlfmbfecajhffaaDoorA9
import Derived.Test.YtlfmbfecajhffaaDoorTie
import Derived.Test.YtlfmbfecajhffaaDoorCards
import Derived.SevenTiedAt
namespace Go.Proofs.YtlfmbfecajhffaaDoor
open Go.ChangeShapes Go.WideShapes Go.ChangeAt Go.RowKit

set_option maxRecDepth 100000 in
theorem signal_lifted (os : Os) (started : os.Started) (H : Type) (enc : TypeId × Value → H) :
    ReturnsInHanded {} Tryd.checked os 5 .any (fun w args => (Rows.talkSignalSpec.pre enc Tryd.prog Tryd.f5 Rows.talkSignalRow.domain false w args ∧ laidMetH Tryd.prog laidL w) ∧ sizedMet enc Tryd.prog Tryd.f5 (OpenSpec.ofChange Rows.talkSignalSpec) false w args)
      (Rows.talkSignalSpec.post enc Tryd.prog Tryd.f5 false true false false) := by
  refine returnsInHanded_of_change_and (C := Tryd.checked) (X := fun w _ => laidMetH Tryd.prog laidL w) (fun _ _ _ hh h => h.of_heap hh) own started (by kernel_rfl) Tryd.func5
    (ChangeSpec.witness_shaped (enc := enc) (C := Tryd.checked) (os := os) (X := fun w _ => laidMetH Tryd.prog laidL w) false (World.laidAll Tryd.prog os laidL) #[.agg (dk zT 0).toArray, .slice none 0 0, .agg #[.int .u8 0, .bool false, .bool false]] 8 (World.laidAll_os _ _ _)
      (World.shaped_of_ZipB (by kernel_rfl) (by kernel_rfl)) (by kernel_rfl) (by kernel_rfl) (by kernel_rfl) (laid_met os _)) ?_
  intro W base args ds gs before hval0 hW _ _ hLaid _
  have hL : Laid W := laid_of hLaid
  have hval : ∀ (j : Nat) t v, Tryd.f5.params[j]? = some t → args[j]? = some v → Value.okWide Tryd.prog W .any base t v := hval0
  have hW' := hW
  obtain ⟨p, q, hA0, hV, rfl, _, _⟩ := hW
  have hA : DataW.TrodAll enc Tryd.prog W 0 (fun _ => true) true Tryd.f5.params.toList args.toList ds p := hA0
  rw [Tryd.params5] at hA hval
  obtain ⟨v0, vs0, d0, ds0, p0, q0, hargs, rfl, rfl, h0, r0⟩ := trodAll_cons hA
  obtain ⟨v1, vs1, d1, ds1, p1, q1, rfl, rfl, rfl, h1, r1⟩ := trodAll_cons r0
  obtain ⟨v2, vs2, d2, ds2, p2, q2, rfl, rfl, rfl, h2, r2⟩ := trodAll_cons r1
  obtain ⟨rfl, rfl, rfl⟩ := trodAll_nil r2
  obtain rfl : args = #[v0, v1, v2] := by cases args; simp_all
  obtain ⟨rfl, rfl⟩ := trodVars_none hV
  have k0 := h0
  obtain ⟨X0, room0, rfl, hx0⟩ := openDesk (hval 0 27 v0 rfl rfl) h0
  have k1 := h1
  obtain ⟨L1, A1, c1, rfl, hr1⟩ := openSteps (hval 1 52 v1 rfl rfl) h1
  have k2 := h2
  obtain ⟨u2, e2, f2, rfl⟩ := openHow (hval 2 36 v2 rfl rfl) h2
  clear hA0 hval0
  refine (signal_law X0 hx0 room0 A1 L1 c1 u2 e2 f2 W hL hr1).mono fun e W' ⟨he, bel⟩ => ?_
  subst he
  exact ⟨_, rfl, _, _, _, [], _, [], hW', trodAll_mk1 (shut_bool Tryd.underlying4 _),
    trodAll_cons_mk (again (by kernel_rfl) (of_decide_eq_true (by kernel_rfl)) k0 bel) (trodAll_cons_mk (again (by kernel_rfl) (of_decide_eq_true (by kernel_rfl)) k1 bel) (trodAll_cons_mk (again (by kernel_rfl) (of_decide_eq_true (by kernel_rfl)) k2 bel) trodAll_mk0)),
    rfl, bel.frame _, fun h => by cases h⟩

theorem talkSignal_row_holds : Rows.TalkSignalSaid :=
  OpenClaim.holds_of_wide 5 Tryd.f5 rfl rfl rfl rfl rfl rfl rfl ⟨rfl, rfl, rfl, rfl, rfl⟩ rfl rfl rfl rfl rfl (by kernel_rfl) Tryd.func5 (by kernel_rfl)
    (of_decide_eq_true (by kernel_rfl)) (by unfold Func.isWrapper; first | (rw [if_pos (by decide +kernel)]; kernel_rfl) | (rw [if_neg (by decide +kernel)]; exact ⟨rfl, rfl⟩))
    (fun os started H enc _ => signal_lifted os started H enc)

theorem talkSignal_holds : Rows.TalkSignalCardSaid :=
  Claim7.holds_tied_plain_at .later [] [.data] true (true, "23509feb516e0cdec91aabf97871d4e1a35f85caed4d13f08d3ac2fcf04f9029") false talkSignal_row_holds (fun _ h => by cases h) (by kernel_rfl) (fun _ h => by cases h) talkSignal_row_tie rfl ⟨rfl, rfl⟩ (by kernel_rfl) rfl
    (fun f fn hf hfn => by
      obtain rfl : f = 5 := Option.some.inj ((show Tryd.prog.funcNamed Tryd.f5.name = some 5 by kernel_rfl).symm.trans hf) |>.symm
      obtain rfl : fn = Tryd.f5 := (Option.some.inj (Tryd.func5.symm.trans hfn)).symm
      exact ⟨by kernel_rfl, fun j t ht => by
        rw [Tryd.params5] at ht
        have hm : t ∈ [27, 52, 36] := by simpa using Array.mem_of_getElem? ht
        have hall : ([27, 52, 36].all fun u => !Tryd.prog.wantsStandIn u) = true := by kernel_rfl
        exact (show Tryd.prog.wantsStandIn t = false by simpa using List.all_eq_true.1 hall t hm)⟩)
    (by kernel_rfl)

#print axioms talkSignal_holds
end Go.Proofs.YtlfmbfecajhffaaDoor
