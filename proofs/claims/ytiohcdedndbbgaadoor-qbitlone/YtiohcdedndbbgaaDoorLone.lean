/-
  The law QbitLone, walked: it returns true, whatever the row of bools.
-/
import Derived.Test.YtiohcdedndbbgaaDoorT5
import Derived.Test.YtiohcdedndbbgaaDoorOpenL
namespace Go.Proofs.YtiohcdedndbbgaaDoor
open Go.RowKit

set_option maxRecDepth 100000 in
set_option maxHeartbeats 4000000 in
theorem lone_law (A : Option Addr) (l : List Bool) (n c : Nat) (hn : n = l.length) (w : World) (hL : Laid w) (hr : RdQ w A l c) :
    Calls Tryd.prog 8 #[.slice A n c] w fun e w' => e = .returned (.bool true) ∧ Below w.heap.size w w' := by
  have HL := keepd hL
  have HR := keepd hr
  have HN := keepd hn
  have hc : n ≤ c := by have := hr.1; omega
  have hm := hr.2.1
  unfold maxLen at hm
  clear hL hr hn
  go_enter Tryd.func8, Tryd.ntmps8
  go_wp2_with fail
  go_loopw [3, 4] (fun vq vi wr => ∃ (k : Nat) (q : Int), k ≤ n ∧ k ≤ 100 ∧ vi = .int .i64 k ∧ vq = .int .i64 q ∧ Hid (q = 0 ∨ q = 1) ∧ Hid (Below w.heap.size w wr)) (fun _ vi _ => 101 - (intOf vi).toNat)
  case atStart => exact ⟨0, 0, by omega, by omega, rfl, rfl, Or.inl rfl, Below.refl _ _⟩
  case round =>
    obtain ⟨k, q, hk, hk2, rfl, rfl, HQ, HB⟩ := hrel
    by_cases hlt : k < n
    · have i1 : decide ((k : Int) < (n : Int)) = true := by simp; omega
      by_cases h100 : k < 100
      · have i2 : decide ((k : Int) < 100) = true := by simp; omega
        have hkl : k < l.length := by rw [← HN.out]; exact hlt
        obtain ⟨b, off, rfl, hbl, hce⟩ := HR.out.2.2 (by rintro rfl; simp at hkl)
        have hcw := hce k hkl
        have e1 := (HB.out.cell (p := ⟨b, off + k, none⟩) hbl).trans hcw
        have HCW := keepd hcw
        generalize l[k] = u at *
        have HLr := keepd (HL.out.below HB.out)
        clear hce hcw
        have i0 : (0 : Int) ≤ (k : Int) := by omega
        have i3 : (k : Int) < (n : Int) := by omega
        rcases HQ.out with rfl | rfl
        · cases u
          · go_wp2_with fail
            with_reducible refine (got_at 0 false true 0 0 0 rfl _ HLr.out).mono ?_
            rintro e w1 ⟨rfl, hb1⟩
            have HL1 := keepd (HLr.out.below hb1)
            have HB1 := keepd (bCall HB.out hb1)
            have e2 := (HB1.out.cell (p := ⟨b, off + k, none⟩) hbl).trans HCW.out
            clear hb1 HLr e1 HB
            go_wp2_with fail
            with_reducible refine (got_at 0 false false 0 0 0 rfl _ HL1.out).mono ?_
            rintro e w2 ⟨rfl, hb2⟩
            have HB2 := keepd (bCall HB1.out hb2)
            have e3 := (HB2.out.cell (p := ⟨b, off + k, none⟩) hbl).trans HCW.out
            clear hb2 HL1 e2 HB1
            go_wp2
            exact ⟨⟨k + 1, 0, by omega, by omega, by go_num, rfl, Or.inl rfl, HB2⟩, by simp [intOf]; omega⟩
          · go_wp2_with fail
            with_reducible refine (got_at 0 true true 1 1 0 rfl _ HLr.out).mono ?_
            rintro e w1 ⟨rfl, hb1⟩
            have HL1 := keepd (HLr.out.below hb1)
            have HB1 := keepd (bCall HB.out hb1)
            have e2 := (HB1.out.cell (p := ⟨b, off + k, none⟩) hbl).trans HCW.out
            clear hb1 HLr e1 HB
            go_wp2_with fail
            with_reducible refine (got_at 0 true false 0 2 0 rfl _ HL1.out).mono ?_
            rintro e w2 ⟨rfl, hb2⟩
            have HB2 := keepd (bCall HB1.out hb2)
            have e3 := (HB2.out.cell (p := ⟨b, off + k, none⟩) hbl).trans HCW.out
            clear hb2 HL1 e2 HB1
            go_wp2
            exact ⟨⟨k + 1, 1, by omega, by omega, by go_num, rfl, Or.inr rfl, HB2⟩, by simp [intOf]; omega⟩
        · cases u
          · go_wp2_with fail
            with_reducible refine (got_at 1 false true 0 2 0 rfl _ HLr.out).mono ?_
            rintro e w1 ⟨rfl, hb1⟩
            have HL1 := keepd (HLr.out.below hb1)
            have HB1 := keepd (bCall HB.out hb1)
            have e2 := (HB1.out.cell (p := ⟨b, off + k, none⟩) hbl).trans HCW.out
            clear hb1 HLr e1 HB
            go_wp2_with fail
            with_reducible refine (got_at 0 false false 0 0 0 rfl _ HL1.out).mono ?_
            rintro e w2 ⟨rfl, hb2⟩
            have HB2 := keepd (bCall HB1.out hb2)
            have e3 := (HB2.out.cell (p := ⟨b, off + k, none⟩) hbl).trans HCW.out
            clear hb2 HL1 e2 HB1
            go_wp2
            exact ⟨⟨k + 1, 0, by omega, by omega, by go_num, rfl, Or.inl rfl, HB2⟩, by simp [intOf]; omega⟩
          · go_wp2_with fail
            with_reducible refine (got_at 1 true true 1 0 0 rfl _ HLr.out).mono ?_
            rintro e w1 ⟨rfl, hb1⟩
            have HL1 := keepd (HLr.out.below hb1)
            have HB1 := keepd (bCall HB.out hb1)
            have e2 := (HB1.out.cell (p := ⟨b, off + k, none⟩) hbl).trans HCW.out
            clear hb1 HLr e1 HB
            go_wp2_with fail
            with_reducible refine (got_at 0 true false 0 2 0 rfl _ HL1.out).mono ?_
            rintro e w2 ⟨rfl, hb2⟩
            have HB2 := keepd (bCall HB1.out hb2)
            have e3 := (HB2.out.cell (p := ⟨b, off + k, none⟩) hbl).trans HCW.out
            clear hb2 HL1 e2 HB1
            go_wp2
            exact ⟨⟨k + 1, 1, by omega, by omega, by go_num, rfl, Or.inr rfl, HB2⟩, by simp [intOf]; omega⟩
      · have i2 : decide ((k : Int) < 100) = false := by simp; omega
        have HLr := keepd (HL.out.below HB.out)
        go_wp2_with (go_at_call 17; with_reducible refine (awake_any _ HLr.out).mono ?_; rintro e w1 ⟨rfl, hb1⟩)
        go_ret
        exact ⟨rfl, bCall HB.out hb1⟩
    · have i1 : decide ((k : Int) < (n : Int)) = false := by simp; omega
      have HLr := keepd (HL.out.below HB.out)
      go_wp2_with (go_at_call 17; with_reducible refine (awake_any _ HLr.out).mono ?_; rintro e w1 ⟨rfl, hb1⟩)
      go_ret
      exact ⟨rfl, bCall HB.out hb1⟩

end Go.Proofs.YtiohcdedndbbgaaDoor
