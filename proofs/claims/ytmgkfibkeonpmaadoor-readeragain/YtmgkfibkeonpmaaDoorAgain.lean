/-
  The law ReaderAgain, walked: it returns true, whatever the octets.
-/
import Derived.Test.YtmgkfibkeonpmaaDoorP1
namespace Go.Proofs.YtmgkfibkeonpmaaDoor
open Go.RowKit

theorem mayZ : mayR ⟨0, 0, 0, []⟩ = true := by decide
theorem errZ : errF ⟨0, 0, 0, []⟩ = 0 := by decide

set_option maxRecDepth 100000 in
set_option maxHeartbeats 4000000 in
theorem again_law (A : Option Addr) (l : List UInt8) (m c : Nat) (hm : m = l.length) (w : World) (hr : Rd w w.heap.size A l c) :
    Calls Tryd.prog 4 #[.slice A m c] w fun e w' => e = .returned (.bool true) ∧ Below w.heap.size w w' := by
  have hrl : m ≤ c := by have := hr.1; omega
  have hrm := hr.2.1
  have HA0 : Hid (Rd w w.heap.size A (l.take 200) c) := hr.take 200
  have e2 : (l.take 200).length = min m 200 := by rw [List.length_take, hm]; omega
  have m1 : min m 200 ≤ 200 := by omega
  have HAw := keepd rawake_any
  clear hr hm
  go_enter Tryd.func4, Tryd.ntmps4
  go_wp2_with fail
  with_reducible refine (few_any A m c _ hrl hrm).mono ?_
  rintro e w0 ⟨rfl, rfl⟩
  generalize l.take 200 = al at *
  generalize min m 200 = an at *
  obtain ⟨⟨⟨k2, a2, b2, l2⟩, out⟩, hf⟩ : ∃ x, feed ⟨0, 0, 0, []⟩ al = x := ⟨_, rfl⟩
  have g := feed_may mayZ al
  have gp := feed_pot mayZ al
  rw [hf] at g gp
  obtain ⟨_, g2, g3⟩ := g
  simp only at g2 g3 gp
  obtain ⟨n2, hn2⟩ : ∃ n2, l2.length = n2 := ⟨_, rfl⟩
  obtain ⟨s, hs⟩ : ∃ s, out.length = s := ⟨_, rfl⟩
  obtain ⟨cl, hcl⟩ : ∃ cl, out.flatMap Abs.lies = cl := ⟨_, rfl⟩
  obtain ⟨cn, hcn⟩ : ∃ cn, cl.length = cn := ⟨_, rfl⟩
  have hcn2 : cn ≤ 2 * an := by
    have e0 : pot ⟨0, 0, 0, []⟩ = 0 := rfl
    unfold liesLen at gp
    rw [hcl, hcn, e0, e2] at gp
    omega
  rw [hs, e2] at g3
  have hall : out.all Abs.may = true := by rw [List.all_eq_true]; exact g2
  have HF := keepd hf
  have HF2 : Hid (feedE ⟨0, 0, 0, []⟩ cl = (⟨0, 0, 0, []⟩, out)) := by
    show _ = _
    rw [feedE_yes mayZ, ← hcl]
    exact feed_liesAll out hall
  have HAll := keepd hall
  have HCl := keepd hcl
  have HN2 := keepd hn2
  have HS := keepd hs
  have HCn := keepd hcn
  clear gp g2 hf hall hcl hn2 hs hcn
  go_wp2_with fail
  with_reducible refine (feed_at 0 0 0 none [] 0 A al 0 an c w rfl e2.symm (by omega) (by omega) (Rd.nil _ _) HA0.out k2 a2 b2 l2 n2 out s 0 ((feedE_yes mayZ al).trans HF.out) HN2.out HS.out errZ).mono ?_
  rintro e w1 ⟨A1, c1, B1, d1, L1, rfl, hL1, _, hI1, hb1⟩
  have hLs : s = L1.length := by rw [← HS.out, ← hL1, List.length_map]
  have ham : allMay L1 = true := by rw [allMay_abs, hL1]; exact HAll.out
  have hput : putL L1 = cl := by rw [putL_yes ham, liesAll_abs, hL1]; exact HCl.out
  have HB1 := keepd hb1
  have HI1 := keepd hI1
  have HL1 := keepd hL1
  have HP := keepd hput
  have HE := keepd (errL_yes ham)
  have HLs := keepd hLs
  clear hb1 hI1 hL1 hput ham hLs
  go_wp2_with fail
  with_reducible refine (put_at B1 L1 cl cn s d1 0 _ HLs.out (by omega) (HI1.out.at_ (bAlloc (Below.refl _ _) _)) HP.out HCn.out HE.out).mono ?_
  rintro e w2 ⟨A2, c2, rfl, hr2, hb2⟩
  have HB2 := keepd (bCall HB1.out (upA hb2))
  have HI2 := keepd ((HI1.out.at_ (bAlloc (Below.refl _ _) _)).at_ hb2)
  have HR2 := keepd hr2
  clear hr2 hb2 HI1 HB1
  go_wp2_with fail
  with_reducible refine (feed_at 0 0 0 none [] 0 A2 cl 0 cn c2 w2 rfl HCn.out.symm (by omega) (by omega) (Rd.nil _ _) HR2.out 0 0 0 [] 0 out s 0 HF2.out rfl HS.out errZ).mono ?_
  rintro e w3 ⟨A3, c3, B3, d3, L3, rfl, hL3, _, hI3, hb3⟩
  have HB3 := keepd (bCall HB2.out hb3)
  have HI3 := keepd hI3
  have HI2' := keepd (HI2.out.at_ hb3)
  have hsame : sameL L3 L1 = true := by rw [sameL_abs, hL3, HL1.out]; simp
  have hLs3 : s = L3.length := by rw [← HS.out, ← hL3, List.length_map]
  have HSm := keepd hsame
  have HLs3 := keepd hLs3
  clear hb3 hI3 hL3 hsame hLs3 HB2 HI2 HR2
  have t1 : decide ((cn : Int) ≤ 2 * (an : Int) + 6) = true := by simp; omega
  have HB : ∀ o, Below w3.heap.size w3 (w3.alloc o) := fun o => bAlloc (Below.refl _ _) o
  go_wp2_with fail
  with_reducible refine (same_any B3 B1 L3 L1 s s d3 d1 _ HLs3.out HLs.out (HI3.out.at_ (HB _)) (HI2'.out.at_ (HB _))).mono ?_
  rintro e w4 ⟨rfl, hb4⟩
  rw [HSm.out]
  have HB4 := keepd (bCall HB3.out (upA hb4))
  clear hb4
  go_wp2_with fail
  with_reducible refine (HAw.out _).mono ?_
  rintro e w5 ⟨rfl, hb5⟩
  have HB5 := keepd (bCall HB4.out hb5)
  clear hb5
  go_wp2
  go_ret
  exact ⟨rfl, HB5.out⟩

end Go.Proofs.YtmgkfibkeonpmaaDoor
