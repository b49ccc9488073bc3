/-
  The walk of the law NvtTells.
-/
import Derived.Test.YtoiiiakhgmledaaT10
namespace Go.Proofs.Ytoiiiakhgmledaa
open Go.RowKit

set_option maxRecDepth 100000 in
set_option maxHeartbeats 1000000 in
theorem tells_law (A : Option Addr) (l : List UInt8) (c : Nat) (w : World) (hr : Rd w w.heap.size A l c) :
    Calls Try.prog 3 #[.slice A l.length c] w fun e w' => e = .returned (.bool true) ∧ Below w.heap.size w w' := by
  obtain ⟨q1, q2⟩ := hr.len
  have F := few_any A l.length c w q1 q2
  obtain ⟨n, hn⟩ : ∃ n, min l.length 200 = n := ⟨_, rfl⟩
  obtain ⟨a, ha⟩ : ∃ a, a = l.take 200 := ⟨_, rfl⟩
  have HN : Hid (n = a.length) := by show _ = _; rw [ha, List.length_take, ← hn]; omega
  have HR : Hid (Rd w w.heap.size A a c) := by show Rd _ _ _ _ _; rw [ha]; exact hr.take 200
  have b0 : n ≤ 200 := by omega
  rw [hn] at F
  have FF := keepd F
  have X1 := read_any A a n c w HN.out HR.out (by omega)
  have X2 := fun (w' : World) (h : Rd w' w'.heap.size A a c) => refRead_any n A a n c w' (Nat.le_refl _) HN.out h (by omega)
  obtain ⟨f1, f2⟩ := readD_le a
  generalize readD a = rr at X1 X2 f1 f2
  obtain ⟨d, r⟩ := rr
  obtain ⟨dl, hdl⟩ : ∃ dl, d.length = dl := ⟨_, rfl⟩
  have g1 : r ≤ n := by rw [HN.out]; exact f1
  have HDL := keepd hdl
  obtain ⟨m, hm⟩ : ∃ m, (layL a).length = m := ⟨_, rfl⟩
  have HM := keepd hm
  have b2 : m ≤ 400 := by have := (layL_len a).2; rw [← HN.out] at this; omega
  have XX1 := keepd X1
  have XX2 := keepd X2
  clear F ha hn hr q1 q2 hm hdl f1 f2 X1 X2
  go_enter Try.func3, Try.ntmps3
  go_wp2_with fail
  with_reducible refine FF.out.mono ?_
  rintro e w0 ⟨rfl, rfl⟩
  clear FF
  go_wp2_with fail
  with_reducible refine XX1.out.mono ?_
  rintro e w1 ⟨A1, c1, rfl, hr1, hb1⟩
  have R1 := keepd hr1
  have H1 := keepd hb1
  rw [HDL.out]
  clear hr1 hb1 XX1
  go_wp2_with fail
  with_reducible refine (XX2.out w1 (HR.out.at_ H1.out)).mono ?_
  rintro e w2 ⟨A2, c2, A2', c2', rfl, hr2, hb2⟩
  have e1 : (d, r).1 = d := rfl
  have e2 : (d, r).2 = r := rfl
  rw [e1, HDL.out, e2]
  have R2 : Hid (Rd w2 w2.heap.size A2 d c2) := hr2
  have R12 := keepd (R1.out.at_ hb2)
  have H2 := keepd (bCall H1.out hb2)
  clear hr2 hb2 XX2 R1 H1 e1 e2
  go_wp2_with fail
  with_reducible refine (refLay_any A a n c w2 HN.out (HR.out.at_ H2.out) (by omega)).mono ?_
  rintro e w3 ⟨A3, c3, rfl, hr3, hb3⟩
  rw [HM.out]
  have R3 := keepd hr3
  have R13 := keepd (R12.out.at_ hb3)
  have R23 := keepd (R2.out.at_ hb3)
  have H3 := keepd (bCall H2.out hb3)
  clear hr3 hb3 R12 R2 H2
  go_wp2_with fail
  with_reducible refine (lay_any A a n c w3 HN.out (HR.out.at_ H3.out) (by omega)).mono ?_
  rintro e w4 ⟨A4, c4, rfl, hr4, hb4⟩
  rw [HM.out]
  have R34 := keepd (R3.out.at_ hb4)
  have R14 := keepd (R13.out.at_ hb4)
  have R24 := keepd (R23.out.at_ hb4)
  have H4 := keepd (bCall H3.out hb4)
  have Y := octets_n A4 A3 (layL a) (layL a) m m c4 c3 _ w4 HM.out.symm HM.out.symm hr4 R34.out
  rw [beq_self_eq_true] at Y
  clear hr4 hb4 R3 R13 R23 H3
  go_wp2_with fail
  with_reducible refine Y.mono ?_
  rintro e w5 ⟨rfl, rfl⟩
  have Z := size_any A a n c w4 HN.out (HR.out.at_ H4.out) (by omega)
  rw [HM.out] at Z
  clear Y
  go_wp2_with fail
  with_reducible refine Z.mono ?_
  rintro e w5 ⟨rfl, hb5⟩
  have R35 := keepd (R34.out.at_ hb5)
  have R15 := keepd (R14.out.at_ hb5)
  have R25 := keepd (R24.out.at_ hb5)
  have H5 := keepd (bCall H4.out hb5)
  clear Z hb5 R34 R14 R24 H4
  have Z := plain_any A a n c w5 HN.out (HR.out.at_ H5.out) (by omega)
  rw [plain_beq] at Z
  go_wp2_with fail
  with_reducible refine Z.mono ?_
  rintro e w6 ⟨rfl, hb6⟩
  have R36 := keepd (R35.out.at_ hb6)
  have R16 := keepd (R15.out.at_ hb6)
  have R26 := keepd (R25.out.at_ hb6)
  have H6 := keepd (bCall H5.out hb6)
  clear Z hb6 R35 R15 R25 H5
  go_wp2_with fail
  with_reducible refine (octets_n A3 A (layL a) a m n c3 c _ w6 HM.out.symm HN.out R36.out (HR.out.at_ H6.out)).mono ?_
  rintro e w7 ⟨rfl, rfl⟩
  generalize (layL a == a) = q
  have hq : (q == q) = true := by simp
  have Y := octets_n A1 A2 d d dl dl c1 c2 _ w6 HDL.out.symm HDL.out.symm R16.out R26.out
  rw [beq_self_eq_true] at Y
  clear R36 R16 R26
  go_wp2_with fail
  with_reducible refine Y.mono ?_
  rintro e w7 ⟨rfl, rfl⟩
  clear Y
  obtain ⟨s, hs⟩ : ∃ s, n - r = s := ⟨_, rfl⟩
  rw [hs]
  have g2 : (n : Int) - (s : Int) = (r : Int) := by omega
  clear hs
  go_wp2_with fail
  with_reducible refine (awake_any w6).mono ?_
  rintro e w7 ⟨rfl, hb7⟩
  have H7 := keepd (bCall H6.out hb7)
  clear hb7 H6
  go_wp2
  go_ret
  exact ⟨rfl, H7.out⟩

end Go.Proofs.Ytoiiiakhgmledaa
