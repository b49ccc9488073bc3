/-
  The walk of the law NvtAgain.
-/
import Derived.Test.YtoiiiakhgmledaaT7
import Derived.Test.YtoiiiakhgmledaaT8
namespace Go.Proofs.Ytoiiiakhgmledaa
open Go.RowKit

set_option maxRecDepth 100000 in
set_option maxHeartbeats 1000000 in
theorem again_law (A : Option Addr) (l : List UInt8) (c : Nat) (w : World) (hr : Rd w w.heap.size A l c) :
    Calls Try.prog 6 #[.slice A l.length c] w fun e w' => e = .returned (.bool true) ∧ Below w.heap.size w w' := by
  obtain ⟨q1, q2⟩ := hr.len
  have F := few_any A l.length c w q1 q2
  obtain ⟨n, hn⟩ : ∃ n, min l.length 200 = n := ⟨_, rfl⟩
  obtain ⟨a, ha⟩ : ∃ a, a = l.take 200 := ⟨_, rfl⟩
  have HN : Hid (n = a.length) := by show _ = _; rw [ha, List.length_take, ← hn]; omega
  have HR : Hid (Rd w w.heap.size A a c) := by show Rd _ _ _ _ _; rw [ha]; exact hr.take 200
  have b0 : n ≤ 200 := by omega
  have b1 : n ≤ c := by omega
  rw [hn] at F
  have FF := keepd F
  have X := read_any A a n c w HN.out HR.out (by omega)
  obtain ⟨f1, f2⟩ := readD_le a
  have HE := keepd (read_end a)
  generalize readD a = rr at X f1 f2 HE
  obtain ⟨d, r⟩ := rr
  obtain ⟨dl, hdl⟩ : ∃ dl, d.length = dl := ⟨_, rfl⟩
  have g1 : r ≤ n := by rw [HN.out]; exact f1
  have g2 : dl ≤ r := by rw [← hdl]; exact f2
  have HDL := keepd hdl
  obtain ⟨m, hm⟩ : ∃ m, (layL d).length = m := ⟨_, rfl⟩
  have HM := keepd hm
  have b2 : m ≤ 400 := by have := (layL_len d).2; rw [hdl] at this; omega
  unfold maxLen at q2
  have XX := keepd X
  clear F ha hn hr q1 hm hdl f1 f2 X
  have i1 : ¬ ((r : Int) < 0) := by omega
  have i2 : ¬ ((n : Int) < (r : Int)) := by omega
  have i3 : ¬ ((r : Int) < (dl : Int)) := by omega
  go_enter Try.func6, Try.ntmps6
  go_wp2_with fail
  with_reducible refine FF.out.mono ?_
  rintro e w0 ⟨rfl, rfl⟩
  clear FF
  go_wp2_with fail
  with_reducible refine XX.out.mono ?_
  rintro e w1 ⟨A1, c1, rfl, hr1, hb1⟩
  have R1 := keepd hr1
  have H1 := keepd hb1
  rw [HDL.out]
  clear hr1 hb1 XX
  go_wp2_with fail
  with_reducible refine (lay_any A1 d dl c1 w1 HDL.out.symm R1.out (by omega)).mono ?_
  rintro e w2 ⟨A2, c2, rfl, hr2, hb2⟩
  have R2 := keepd hr2
  have R12 := keepd (R1.out.at_ hb2)
  have H2 := keepd (bCall H1.out hb2)
  have X := read_any A2 (layL d) (layL d).length c2 w2 rfl R2.out (by rw [HM.out]; omega)
  rw [read_lay, HM.out] at X
  rw [HM.out]
  clear hr2 hb2 R1 H1
  go_wp2_with fail
  with_reducible refine X.mono ?_
  rintro e w3 ⟨A3, c3, rfl, hr3, hb3⟩
  rw [HDL.out]
  have R3 := keepd hr3
  have R13 := keepd (R12.out.at_ hb3)
  have H3 := keepd (bCall H2.out hb3)
  have Y := octets_n A3 A1 d d dl dl c3 c1 _ w3 HDL.out.symm HDL.out.symm R3.out R13.out
  rw [beq_self_eq_true] at Y
  have YY := keepd Y
  have Z := size_any A1 d dl c1 w3 HDL.out.symm R13.out (by omega)
  rw [HM.out] at Z
  have ZZ := keepd Z
  clear X hr3 hb3 R12 H2 R2 Y Z
  have hor : (r = n) ∨ (∃ b off, A = some ⟨b, off, none⟩ ∧ r < n ∧ w3.cell? ⟨b, off + r, none⟩ = some (.int .u8 255) ∧ (r + 1 = n ∨ (r + 1 < n ∧ ∃ z : Int, z ≠ 255 ∧ w3.cell? ⟨b, off + (r + 1), none⟩ = some (.int .u8 z)))) := by
    rcases HE.out with h | ⟨h1, h2⟩
    · left; rw [HN.out]; exact h
    · right
      have h1' : a[r]? = some 255 := h1
      have h2' : a[r + 1]? ≠ some 255 := h2
      obtain ⟨hlt, he⟩ := List.getElem?_eq_some_iff.1 h1'
      obtain ⟨b, off, hA, _, hce⟩ := (HR.out.at_ H3.out).form hlt
      rw [he] at hce
      refine ⟨b, off, hA, by rw [HN.out]; exact hlt, hce, ?_⟩
      by_cases hl : r + 1 < a.length
      · right
        obtain ⟨b', off', hA', _, hce'⟩ := (HR.out.at_ H3.out).form hl
        rw [hA] at hA'
        cases hA'
        refine ⟨by rw [HN.out]; exact hl, _, fun e => h2' ?_, hce'⟩
        rw [List.getElem?_eq_getElem hl]
        congr 1
        rw [← u8_eq, e]
        rfl
      · left
        rw [HN.out]
        omega
  clear HE
  clear R13 R3
  rcases hor with rfl | ⟨b, off, rfl, hlt, hc1, hor⟩
  · go_wp2_with fail
    with_reducible refine YY.out.mono ?_
    rintro e w4 ⟨rfl, rfl⟩
    go_wp2_with fail
    with_reducible refine ZZ.out.mono ?_
    rintro e w4 ⟨rfl, hb4⟩
    have H4 := keepd (bCall H3.out hb4)
    clear hb4 YY ZZ H3
    go_wp2_with fail
    with_reducible refine (awake_any w4).mono ?_
    rintro e w5 ⟨rfl, hb5⟩
    have H5 := keepd (bCall H4.out hb5)
    clear hb5 H4
    go_wp2
    go_ret
    exact ⟨rfl, H5.out⟩
  · have j1 : ¬ ((r : Int) = (n : Int)) := by omega
    have j2 : (r : Int) < (n : Int) := by omega
    have j3 : (0 : Int) ≤ (r : Int) := by omega
    have j0 : ((r : Int) == (n : Int)) = false := beq_eq_false_iff_ne.2 j1
    rcases hor with hn1 | ⟨hlt2, z, hz, hc2⟩
    · have j4 : ((r : Int) + 1 == (n : Int)) = true := by rw [beq_iff_eq]; omega
      clear hn1
      go_wp2_with fail
      with_reducible refine YY.out.mono ?_
      rintro e w4 ⟨rfl, rfl⟩
      go_wp2_with fail
      with_reducible refine ZZ.out.mono ?_
      rintro e w4 ⟨rfl, hb4⟩
      have H4 := keepd (bCall H3.out hb4)
      clear hb4 YY ZZ H3
      go_wp2_with fail
      with_reducible refine (awake_any w4).mono ?_
      rintro e w5 ⟨rfl, hb5⟩
      have H5 := keepd (bCall H4.out hb5)
      clear hb5 H4
      go_wp2
      go_ret
      exact ⟨rfl, H5.out⟩
    · have j4 : ((r : Int) + 1 == (n : Int)) = false := by rw [beq_eq_false_iff_ne]; omega
      have j7 : (z != 255) = true := by rw [bne_iff_ne]; exact hz
      have j5 : (r : Int) + 1 < (n : Int) := by omega
      have j6 : (0 : Int) ≤ (r : Int) + 1 := by omega
      go_wp2_with fail
      with_reducible refine YY.out.mono ?_
      rintro e w4 ⟨rfl, rfl⟩
      go_wp2_with fail
      with_reducible refine ZZ.out.mono ?_
      rintro e w4 ⟨rfl, hb4⟩
      have H4 := keepd (bCall H3.out hb4)
      clear hb4 YY ZZ H3
      go_wp2_with fail
      with_reducible refine (awake_any w4).mono ?_
      rintro e w5 ⟨rfl, hb5⟩
      have H5 := keepd (bCall H4.out hb5)
      clear hb5 H4
      go_wp2
      go_ret
      exact ⟨rfl, H5.out⟩

end Go.Proofs.Ytoiiiakhgmledaa
