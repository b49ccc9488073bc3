/-
  The walk of the law NvtCut.
-/
import Derived.Test.YtoiiiakhgmledaaT7
import Derived.Test.YtoiiiakhgmledaaT8
namespace Go.Proofs.Ytoiiiakhgmledaa
open Go.RowKit

theorem min_nat (a b : Nat) (ts : Array TypeId) (t : TypeId) (W : World) : (Builtin.min_ ts t #[.int .i64 (a : Int), .int .i64 (b : Int)]).run Try.prog W = .ok (.int .i64 ((min a b : Nat) : Int)) W := by
  rw [run_min_int2]
  congr 2
  omega

set_option maxRecDepth 100000 in
set_option maxHeartbeats 1000000 in
theorem cut_law (A : Option Addr) (l : List UInt8) (c : Nat) (x : Int) (w : World) (hr : Rd w w.heap.size A l c) (hx : 0 ≤ x ∧ x ≤ 255) :
    Calls Try.prog 8 #[.slice A l.length c, .int .u8 x] w fun e w' => e = .returned (.bool true) ∧ Below w.heap.size w w' := by
  obtain ⟨q1, q2⟩ := hr.len
  have F := few_any A l.length c w q1 q2
  obtain ⟨n, hn⟩ : ∃ n, min l.length 200 = n := ⟨_, rfl⟩
  obtain ⟨a, ha⟩ : ∃ a, a = l.take 200 := ⟨_, rfl⟩
  have HN : Hid (n = a.length) := by show _ = _; rw [ha, List.length_take, ← hn]; omega
  have HR : Hid (Rd w w.heap.size A a c) := by show Rd _ _ _ _ _; rw [ha]; exact hr.take 200
  have b0 : n ≤ 200 := by omega
  have b1 : n ≤ c := by omega
  rw [hn] at F
  have FF := keepd F
  obtain ⟨m, hm⟩ : ∃ m, (layL a).length = m := ⟨_, rfl⟩
  have HM := keepd hm
  have b2 : m ≤ 400 := by have := (layL_len a).2; rw [← HN.out] at this; omega
  unfold maxLen at q2
  clear F ha hn hr q1 hm
  obtain ⟨x0, hx0⟩ : ∃ x0 : Nat, x = x0 := ⟨x.toNat, by omega⟩
  subst hx0
  go_enter Try.func8, Try.ntmps8
  go_wp2_with fail
  with_reducible refine FF.out.mono ?_
  rintro e w0 ⟨rfl, rfl⟩
  clear FF
  go_wp2_with fail
  with_reducible refine (lay_any A a n c w HN.out HR.out (by omega)).mono ?_
  rintro e w1 ⟨A1, c1, rfl, hr1, hb1⟩
  have R1 := keepd hr1
  have H1 := keepd hb1
  have b3 : m ≤ c1 := by have := hr1.1; rw [HM.out] at this; exact this
  have b4 : c1 ≤ maxLen := hr1.2.1
  unfold maxLen at b4
  rw [HM.out]
  clear hr1 hb1
  have hmn := min_nat x0 m
  obtain ⟨k, hk⟩ : ∃ k, k = min x0 m := ⟨_, rfl⟩
  rw [← hk] at hmn
  have b5 : k ≤ m := by omega
  have X := read_any A1 ((layL a).take k) k c1 w1 (by rw [List.length_take, HM.out]; omega) (R1.out.take k) (by omega)
  obtain ⟨f1, f2, f3⟩ := read_cut a k (by rw [HM.out]; exact b5)
  generalize readD ((layL a).take k) = rr at X f1 f2 f3
  obtain ⟨d, r⟩ := rr
  obtain ⟨dl, hdl⟩ : ∃ dl, d.length = dl := ⟨_, rfl⟩
  have g1 : r ≤ k := f1
  have g2 : k - r ≤ 1 := f2
  have f3' : d <+: a := f3
  have HD : Hid (d = a.take dl) := by show _ = _; rw [← hdl]; exact List.prefix_iff_eq_take.1 f3'
  have g3 : dl ≤ n := by rw [← hdl, HN.out]; exact f3'.length_le
  have HDL := keepd hdl
  clear hk f1 f2 f3 f3' hdl
  go_wp2_with fail
  with_reducible refine X.mono ?_
  rintro e w2 ⟨A2, c2, rfl, hr2, hb2⟩
  have R2 := keepd hr2
  have H2 := keepd (bCall H1.out hb2)
  clear X hr2 hb2 H1 hmn R1
  rw [HDL.out]
  go_wp2_with fail
  have Y := octets_n A2 A d (a.take dl) dl dl c2 c _ w2 HDL.out.symm (by rw [List.length_take, ← HN.out]; omega) R2.out ((HR.out.at_ H2.out).take dl)
  rw [← HD.out, beq_self_eq_true] at Y
  with_reducible refine Y.mono ?_
  rintro e w3 ⟨rfl, rfl⟩
  have g4 : (k : Int) - (r : Int) ≤ 1 := by omega
  have g5 : (0 : Int) ≤ (k : Int) - (r : Int) := by omega
  clear Y R2
  go_wp2_with fail
  with_reducible refine (awake_any w2).mono ?_
  rintro e w3 ⟨rfl, hb3⟩
  have H3 := keepd (bCall H2.out hb3)
  clear hb3 H2
  go_wp2
  go_ret
  exact ⟨rfl, H3.out⟩

end Go.Proofs.Ytoiiiakhgmledaa
