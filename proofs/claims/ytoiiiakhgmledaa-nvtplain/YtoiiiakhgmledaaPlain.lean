/-
  The walk of the law NvtPlain.
-/
import Derived.Test.YtoiiiakhgmledaaT7
import Derived.Test.YtoiiiakhgmledaaT8
namespace Go.Proofs.Ytoiiiakhgmledaa
open Go.RowKit

theorem odd_take_succ (l : List UInt8) (k : Nat) (h : k < l.length) : oddL (l.take (k + 1)) = (oddL (l.take k) || (l[k] == 255 || l[k] == 13)) := by
  unfold oddL
  rw [List.take_succ_eq_append_getElem h, List.any_append]
  simp

set_option maxRecDepth 100000 in
set_option maxHeartbeats 1000000 in
theorem plain_law (A A' : Option Addr) (l l' : List UInt8) (c c' : Nat) (w : World) (hr : Rd w w.heap.size A l c) (hr' : Rd w w.heap.size A' l' c') :
    Calls Try.prog 7 #[.slice A l.length c, .slice A' l'.length c'] w fun e w' => e = .returned (.bool true) ∧ Below w.heap.size w w' := by
  obtain ⟨q1, q2⟩ := hr.len
  obtain ⟨q1', q2'⟩ := hr'.len
  have F := few_any A l.length c w q1 q2
  have F' := few_any A' l'.length c' w q1' q2'
  obtain ⟨n, hn⟩ : ∃ n, min l.length 200 = n := ⟨_, rfl⟩
  obtain ⟨n', hn'⟩ : ∃ n', min l'.length 200 = n' := ⟨_, rfl⟩
  obtain ⟨a, ha⟩ : ∃ a, a = l.take 200 := ⟨_, rfl⟩
  obtain ⟨a', ha'⟩ : ∃ a', a' = l'.take 200 := ⟨_, rfl⟩
  have HN : Hid (n = a.length) := by show _ = _; rw [ha, List.length_take, ← hn]; omega
  have HN' : Hid (n' = a'.length) := by show _ = _; rw [ha', List.length_take, ← hn']; omega
  have HR : Hid (Rd w w.heap.size A a c) := by show Rd _ _ _ _ _; rw [ha]; exact hr.take 200
  have HR' : Hid (Rd w w.heap.size A' a' c') := by show Rd _ _ _ _ _; rw [ha']; exact hr'.take 200
  have b0 : n ≤ 200 := by omega
  have b0' : n' ≤ 200 := by omega
  have b1 : n ≤ c := by omega
  have b1' : n' ≤ c' := by omega
  rw [hn] at F
  rw [hn'] at F'
  unfold maxLen at q2 q2'
  have FF := keepd F
  have FF' := keepd F'
  clear F F' ha ha' hn hn' hr hr'
  go_enter Try.func7, Try.ntmps7
  go_wp2_with fail
  with_reducible refine FF.out.mono ?_
  rintro e w0 ⟨rfl, rfl⟩
  go_wp2_with fail
  with_reducible refine FF'.out.mono ?_
  rintro e w0 ⟨rfl, rfl⟩
  clear FF FF'
  go_wp2_with fail
  go_loop [5, 6] (fun o i => ∃ k : Nat, k ≤ n ∧ i = .int .i64 k ∧ o = .bool (oddL (a.take k))) (fun _ i => n - (intOf i).toNat)
  case atStart => exact ⟨0, by omega, rfl, rfl⟩
  case round =>
    obtain ⟨k, hk, rfl, rfl⟩ := hrel
    by_cases hlt : k < n
    · have hkl : k < a.length := by rw [← HN.out]; omega
      obtain ⟨b', off', hA', hbl, hce⟩ := HR.out.form hkl
      subst hA'
      have hs := odd_take_succ a k hkl
      obtain ⟨u, hu⟩ : ∃ u, a[k] = u := ⟨_, rfl⟩
      rw [hu] at hce hs
      have v1 : ((u.toNat : Int) == 255) = (u == 255) := u8_beq u 255
      have v2 : ((u.toNat : Int) == 13) = (u == 13) := u8_beq u 13
      generalize (u.toNat : Int) = z at *
      generalize hq : oddL (a.take k) = q at hs ⊢
      generalize hq1 : (u == 255) = q1 at hs v1
      generalize hq2 : (u == 13) = q2 at hs v2
      have HS := keepd hs
      have i1 : (0 : Int) ≤ (k : Int) := by omega
      have i2 : (k : Int) < (n : Int) := by omega
      clear hu hs hq hq1 hq2
      cases q
      · cases q1
        · go_wp2
          go_round
          case rel => exact ⟨k + 1, by omega, by go_num, by rw [HS.out]; rfl⟩
          case measure => simp [intOf]; omega
        · go_wp2
          go_round
          case rel => exact ⟨k + 1, by omega, by go_num, by rw [HS.out]; rfl⟩
          case measure => simp [intOf]; omega
      · go_wp2
        go_round
        case rel => exact ⟨k + 1, by omega, by go_num, by rw [HS.out]; rfl⟩
        case measure => simp [intOf]; omega
    · obtain rfl : n = k := by omega
      rw [HN.out, List.take_length, ← HN.out]
      go_wp2_with fail
      have X := plain_any A a n c w HN.out HR.out (by omega)
      rw [plain_odd] at X
      generalize oddL a = q at X ⊢
      with_reducible refine X.mono ?_
      rintro e w1 ⟨rfl, hb1⟩
      have H1 := keepd hb1
      clear hb1 X
      have hq : (!q == !q) = true := by simp
      go_wp2_with fail
      with_reducible refine (lay_any A a n c w1 HN.out (HR.out.at_ H1.out) (by omega)).mono ?_
      rintro e w2 ⟨A2, c2, rfl, hr2, hb2⟩
      have R2 := keepd hr2
      have H2 := keepd (bCall H1.out hb2)
      clear hr2 hb2 H1
      go_wp2_with fail
      with_reducible refine (lay_any A' a' n' c' w2 HN'.out (HR'.out.at_ H2.out) (by omega)).mono ?_
      rintro e w3 ⟨A3, c3, rfl, hr3, hb3⟩
      have R3 := keepd hr3
      have R2' := keepd (R2.out.at_ hb3)
      have H3 := keepd (bCall H2.out hb3)
      clear hr3 hb3 H2 R2
      go_wp2_with fail
      with_reducible refine (octets_n A2 A3 (layL a) (layL a') _ _ c2 c3 _ w3 rfl rfl R2'.out R3.out).mono ?_
      rintro e w4 ⟨rfl, rfl⟩
      rw [layL_beq]
      go_wp2_with fail
      with_reducible refine (octets_n A A' a a' n n' c c' _ w3 HN.out HN'.out (HR.out.at_ H3.out) (HR'.out.at_ H3.out)).mono ?_
      rintro e w4 ⟨rfl, rfl⟩
      generalize (a == a') = r
      have hr2 : (r == r) = true := by simp
      go_wp2_with fail
      with_reducible refine (awake_any w3).mono ?_
      rintro e w4 ⟨rfl, hb4⟩
      have H4 := keepd (bCall H3.out hb4)
      clear hb4 H3 R2' R3
      go_wp2
      go_ret
      exact ⟨rfl, H4.out⟩

end Go.Proofs.Ytoiiiakhgmledaa
