/-
  The walk of the law NvtJoins.
-/
import Derived.Test.YtoiiiakhgmledaaT7
import Derived.Test.YtoiiiakhgmledaaT8
namespace Go.Proofs.Ytoiiiakhgmledaa
open Go.RowKit

set_option maxRecDepth 100000 in
set_option maxHeartbeats 2000000 in
theorem joins_law (A A' : Option Addr) (l l' : List UInt8) (c c' : Nat) (w : World) (hr : Rd w w.heap.size A l c) (hr' : Rd w w.heap.size A' l' c') :
    Calls Try.prog 5 #[.slice A l.length c, .slice A' l'.length c'] w fun e w' => e = .returned (.bool true) ∧ Below w.heap.size w w' := by
  obtain ⟨q1, q2⟩ := hr.len
  obtain ⟨q1', q2'⟩ := hr'.len
  have F := few_any A l.length c w q1 q2
  have F' := few_any A' l'.length c' w q1' q2'
  obtain ⟨n, hn⟩ : ∃ n, min l.length 200 = n := ⟨_, rfl⟩
  obtain ⟨n', hn'⟩ : ∃ n', min l'.length 200 = n' := ⟨_, rfl⟩
  obtain ⟨a, ha⟩ : ∃ a, a = l.take 200 := ⟨_, rfl⟩
  obtain ⟨a', ha'⟩ : ∃ a', a' = l'.take 200 := ⟨_, rfl⟩
  have HN : Hid (n = a.length) := by show _ = _; rw [ha, List.length_take, ← hn]; omega
  have HN' : Hid (n' = a'.length) := by show _ = _; rw [ha', List.length_take, ← hn']; omega
  have HR : Hid (Rd w w.heap.size A a c) := by show Rd _ _ _ _ _; rw [ha]; exact hr.take 200
  have HR' : Hid (Rd w w.heap.size A' a' c') := by show Rd _ _ _ _ _; rw [ha']; exact hr'.take 200
  have b0 : n ≤ 200 := by omega
  have b0' : n' ≤ 200 := by omega
  rw [hn] at F
  rw [hn'] at F'
  have FF := keepd F
  have FF' := keepd F'
  obtain ⟨m, hm⟩ : ∃ m, (layL a).length = m := ⟨_, rfl⟩
  obtain ⟨m', hm'⟩ : ∃ m', (layL a').length = m' := ⟨_, rfl⟩
  have HM := keepd hm
  have HM' := keepd hm'
  have b2 : m ≤ 2 * n := by have := (layL_len a).2; rw [← HN.out] at this; omega
  have b3 : n ≤ m := by have := (layL_len a).1; rw [← HN.out] at this; omega
  have b2' : m' ≤ 2 * n' := by have := (layL_len a').2; rw [← HN'.out] at this; omega
  have HNN : Hid ((a ++ a').length = n + n') := by show _ = _; rw [List.length_append, ← HN.out, ← HN'.out]
  have HMM : Hid ((layL a ++ layL a').length = m + m') := by show _ = _; rw [List.length_append, hm, hm']
  clear F F' ha ha' hn hn' hr hr' q1 q1' q2 q2' hm hm'
  go_enter Try.func5, Try.ntmps5
  go_wp2_with fail
  with_reducible refine FF.out.mono ?_
  rintro e w0 ⟨rfl, rfl⟩
  go_wp2_with fail
  with_reducible refine FF'.out.mono ?_
  rintro e w0 ⟨rfl, rfl⟩
  clear FF FF'
  go_wp2_with (at_builtin; refine wpList_app _ rfl (.tmp 14) (.tmp 15) rfl w.heap.size _ [] rfl (empty_own w _ (Nat.le_refl _)) w.heap.size A n c a rfl HN.out ?_ ?_ ?_ ?_)
  · exact HR.out.alloc (Nat.le_refl _) (Nat.le_refl _) _
  · rw [← HN.out]; simp; omega
  · simp
  intro va1 wa1 ho hg hat
  have HA1 := keepd (app_start0 hg)
  have HO1 := keepd ho
  obtain ⟨Aa1, ca1, hv, _⟩ := ho.rd
  rw [← HN.out] at hv
  subst hv
  clear ho hg hat
  go_wp2_with (at_builtin; refine wpList_app _ rfl (.tmp 16) (.tmp 17) rfl w.heap.size _ a rfl HO1.out wa1.heap.size A' n' c' a' rfl HN'.out (HR'.out.at_ HA1.out) ?_ ?_ ?_)
  · rw [← List.length_append, HNN.out]; omega
  · exact HA1.out.size
  intro vb1 wb1 ho hg hat
  have HB1 := keepd (app_below HA1.out HO1.out hg)
  obtain ⟨Ab1, cb1, hv, hr4⟩ := ho.rd
  rw [HNN.out] at hv
  subst hv
  have RB1 := keepd hr4
  clear ho hg hat hr4 HO1 HA1
  go_wp2_with fail
  with_reducible refine (lay_any A a n c wb1 HN.out (HR.out.at_ HB1.out) (by omega)).mono ?_
  rintro e w2 ⟨A2, c2, rfl, hr2, hb2⟩
  rw [HM.out]
  have R2 := keepd hr2
  have RB12 := keepd (RB1.out.at_ hb2)
  have H2 := keepd (bCall HB1.out hb2)
  clear hr2 hb2 RB1 HB1
  go_wp2_with fail
  with_reducible refine (lay_any A' a' n' c' w2 HN'.out (HR'.out.at_ H2.out) (by omega)).mono ?_
  rintro e w3 ⟨A3, c3, rfl, hr3, hb3⟩
  rw [HM'.out]
  have R3 := keepd hr3
  have R23 := keepd (R2.out.at_ hb3)
  have RB13 := keepd (RB12.out.at_ hb3)
  have H3 := keepd (bCall H2.out hb3)
  clear hr3 hb3 RB12 H2 R2
  go_wp2_with (at_builtin; refine wpList_app _ rfl (.tmp 24) (.tmp 25) rfl w3.heap.size _ [] rfl (empty_own w3 _ (Nat.le_refl _)) w3.heap.size A2 m c2 (layL a) rfl HM.out.symm ?_ ?_ ?_ ?_)
  · exact R23.out.alloc (Nat.le_refl _) (Nat.le_refl _) _
  · rw [HM.out]; simp; omega
  · simp
  intro va2 wa2 ho hg hat
  have HA2 := keepd (app_start0 hg)
  have HO2 := keepd ho
  obtain ⟨Aa2, ca2, hv, _⟩ := ho.rd
  rw [HM.out] at hv
  subst hv
  clear ho hg hat
  go_wp2_with (at_builtin; refine wpList_app _ rfl (.tmp 26) (.tmp 27) rfl w3.heap.size _ (layL a) rfl HO2.out wa2.heap.size A3 m' c3 (layL a') rfl HM'.out.symm (R3.out.at_ HA2.out) ?_ ?_ ?_)
  · rw [← List.length_append, HMM.out]; omega
  · exact HA2.out.size
  intro vb2 wb2 ho hg hat
  have HB2 := keepd (app_below HA2.out HO2.out hg)
  obtain ⟨Ab2, cb2, hv, hr4⟩ := ho.rd
  rw [HMM.out] at hv
  subst hv
  have RB2 := keepd hr4
  clear ho hg hat hr4 HO2 HA2
  have X := read_any Ab2 (layL a ++ layL a') (m + m') cb2 wb2 HMM.out.symm RB2.out (by omega)
  rw [← layL_append, read_lay, layL_append, HMM.out] at X
  go_wp2_with fail
  with_reducible refine X.mono ?_
  rintro e w4 ⟨A4, c4, rfl, hr4, hb4⟩
  rw [HNN.out]
  have hb4' := bCall HB2.out hb4
  have R4 := keepd hr4
  have R34 := keepd (R3.out.at_ hb4')
  have R24 := keepd (R23.out.at_ hb4')
  have RB14 := keepd (RB13.out.at_ hb4')
  have H4 := keepd (bCall H3.out hb4')
  clear X hr4 hb4 hb4' R3 R23 RB13 H3 RB2 HB2
  go_wp2_with fail
  have X := lay_any Ab1 (a ++ a') (n + n') cb1 w4 HNN.out.symm RB14.out (by omega)
  rw [layL_append, HMM.out] at X
  with_reducible refine X.mono ?_
  rintro e w5 ⟨A5, c5, rfl, hr5, hb5⟩
  have R5 := keepd hr5
  have R45 := keepd (R4.out.at_ hb5)
  have R35 := keepd (R34.out.at_ hb5)
  have R25 := keepd (R24.out.at_ hb5)
  have RB15 := keepd (RB14.out.at_ hb5)
  have H5 := keepd (bCall H4.out hb5)
  clear X hr5 hb5 R4 R34 R24 RB14 H4
  go_wp2_with (at_builtin; refine wpList_app _ rfl (.tmp 34) (.tmp 35) rfl w5.heap.size _ [] rfl (empty_own w5 _ (Nat.le_refl _)) w5.heap.size A2 m c2 (layL a) rfl HM.out.symm ?_ ?_ ?_ ?_)
  · exact R25.out.alloc (Nat.le_refl _) (Nat.le_refl _) _
  · rw [HM.out]; simp; omega
  · simp
  intro va3 wa3 ho hg hat
  have HA3 := keepd (app_start0 hg)
  have HO3 := keepd ho
  obtain ⟨Aa3, ca3, hv, _⟩ := ho.rd
  rw [HM.out] at hv
  subst hv
  clear ho hg hat
  go_wp2_with (at_builtin; refine wpList_app _ rfl (.tmp 36) (.tmp 37) rfl w5.heap.size _ (layL a) rfl HO3.out wa3.heap.size A3 m' c3 (layL a') rfl HM'.out.symm (R35.out.at_ HA3.out) ?_ ?_ ?_)
  · rw [← List.length_append, HMM.out]; omega
  · exact HA3.out.size
  intro vb3 wb3 ho hg hat
  have HB3 := keepd (app_below HA3.out HO3.out hg)
  obtain ⟨Ab3, cb3, hv, hr4⟩ := ho.rd
  rw [HMM.out] at hv
  subst hv
  have RB3 := keepd hr4
  clear ho hg hat hr4 HO3 HA3
  have H6 := keepd (bCall H5.out HB3.out)
  have R46 := keepd (R45.out.at_ HB3.out)
  have RB16 := keepd (RB15.out.at_ HB3.out)
  have Y := octets_n A5 Ab3 (layL a ++ layL a') (layL a ++ layL a') (m + m') (m + m') c5 cb3 _ wb3 HMM.out.symm HMM.out.symm (R5.out.at_ HB3.out) RB3.out
  rw [beq_self_eq_true] at Y
  have Y' := octets_n A4 Ab1 (a ++ a') (a ++ a') (n + n') (n + n') c4 cb1 _ wb3 HNN.out.symm HNN.out.symm R46.out RB16.out
  rw [beq_self_eq_true] at Y'
  clear R5 R45 R35 R25 RB15 H5 HB3 RB3 R46
  go_wp2_with fail
  with_reducible refine Y.mono ?_
  rintro e w6 ⟨rfl, rfl⟩
  go_wp2_with fail
  with_reducible refine Y'.mono ?_
  rintro e w6 ⟨rfl, rfl⟩
  have Z := size_any Ab1 (a ++ a') (n + n') cb1 wb3 HNN.out.symm RB16.out (by omega)
  rw [layL_append, HMM.out] at Z
  clear Y Y' RB16
  go_wp2_with fail
  with_reducible refine Z.mono ?_
  rintro e w7 ⟨rfl, hb7⟩
  have H7 := keepd (bCall H6.out hb7)
  clear Z hb7 H6
  have Z := size_any A a n c w7 HN.out (HR.out.at_ H7.out) (by omega)
  rw [HM.out] at Z
  go_wp2_with fail
  with_reducible refine Z.mono ?_
  rintro e w8 ⟨rfl, hb8⟩
  have H8 := keepd (bCall H7.out hb8)
  clear Z hb8 H7
  have Z := size_any A' a' n' c' w8 HN'.out (HR'.out.at_ H8.out) (by omega)
  rw [HM'.out] at Z
  go_wp2_with fail
  with_reducible refine Z.mono ?_
  rintro e w9 ⟨rfl, hb9⟩
  have H9 := keepd (bCall H8.out hb9)
  clear Z hb9 H8
  have Z := size_any A a n c w9 HN.out (HR.out.at_ H9.out) (by omega)
  rw [HM.out] at Z
  go_wp2_with fail
  with_reducible refine Z.mono ?_
  rintro e wc ⟨rfl, hbc⟩
  have HC := keepd (bCall H9.out hbc)
  clear Z hbc H9
  go_wp2_with fail
  with_reducible refine (awake_any wc).mono ?_
  rintro e wd ⟨rfl, hbd⟩
  have HD := keepd (bCall HC.out hbd)
  clear hbd HC
  go_wp2
  go_ret
  exact ⟨rfl, HD.out⟩

end Go.Proofs.Ytoiiiakhgmledaa
