/-
  What the law QueueRoom returns, in both cases.
-/
import Derived.Test.YtifimgachkecpaaT8
namespace Go.Proofs.Ytifimgachkecpaa
open Go.RowKit

theorem put_err (cap : Int) (A A' : Option Addr) (l : List UInt8) (n n' c c' : Nat) (w : World) (hn : n = l.length) (h : ¬ May cap l.length) (hr : Rd w w.heap.size A l c) (hl : l.length ≤ 100000) :
    Calls Try.prog 16 #[.agg #[.int .i64 cap, .slice A n c], .slice A' n' c'] w (GotPut w cap l 0 1) := by
  subst hn
  exact put_no cap A A' l n' c c' w h hr hl

set_option maxHeartbeats 800000 in
theorem room_err (cap k : Int) (A A' : Option Addr) (l l' : List UInt8) (n n' c c' : Nat) (w : World) (hn : n = l.length) (hn' : n' = l'.length) (hr : Rd w w.heap.size A l c) (hr' : Rd w w.heap.size A' l' c')
    (hm : ¬ May cap (min n 200)) :
    Calls Try.prog 6 #[.agg #[.int .i64 cap, .slice A n c], .slice A' n' c', .int .i64 k] w fun e w' => e = .returned (.bool true) ∧ Below w.heap.size w w' := by
  have HR := keepd hr
  have HR' := keepd hr'
  have HN := keepd hn
  have HN' := keepd hn'
  have HM := keepd hm
  have b1 : n ≤ c := by have := hr.1; omega
  have b2 : c ≤ maxLen := hr.2.1
  have b1' : n' ≤ c' := by have := hr'.1; omega
  have b2' : c' ≤ maxLen := hr'.2.1
  clear hr hr' hn hn' hm
  have HN1 : Hid (min n 200 = (l.take 200).length) := by show _ = _; have := HN.out; rw [List.length_take]; omega
  have HM1 : Hid (¬ May cap (l.take 200).length) := by show ¬ _; have := HM.out; rwa [HN1.out] at this
  go_enter Try.func6, Try.ntmps6
  go_wp2_with fail
  with_reducible refine (one_any cap A n c _ b1 b2).mono ?_
  rintro e w1 ⟨rfl, hb1⟩
  simp only [World.size_alloc] at hb1
  have q1 := (QR.new w (.int .i64 cap) (.slice A n c)).call hb1 (by omega)
  have s1 : Below w.heap.size w w1 := ((Below.refl _ _).alloc (Nat.le_refl _) _).trans (hb1.mono (by omega))
  have e1 := q1.facts
  have HQ1 := keepd q1
  have l1 := q1.lt
  clear q1 hb1
  go_wp2_with fail
  with_reducible refine (few_any A' n' c' _ b1' b2').mono ?_
  rintro e w1' ⟨rfl, rfl⟩
  go_wp2_with fail
  have hq2 := HQ1.out.store (.int .i64 cap) (.slice A (min n 200) c)
  have hs2 := set2_below s1 (b := w.heap.size) (by omega) (.int .i64 cap) (.slice A (min n 200) c)
  generalize (w1.setCell ⟨w.heap.size, 0, none⟩ (.int .i64 cap)).setCell ⟨w.heap.size, 1, none⟩ (.slice A (min n 200) c) = W2 at *
  with_reducible refine (put_err cap A A' (l.take 200) (min n 200) (min n' 200) c c' _ HN1.out HM1.out ((HR.out.take 200).at_ hs2) (by rw [List.length_take]; omega)).mono ?_
  rintro e w3 ⟨g3, rfl, hg3, hbk3, hb3⟩
  unfold qv
  go_wp2_with fail
  with_reducible refine (awake_any _).mono ?_
  rintro e w4 ⟨rfl, hb4⟩
  go_wp2
  go_ret
  exact ⟨rfl, bCall (bAlloc (bCall hs2 hb3) _) hb4⟩

set_option maxHeartbeats 800000 in
theorem room_ok (cap k : Int) (A A' : Option Addr) (l l' : List UInt8) (n n' c c' : Nat) (w : World) (hn : n = l.length) (hn' : n' = l'.length) (hr : Rd w w.heap.size A l c) (hr' : Rd w w.heap.size A' l' c')
    (hm : May cap (min n 200)) :
    Calls Try.prog 6 #[.agg #[.int .i64 cap, .slice A n c], .slice A' n' c', .int .i64 k] w fun e w' => e = .returned (.bool true) ∧ Below w.heap.size w w' := by
  have HR := keepd (hr.take 200)
  have HR' := keepd (hr'.take 200)
  have b1 : n ≤ c := by have := hr.1; omega
  have b2 : c ≤ maxLen := hr.2.1
  have b1' : n' ≤ c' := by have := hr'.1; omega
  have b2' : c' ≤ maxLen := hr'.2.1
  have HN1 : Hid (min n 200 = (l.take 200).length) := by show _ = _; rw [List.length_take]; omega
  have HN1' : Hid (min n' 200 = (l'.take 200).length) := by show _ = _; rw [List.length_take]; omega
  have HM := keepd hm
  clear hr hr' hn hn' hm
  go_enter Try.func6, Try.ntmps6
  go_wp2_with fail
  with_reducible refine (one_any cap A n c _ b1 b2).mono ?_
  rintro e w1 ⟨rfl, hb1⟩
  simp only [World.size_alloc] at hb1
  have q1 := (QR.new w (.int .i64 cap) (.slice A n c)).call hb1 (by omega)
  have s1 : Below w.heap.size w w1 := ((Below.refl _ _).alloc (Nat.le_refl _) _).trans (hb1.mono (by omega))
  have e1 := q1.facts
  have HQ1 := keepd q1
  have l1 := q1.lt
  clear q1 hb1
  go_wp2_with fail
  with_reducible refine (few_any A' n' c' _ b1' b2').mono ?_
  rintro e w1' ⟨rfl, rfl⟩
  go_wp2_with fail
  have hq2 := HQ1.out.store (.int .i64 cap) (.slice A (min n 200) c)
  have hs2 := set2_below s1 (b := w.heap.size) (by omega) (.int .i64 cap) (.slice A (min n 200) c)
  have a1 : min n 200 ≤ 200 := by omega
  have a2 : min n' 200 ≤ 200 := by omega
  generalize (w1.setCell ⟨w.heap.size, 0, none⟩ (.int .i64 cap)).setCell ⟨w.heap.size, 1, none⟩ (.slice A (min n 200) c) = W2 at *
  clear e1 HQ1
  generalize l.take 200 = L at *
  generalize l'.take 200 = L' at *
  generalize min n 200 = a at *
  generalize min n' 200 = a' at *
  have HM1 : Hid (May cap L.length) := by show May _ _; have := HM.out; rwa [HN1.out] at this
  obtain ⟨m1, m2, m3⟩ := HM.out
  clear HM
  obtain ⟨p, hp⟩ : ∃ p : Nat, min a' (cap.toNat - a) = p := ⟨_, rfl⟩
  have HL : Hid ((L ++ L'.take p).length = a + p) := by show _ = _; have h1 := HN1.out; have h2 := HN1'.out; rw [List.length_append, List.length_take]; omega
  have p1 : p ≤ a' := by omega
  have p2 : (p : Int) ≤ cap - a := by omega
  have p3 : (a' : Int) ≤ cap - a → a' = p := by omega
  have p4 : ¬ (a' : Int) ≤ cap - a → cap - a = p := by omega
  have HP : Hid (min L'.length (cap.toNat - L.length) = p) := by show _ = _; rw [← HN1.out, ← HN1'.out]; exact hp
  have P3 := keepd p3
  have P4 := keepd p4
  clear hp p3 p4
  have hf2 := hq2.facts
  have HQ2 := keepd hq2
  have l2 := hq2.lt
  clear hq2
  with_reducible refine (put_at cap A A' L L' (L ++ L'.take p) a a' c c' p _ HN1.out HN1'.out (by rw [HP.out]) (by rw [HP.out]) HM1.out (HR.out.at_ hs2) (HR'.out.at_ hs2) (by rw [← HN1'.out]; omega)).mono ?_
  rintro e w3 ⟨g3, rfl, hg3, hbk3, hb3⟩
  unfold qv
  rw [HL.out]
  have q3 := HQ2.out.call hb3 l2
  have s3 := bCall hs2 hb3
  have e3 := q3.facts
  have x3 := q3.lt
  have HQ3 := keepd q3
  have HB3 := keepd hbk3
  have l3 := hb3.size
  have g3l := hbk3.lt
  clear q3 hbk3 hb3 hf2
  have hcap : a + p ≤ cap.toNat := by omega
  have h1000 : a + p ≤ 400 := by omega
  -- what Take gives
  obtain ⟨kk, hkk⟩ : ∃ kk : Nat, (kk : Int) = max 0 (min k ((a + p : Nat) : Int)) := ⟨(max 0 (min k ((a + p : Nat) : Int))).toNat, by omega⟩
  have k1 : kk ≤ a + p := by omega
  have HKK : Hid ((kk : Int) = max 0 (min k ((L ++ L'.take p).length : Int))) := by show _ = _; rw [HL.out]; exact hkk
  generalize L ++ L'.take p = O at *
  have HR1 : Hid ((O.drop kk).length = a + p - kk) := by show _ = _; rw [List.length_drop, HL.out]
  have HR2 : Hid ((O.take kk).length = kk) := by show _ = _; rw [List.length_take, HL.out]; omega
  have HM2 : Hid (May cap O.length) := by show May _ _; rw [HL.out]; unfold May; omega
  have HM3 : Hid (May cap (O.drop kk).length) := by show May _ _; rw [HR1.out]; unfold May; omega
  have HM4 : Hid (min (O.take kk).length (cap.toNat - (O.drop kk).length) = kk) := by show _ = _; rw [HR1.out, HR2.out]; omega
  have HR3 : Hid ((O.drop kk ++ (O.take kk).take kk).length = a + p) := by show _ = _; rw [List.length_append, HR1.out, List.length_take, HR2.out]; omega
  clear hkk
  by_cases hq : (a' : Int) ≤ cap - a
  all_goals
    first
      | (have e5 : p = a' := (P3.out hq).symm
         subst e5)
      | (have e9 := P4.out hq)
    clear P3 P4
    go_wp2_with fail
    have hbk4 : Bk (w3.alloc (.cells #[.int .i64 cap, .slice (some ⟨g3, 0, none⟩) (a + p) (a + p)] 24)) g3 O := HB3.out.alloc _
    with_reducible refine (take_at cap k (some ⟨g3, 0, none⟩) O (O.drop kk) (O.take kk) (a + p) (a + p) kk _ HL.out.symm HKK.out rfl rfl HM2.out (by have := hbk4.rdS (by rw [HL.out]; omega); rwa [HL.out] at this)).mono ?_
    rintro e w5 ⟨g5, o5, rfl, hg5, ho5, hne5, hbk5, hbo5, hb5⟩
    unfold qv
    rw [HR1.out, HR2.out]
    simp only [World.size_alloc] at hb5 hg5 ho5
    have q5 := (HQ3.out.alloc _).call hb5 (by omega)
    have r5 := (QR.new w3 (.int .i64 cap) (.slice (some ⟨g3, 0, none⟩) (a + p) (a + p))).call hb5 (by omega)
    have s5 : Below w.heap.size w w5 := (bAlloc s3 _).trans (hb5.mono (by omega))
    have e5 := q5.facts
    have f5 := r5.facts
    have x5 := q5.lt
    have y5 := r5.lt
    have HB5 := keepd hbk5
    have HO5 := keepd hbo5
    have HF5 := keepd r5
    clear hbk4 q5 r5 hbk5 hbo5 hb5 e3
    go_wp2_with fail
    have hbk6 : Bk (w5.alloc (.cells #[.int .i64 cap, .slice (some ⟨g5, 0, none⟩) (a + p - kk) (a + p - kk)] 24)) g5 (O.drop kk) := HB5.out.alloc _
    have hbo6 : Bk (w5.alloc (.cells #[.int .i64 cap, .slice (some ⟨g5, 0, none⟩) (a + p - kk) (a + p - kk)] 24)) o5 (O.take kk) := HO5.out.alloc _
    with_reducible refine (put_at cap (some ⟨g5, 0, none⟩) (some ⟨o5, 0, none⟩) (O.drop kk) (O.take kk) (O.drop kk ++ (O.take kk).take kk) (a + p - kk) kk (a + p - kk) kk kk _ HR1.out.symm HR2.out.symm (by rw [HM4.out]) (by rw [HM4.out]) HM3.out
      (by have := hbk6.rdS (by rw [HR1.out]; omega); rwa [HR1.out] at this) (by have := hbo6.rdS (by rw [HR2.out]; omega); rwa [HR2.out] at this) (by rw [HR2.out]; omega)).mono ?_
    rintro e w7 ⟨g7, rfl, hg7, hbk7, hb7⟩
    unfold qv
    rw [HR3.out]
    simp only [World.size_alloc] at hb7 hg7
    have s7 : Below w.heap.size w w7 := (bAlloc s5 _).trans (hb7.mono (by omega))
    have r7 := (HF5.out.alloc _).call hb7 (by omega)
    have t7 := (QR.new w5 (.int .i64 cap) (.slice (some ⟨g5, 0, none⟩) (a + p - kk) (a + p - kk))).call hb7 (by omega)
    have f7 := r7.facts
    have k7 := t7.facts
    have x7 := r7.lt
    have y7 := t7.lt
    have z7 := s7.size
    clear hbk6 hbo6 r7 t7 hbk7 hb7 e5 f5
    go_wp2_with fail
    with_reducible refine (awake_any _).mono ?_
    rintro e w8 ⟨rfl, hb8⟩
    go_wp2
    go_ret
    exact ⟨rfl, bCall (bAlloc s7 _) hb8⟩
end Go.Proofs.Ytifimgachkecpaa
