/-
  What the law QueueKeeps returns.
-/
import Derived.Test.YtifimgachkecpaaFull
import Derived.Test.YtifimgachkecpaaOpen
namespace Go.Proofs.Ytifimgachkecpaa
open Go.RowKit

theorem check_no_at (cap : Int) (A : Option Addr) (n m c : Nat) (w : World) (hn : n = m) (h : ¬ May cap m) :
    Calls Try.prog 12 #[.agg #[.int .i64 cap, .slice A n c]] w fun e w' => e = .returned (.int .i64 1) ∧ Below w.heap.size w w' := by
  subst hn
  exact check_no cap A n c w h

set_option maxHeartbeats 800000 in
theorem keep_err (cap k : Int) (A A' : Option Addr) (l l' : List UInt8) (n n' c c' : Nat) (w : World) (hn : n = l.length) (hn' : n' = l'.length) (hr : Rd w w.heap.size A l c) (hr' : Rd w w.heap.size A' l' c')
    (hm : ¬ May cap (min n 200)) :
    Calls Try.prog 7 #[.agg #[.int .i64 cap, .slice A n c], .slice A' n' c', .int .i64 k] w fun e w' => e = .returned (.bool true) ∧ Below w.heap.size w w' := by
  have HM := keepd hm
  have b1 : n ≤ c := by have := hr.1; omega
  have b2 : c ≤ maxLen := hr.2.1
  have b1' : n' ≤ c' := by have := hr'.1; omega
  have b2' : c' ≤ maxLen := hr'.2.1
  clear hr hr' hn hn' hm
  go_enter Try.func7, Try.ntmps7
  go_wp2_with fail
  with_reducible refine (one_any cap A n c _ b1 b2).mono ?_
  rintro e w1 ⟨rfl, hb1⟩
  simp only [World.size_alloc] at hb1
  have q1 := (QR.new w (.int .i64 cap) (.slice A n c)).call hb1 (by omega)
  have s1 : Below w.heap.size w w1 := ((Below.refl _ _).alloc (Nat.le_refl _) _).trans (hb1.mono (by omega))
  have e1 := q1.facts
  have HQ1 := keepd q1
  have l1 := q1.lt
  clear q1 hb1
  go_wp2_with fail
  with_reducible refine (few_any A' n' c' _ b1' b2').mono ?_
  rintro e w1' ⟨rfl, rfl⟩
  go_wp2_with fail
  have hs2 := set2_below s1 (b := w.heap.size) (by omega) (.int .i64 cap) (.slice A (min n 200) c)
  generalize (w1.setCell ⟨w.heap.size, 0, none⟩ (.int .i64 cap)).setCell ⟨w.heap.size, 1, none⟩ (.slice A (min n 200) c) = W2 at *
  with_reducible refine (check_no cap A (min n 200) c _ HM.out).mono ?_
  rintro e w3 ⟨rfl, hb3⟩
  go_wp2_with fail
  with_reducible refine (awake_any _).mono ?_
  rintro e w4 ⟨rfl, hb4⟩
  go_wp2
  go_ret
  exact ⟨rfl, bCall (bCall hs2 hb3) hb4⟩

theorem empty_own (w : World) (base : Nat) (h : base ≤ w.heap.size) : Own (w.alloc (.cells #[] 5)) base (.slice (some ⟨w.heap.size, 0, none⟩) 0 0) [] :=
  ⟨by simp, .inr ⟨w.heap.size, 0, #[], rfl, h, heap_alloc_new w _, Nat.le_refl _, by simp, by simp, by simp⟩⟩

theorem app_start {w3 w' : World} (hg : (w3.alloc (.cells #[] 5)).drew.grownBy w' (Value.ownBlock (.slice (some ⟨w3.heap.size, 0, none⟩) 0 0))) : Below w3.heap.size w3 w' := by
  have h1 := grown_below (empty_own w3 _ (Nat.le_refl _)).drew hg (by show w3.heap.size ≤ (w3.alloc _).heap.size; simp)
  exact (bAlloc (Below.refl w3.heap.size w3) _).drew.trans h1

theorem app_start0 {w3 w' : World} (hg : (w3.alloc (.cells #[] 5)).grownBy w' (Value.ownBlock (.slice (some ⟨w3.heap.size, 0, none⟩) 0 0))) : Below w3.heap.size w3 w' := by
  have h1 := grown_below (empty_own w3 _ (Nat.le_refl _)) hg (by simp)
  exact (bAlloc (Below.refl w3.heap.size w3) _).trans h1

theorem Bk.set {w : World} {g : Nat} {l : List UInt8} (h : Bk w g l) (j : Nat) (z : Int) (hz : (Lit.int .u8 z).wf = true) : Bk (w.setCell ⟨g, j, none⟩ (.int .u8 z)) g (l.set j (oct z)) := by
  have := row_set w g j (.int .u8 z) _ 5 h
  unfold Bk
  rw [this, bv_oct hz]
  simp

theorem Bk.cellAt {w : World} {g : Nat} {l : List UInt8} (h : Bk w g l) {j : Nat} (hj : j < l.length) : w.cell? ⟨g, j, none⟩ = some (.int .u8 (l[j].toNat : Int)) ∧ w.frozen? ⟨g, j, none⟩ = false := by
  refine ⟨?_, ?_⟩
  · rw [cell_of_row w g j _ 5 (0, 0) h]
    simp [hj, bv]
  · unfold Bk at h
    simp [World.frozen?, h]

theorem QR.setCell {w : World} {b : Nat} {u v : Value} (h : QR w b u v) {p : Addr} (hp : b ≠ p.block) (x : Value) : QR (w.setCell p x) b u v := (Below.heap_setCell w p x b hp).trans h

set_option maxRecDepth 100000 in
set_option maxHeartbeats 1000000 in
theorem keep_ok (cap k : Int) (A A' : Option Addr) (l l' : List UInt8) (n n' c c' : Nat) (w : World) (hn : n = l.length) (hn' : n' = l'.length) (hr : Rd w w.heap.size A l c) (hr' : Rd w w.heap.size A' l' c')
    (hm : May cap (min n 200)) :
    Calls Try.prog 7 #[.agg #[.int .i64 cap, .slice A n c], .slice A' n' c', .int .i64 k] w fun e w' => e = .returned (.bool true) ∧ Below w.heap.size w w' := by
  have HR := keepd (hr.take 200)
  have HR' := keepd (hr'.take 200)
  have b1 : n ≤ c := by have := hr.1; omega
  have b2 : c ≤ maxLen := hr.2.1
  have b1' : n' ≤ c' := by have := hr'.1; omega
  have b2' : c' ≤ maxLen := hr'.2.1
  have HN1 : Hid (min n 200 = (l.take 200).length) := by show _ = _; rw [List.length_take]; omega
  have HN1' : Hid (min n' 200 = (l'.take 200).length) := by show _ = _; rw [List.length_take]; omega
  have HM := keepd hm
  clear hr hr' hn hn' hm
  go_enter Try.func7, Try.ntmps7
  go_wp2_with fail
  with_reducible refine (one_any cap A n c _ b1 b2).mono ?_
  rintro e w1 ⟨rfl, hb1⟩
  simp only [World.size_alloc] at hb1
  have q1 := (QR.new w (.int .i64 cap) (.slice A n c)).call hb1 (by omega)
  have s1 : Below w.heap.size w w1 := ((Below.refl _ _).alloc (Nat.le_refl _) _).trans (hb1.mono (by omega))
  have e1 := q1.facts
  have HQ1 := keepd q1
  have l1 := q1.lt
  clear q1 hb1
  go_wp2_with fail
  with_reducible refine (few_any A' n' c' _ b1' b2').mono ?_
  rintro e w1' ⟨rfl, rfl⟩
  go_wp2_with fail
  have hq2 := HQ1.out.store (.int .i64 cap) (.slice A (min n 200) c)
  have hs2 := set2_below s1 (b := w.heap.size) (by omega) (.int .i64 cap) (.slice A (min n 200) c)
  have a1 : min n 200 ≤ 200 := by omega
  have a2 : min n' 200 ≤ 200 := by omega
  generalize (w1.setCell ⟨w.heap.size, 0, none⟩ (.int .i64 cap)).setCell ⟨w.heap.size, 1, none⟩ (.slice A (min n 200) c) = W2 at *
  clear e1 HQ1
  generalize l.take 200 = L at *
  generalize l'.take 200 = L' at *
  generalize min n 200 = a at *
  generalize min n' 200 = a' at *
  have HM1 : Hid (May cap L.length) := by show May _ _; have := HM.out; rwa [HN1.out] at this
  obtain ⟨m1, m2, m3⟩ := HM.out
  with_reducible refine (check_yes cap A a c _ HM.out).mono ?_
  rintro e w3 ⟨rfl, hb3⟩
  have q3 := hq2.call hb3 hq2.lt
  have s3 := bCall hs2 hb3
  have k0 := q3.facts.1
  have k1 := q3.facts.2.1
  have y3 := q3.lt
  have K0 := keepd k0
  have K1 := keepd k1
  have HQ3 := keepd q3
  have HR3 := keepd (HR.out.at_ s3)
  have HR3' := keepd (HR'.out.at_ s3)
  have hconv : ∀ W : World, Below w3.heap.size w3 W → (convert 22 9 (.slice A' a' c')).run Try.prog W = .ok (.string ⟨L'.toArray⟩) W := by
    intro W hW
    have := conv_str (HR3'.out.at_ hW)
    rwa [← HN1'.out] at this
  clear hq2 q3 hb3 hs2
  go_wp2_with fail
  go_cut [7, 8] (fun s7 s8 wx => s8 = .string ⟨L'.toArray⟩ ∧ Hid (Own wx w3.heap.size s7 L) ∧ Hid (Below w3.heap.size w3 wx))
  case first =>
    go_region_held3 (fun W => W.cell? ⟨w.heap.size, 0, none⟩ = some (.int .i64 cap) ∧ W.cell? ⟨w.heap.size, 1, none⟩ = some (.slice A a c) ∧ Below w3.heap.size w3 W)
      ((refine sOf2 K0.out K1.out y3 ?_; repeat (first | assumption | exact Below.refl _ _ | with_reducible refine bAlloc ?_ _ | with_reducible refine Below.drew ?_ | omega)))
      (first | (refine step_app _ rfl (.tmp 26) (.tmp 28) rfl w3.heap.size _ [] rfl ?_ w3.heap.size A a c L rfl HN1.out ?_ ?_ ?_ ?_; (exact (empty_own w3 _ (Nat.le_refl _)).drew); (focus (refine HR3.out.below ?_ (Nat.le_refl _); repeat (first | assumption | exact Below.refl _ _ | with_reducible refine bAlloc ?_ _ | with_reducible refine Below.drew ?_ | omega))); (rw [← HN1.out]; simp; omega); (simp); intro v' w' ho hg hat; have hbb := app_start hg; have HO := keepd ho; rw [List.nil_append] at HO; clear ho hg hat))
    all_goals
      go_wp2_with fail
      go_meet
      exact ⟨rfl, HO, hbb⟩
  case rest =>
    obtain ⟨rfl, HO, HB⟩ := hcut
    have q4 := HQ3.out.call HB.out y3
    have s4 := bCall s3 HB.out
    have f4 := q4.facts
    have x4 := q4.lt
    have HQ4 := keepd q4
    have HR4 := keepd (HR3.out.at_ HB.out)
    have HR4' := keepd (HR3'.out.at_ HB.out)
    obtain ⟨wA, wc4, hv7, hrd7⟩ := HO.out.rd
    rw [← HN1.out] at hv7
    subst hv7
    have HW4 := keepd hrd7
    obtain ⟨p, hp⟩ : ∃ p : Nat, min a' (cap.toNat - a) = p := ⟨_, rfl⟩
    have HL : Hid ((L ++ L'.take p).length = a + p) := by show _ = _; have h1 := HN1.out; have h2 := HN1'.out; rw [List.length_append, List.length_take]; omega
    have p1 : p ≤ 200 := by omega
    have hcap : a + p ≤ cap.toNat := by omega
    have HP : Hid (min L'.length (cap.toNat - L.length) = p) := by show _ = _; rw [← HN1.out, ← HN1'.out]; exact hp
    clear hp q4 hrd7 k0 k1 hconv
    go_wp2_with fail
    with_reducible refine (put_at cap A A' L L' (L ++ L'.take p) a a' c c' p _ HN1.out HN1'.out (by rw [HP.out]) (by rw [HP.out]) HM1.out HR4.out HR4'.out (by rw [← HN1'.out]; omega)).mono ?_
    rintro e w5 ⟨g5, rfl, hg5, hbk5, hb5⟩
    obtain ⟨kk, hkk⟩ : ∃ kk : Nat, (kk : Int) = max 0 (min k ((a + p : Nat) : Int)) := ⟨(max 0 (min k ((a + p : Nat) : Int))).toNat, by omega⟩
    have k1 : kk ≤ a + p := by omega
    have HKK : Hid ((kk : Int) = max 0 (min k ((L ++ L'.take p).length : Int))) := by show _ = _; rw [HL.out]; exact hkk
    generalize L ++ L'.take p = O at *
    have HR1 : Hid ((O.drop kk).length = a + p - kk) := by show _ = _; rw [List.length_drop, HL.out]
    have HR2 : Hid ((O.take kk).length = kk) := by show _ = _; rw [List.length_take, HL.out]; omega
    have HM2 : Hid (May cap O.length) := by show May _ _; rw [HL.out]; unfold May; omega
    unfold qv
    rw [HL.out]
    have s5 := bCall s4 hb5
    have HB5 := keepd hbk5
    have HQ5 := keepd (HQ4.out.call hb5 x4)
    have HR5 := keepd (HR4.out.at_ hb5)
    have HR5' := keepd (HR4'.out.at_ hb5)
    have HW5 := keepd (HW4.out.at_ hb5)
    clear hbk5 hb5 hkk f4
    -- what p holds, kept apart
    go_upto_region 6 with fail
    have hb6 : Below w5.heap.size w5 (w5.alloc (.cells #[.int .i64 cap, .slice (some ⟨g5, 0, none⟩) (a + p) (a + p)] 24)) := bAlloc (Below.refl _ _) _
    have s6 := bCall s5 hb6
    have HP6 := keepd (QR.new w5 (.int .i64 cap) (.slice (some ⟨g5, 0, none⟩) (a + p) (a + p)))
    have HQ6 := keepd (HQ5.out.call hb6 HQ5.out.lt)
    have HB6 := keepd (HB5.out.below hb6 HB5.out.lt)
    have HR6 := keepd (HR5.out.at_ hb6)
    have HR6' := keepd (HR5'.out.at_ hb6)
    have HW6 := keepd (HW5.out.at_ hb6)
    have f6 := HP6.out.facts
    have x6 := HP6.out.lt
    generalize w5.alloc (.cells #[.int .i64 cap, .slice (some ⟨g5, 0, none⟩) (a + p) (a + p)] 24) = W6 at *
    clear hb6 HQ5 HB5 HR5 HR5' HW5
    go_wp2_with (at_builtin; refine wpList_app _ rfl (.tmp 39) (.tmp 41) rfl W6.heap.size _ [] rfl (empty_own W6 _ (Nat.le_refl _)) (W6.heap.size + 1) (some ⟨g5, 0, none⟩) (a + p) (a + p) O rfl HL.out.symm ?_ ?_ ?_ ?_)
    · have := (HB6.out.alloc (.cells #[] 5)).rdN HL.out (by omega)
      simpa using this
    · rw [HL.out]
      simp
      omega
    · simp
    · intro hv7 W7 ho hg hat
      have hb7 : Below W6.heap.size W6 W7 := app_start0 hg
      have HO7 := keepd ho
      have s7 := bCall s6 hb7
      have HP7 := keepd (HP6.out.call hb7 x6)
      have HQ7 := keepd (HQ6.out.call hb7 HQ6.out.lt)
      have HB7 := keepd (HB6.out.below hb7 HB6.out.lt)
      have HR7 := keepd (HR6.out.at_ hb7)
      have HR7' := keepd (HR6'.out.at_ hb7)
      have HW7 := keepd (HW6.out.at_ hb7)
      have f7 := HP7.out.facts
      have x7 := HP7.out.lt
      obtain ⟨uA, uc7, hv8, hrd8⟩ := HO7.out.rd
      rw [HL.out] at hv8
      subst hv8
      have HU7 := keepd hrd8
      clear ho hg hat hb7 HP6 HQ6 HB6 HR6 HR6' HW6 hrd8 f6
      go_wp2_with fail
      with_reducible refine (take_at cap k (some ⟨g5, 0, none⟩) O (O.drop kk) (O.take kk) (a + p) (a + p) kk _ HL.out.symm HKK.out rfl rfl HM2.out (HB7.out.rdN HL.out (by omega))).mono ?_
      rintro e w8 ⟨g8, o8, rfl, hg8, ho8, hne8, hbk8, hbo8, hb8⟩
      unfold qv
      rw [HR1.out, HR2.out]
      go_upto_region 8 with fail
      have hb9 : Below W7.heap.size W7 (w8.alloc (.cells #[.int .i64 cap, .slice (some ⟨g8, 0, none⟩) (a + p - kk) (a + p - kk)] 24)) := bAlloc hb8 _
      have HT9 := keepd (QR.new w8 (.int .i64 cap) (.slice (some ⟨g8, 0, none⟩) (a + p - kk) (a + p - kk)))
      have HB9 := keepd (hbk8.alloc (.cells #[.int .i64 cap, .slice (some ⟨g8, 0, none⟩) (a + p - kk) (a + p - kk)] 24))
      have HO9 := keepd (hbo8.alloc (.cells #[.int .i64 cap, .slice (some ⟨g8, 0, none⟩) (a + p - kk) (a + p - kk)] 24))
      have n1 : w8.heap.size ≠ g8 := by have := hbk8.lt; omega
      have n2 : w8.heap.size ≠ o8 := by have := hbo8.lt; omega
      have z8 := hb8.size
      generalize w8.alloc (.cells #[.int .i64 cap, .slice (some ⟨g8, 0, none⟩) (a + p - kk) (a + p - kk)] 24) = W9 at *
      generalize O.drop kk = D at *
      generalize O.take kk = T at *
      have HBW := keepd hb9
      clear hbk8 hbo8 hb8 hb9 f7
      go_wp2_with fail
      go_loopw [52] (fun i wr => ∃ (j : Nat) (l1 : List UInt8), j ≤ kk ∧ i = .int .i64 j ∧ Hid (l1.length = kk) ∧ Hid (Bk wr o8 l1) ∧ Hid (Bk wr g8 D) ∧ Hid (QR wr w8.heap.size (.int .i64 cap) (.slice (some ⟨g8, 0, none⟩) (a + p - kk) (a + p - kk))) ∧ Hid (Below W7.heap.size W7 wr))
        (fun i _ => kk - (intOf i).toNat)
      case atStart => exact ⟨0, T, by omega, rfl, HR2, HO9, HB9, HT9, HBW⟩
      case round =>
        obtain ⟨j, l1, hj, rfl, J1, J2, J3, J4, J5⟩ := hrel
        by_cases hlt : j < kk
        · obtain ⟨c1, c2⟩ := J2.out.cellAt (j := j) (by rw [J1.out]; exact hlt)
          go_wp2
          go_roundw
          case rel => exact ⟨j + 1, _, by omega, by go_num, (List.length_set.trans J1.out : _ = _), J2.out.set j _ (wf_bits _ _ _ _), J3.out.setCell (by simp; omega) _, J4.out.setCell (by simp; omega) _, J5.out.setCell (by simp; omega) _⟩
          case measure => simp [intOf]; omega
        · obtain rfl : kk = j := by omega
          have f10 := J4.out.facts
          go_wp2_with fail
          go_loopw [65] (fun i wr => ∃ (j : Nat) (l2 : List UInt8), j ≤ a + p - kk ∧ i = .int .i64 j ∧ Hid (l2.length = a + p - kk) ∧ Hid (Bk wr g8 l2) ∧ Hid (QR wr w8.heap.size (.int .i64 cap) (.slice (some ⟨g8, 0, none⟩) (a + p - kk) (a + p - kk))) ∧ Hid (Below W7.heap.size W7 wr))
            (fun i _ => a + p - kk - (intOf i).toNat)
          case atStart => exact ⟨0, D, by omega, rfl, HR1, J3, J4, J5⟩
          case round =>
            obtain ⟨j, l2, hj2, rfl, M1, M2, M3, M4⟩ := hrel
            have f11 := M3.out.facts
            by_cases hlt2 : j < a + p - kk
            · obtain ⟨c1, c2⟩ := M2.out.cellAt (j := j) (by rw [M1.out]; exact hlt2)
              go_wp2
              go_roundw
              case rel => exact ⟨j + 1, _, by omega, by go_num, (List.length_set.trans M1.out : _ = _), M2.out.set j _ (wf_bits _ _ _ _), M3.out.setCell (by simp; omega) _, M4.out.setCell (by simp; omega) _⟩
              case measure => simp [intOf]; omega
            · have s12 := bCall s7 M4.out
              have q12 := (HQ7.out.call M4.out HQ7.out.lt).facts
              have p12 := (HP7.out.call M4.out HP7.out.lt).facts
              have HR12 := keepd (HR7.out.at_ M4.out)
              have HR12' := keepd (HR7'.out.at_ M4.out)
              have HW12 := keepd (HW7.out.at_ M4.out)
              have HU12 := keepd (HU7.out.at_ M4.out)
              have HO12 := keepd (HB7.out.below M4.out HB7.out.lt)
              have HLL : Hid ((L == L) = true) := by show _ = _; simp
              have HOO : Hid ((O == O) = true) := by show _ = _; simp
              have hconv := conv_str HR12'.out
              rw [← HN1'.out] at hconv
              clear f10 f11
              go_wp2_with fail
              with_reducible refine (octets_at A wA L L a a c wc4 _ _ HN1.out HN1.out HR12.out HW12.out).mono ?_
              rintro e w13 ⟨rfl, rfl⟩
              rw [HLL.out]
              go_wp2_with fail
              with_reducible refine (octets_at (some ⟨g5, 0, none⟩) uA O O (a + p) (a + p) (a + p) uc7 _ _ HL.out.symm HL.out.symm (HO12.out.rdN HL.out (by omega)) HU12.out).mono ?_
              rintro e w14 ⟨rfl, rfl⟩
              rw [HOO.out]
              go_wp2_with fail
              with_reducible refine (awake_any _).mono ?_
              rintro e w15 ⟨rfl, hb15⟩
              go_wp2
              go_ret
              exact ⟨rfl, bCall s12 hb15⟩
end Go.Proofs.Ytifimgachkecpaa
