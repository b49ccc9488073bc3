/-
  What the law QueueTells returns.
-/
import Derived.Test.YtifimgachkecpaaRef
namespace Go.Proofs.Ytifimgachkecpaa
open Go.RowKit

theorem two_st {w V W : World} {x y x' y' a b : Value} (h0 : QR V w.heap.size x y) (h1 : QR V (w.heap.size + 1) x' y') (h2 : AR V (w.heap.size + 1 + 1) a b) (s0 : Below w.heap.size w V) (hb : Below V.heap.size V W) (u0 u1 v0 v1 : Value) :
    Hid (QR ((((W.setCell ⟨w.heap.size, 0, none⟩ u0).setCell ⟨w.heap.size, 1, none⟩ u1).setCell ⟨w.heap.size + 1, 0, none⟩ v0).setCell ⟨w.heap.size + 1, 1, none⟩ v1) w.heap.size u0 u1) ∧
    Hid (QR ((((W.setCell ⟨w.heap.size, 0, none⟩ u0).setCell ⟨w.heap.size, 1, none⟩ u1).setCell ⟨w.heap.size + 1, 0, none⟩ v0).setCell ⟨w.heap.size + 1, 1, none⟩ v1) (w.heap.size + 1) v0 v1) ∧
    Hid (AR ((((W.setCell ⟨w.heap.size, 0, none⟩ u0).setCell ⟨w.heap.size, 1, none⟩ u1).setCell ⟨w.heap.size + 1, 0, none⟩ v0).setCell ⟨w.heap.size + 1, 1, none⟩ v1) (w.heap.size + 1 + 1) a b) ∧
    Hid (Below w.heap.size w ((((W.setCell ⟨w.heap.size, 0, none⟩ u0).setCell ⟨w.heap.size, 1, none⟩ u1).setCell ⟨w.heap.size + 1, 0, none⟩ v0).setCell ⟨w.heap.size + 1, 1, none⟩ v1)) := by
  have g0 := (h0.call hb h0.lt).store u0 u1
  have g1 := ((h1.call hb h1.lt).setCell (p := ⟨w.heap.size, 0, none⟩) (by simp) u0).setCell (p := ⟨w.heap.size, 1, none⟩) (by simp) u1
  have g2 := ((h2.below hb h2.lt).setCell (p := ⟨w.heap.size, 0, none⟩) (by simp; omega) u0).setCell (p := ⟨w.heap.size, 1, none⟩) (by simp; omega) u1
  exact ⟨(g0.setCell (p := ⟨w.heap.size + 1, 0, none⟩) (by simp) v0).setCell (p := ⟨w.heap.size + 1, 1, none⟩) (by simp) v1, g1.store v0 v1,
    (g2.setCell (p := ⟨w.heap.size + 1, 0, none⟩) (by simp) v0).setCell (p := ⟨w.heap.size + 1, 1, none⟩) (by simp) v1,
    set2_below (set2_below (bCall s0 hb) (Nat.le_refl _) u0 u1) (Nat.le_succ _) v0 v1⟩

/-- Two structs' cells, in every world that has w1's old memory. -/
theorem sOf4 {w1 W : World} {a b : Nat} {u0 u1 v0 v1 : Value} (k0 : w1.cell? ⟨a, 0, none⟩ = some u0) (k1 : w1.cell? ⟨a, 1, none⟩ = some u1) (k2 : w1.cell? ⟨b, 0, none⟩ = some v0) (k3 : w1.cell? ⟨b, 1, none⟩ = some v1) (ha : a < w1.heap.size) (hb : b < w1.heap.size) (h : Below w1.heap.size w1 W) :
    W.cell? ⟨a, 0, none⟩ = some u0 ∧ W.cell? ⟨a, 1, none⟩ = some u1 ∧ W.cell? ⟨b, 0, none⟩ = some v0 ∧ W.cell? ⟨b, 1, none⟩ = some v1 ∧ Below w1.heap.size w1 W :=
  ⟨(h.cell (p := ⟨a, 0, none⟩) ha).trans k0, (h.cell (p := ⟨a, 1, none⟩) ha).trans k1, (h.cell (p := ⟨b, 0, none⟩) hb).trans k2, (h.cell (p := ⟨b, 1, none⟩) hb).trans k3, h⟩

/-- Take has answered, in whatever case: a queue in new memory, octets, an error. -/
def GotTk (w : World) (room : Int) (R Out : List UInt8) (G : Int) (e : Ending) (w' : World) : Prop :=
  ∃ g Ao oc, e = .returned (.tuple #[qv room g R, .slice Ao Out.length oc, .int .i64 G]) ∧ Bk w' g R ∧ Rd w' w'.heap.size Ao Out oc ∧ Below w.heap.size w w'

set_option maxRecDepth 100000 in
set_option maxHeartbeats 4000000 in
theorem tells_any (cap cap2 N : Int) (A A2 A3 : Option Addr) (l l2 l3 : List UInt8) (n n2 n3' c c2 c3 : Nat) (w : World) (hn : n = l.length) (hn2 : n2 = l2.length) (hn3 : n3' = l3.length)
    (hr : Rd w w.heap.size A l c) (hr2 : Rd w w.heap.size A2 l2 c2) (hr3 : Rd w w.heap.size A3 l3 c3) :
    Calls Try.prog 3 #[.agg #[.int .i64 cap, .slice A n c], .agg #[.int .i64 cap2, .slice A2 n2 c2], .agg #[.slice A3 n3' c3, .int .i64 N]] w fun e w' => e = .returned (.bool true) ∧ Below w.heap.size w w' := by
  have HR := keepd (hr.take 200)
  have HR2 := keepd (hr2.take 200)
  have HR3 := keepd (hr3.take 200)
  have b1 : n ≤ c := by have := hr.1; omega
  have b2 : c ≤ maxLen := hr.2.1
  have b3 : n2 ≤ c2 := by have := hr2.1; omega
  have b4 : c2 ≤ maxLen := hr2.2.1
  have b5 : n3' ≤ c3 := by have := hr3.1; omega
  have b6 : c3 ≤ maxLen := hr3.2.1
  have HN : Hid (min n 200 = (l.take 200).length) := by show _ = _; rw [List.length_take]; omega
  have HN2 : Hid (min n2 200 = (l2.take 200).length) := by show _ = _; rw [List.length_take]; omega
  have HN3 : Hid (min n3' 200 = (l3.take 200).length) := by show _ = _; rw [List.length_take]; omega
  clear hr hr2 hr3 hn hn2 hn3
  go_enter Try.func3, Try.ntmps3
  go_wp2_with fail
  have HX0 := keepd (((QR.new w (.int .i64 cap) (.slice A n c)).alloc (.cells #[.int .i64 cap2, .slice A2 n2 c2] 24)).alloc (.cells #[.slice A3 n3' c3, .int .i64 N] 26))
  have HX1 : Hid (QR (((w.alloc (.cells #[.int .i64 cap, .slice A n c] 24)).alloc (.cells #[.int .i64 cap2, .slice A2 n2 c2] 24)).alloc (.cells #[.slice A3 n3' c3, .int .i64 N] 26)) (w.heap.size + 1) (.int .i64 cap2) (.slice A2 n2 c2)) := row_alloc (n3 w _ _)
  have HX2 : Hid (AR (((w.alloc (.cells #[.int .i64 cap, .slice A n c] 24)).alloc (.cells #[.int .i64 cap2, .slice A2 n2 c2] 24)).alloc (.cells #[.slice A3 n3' c3, .int .i64 N] 26)) (w.heap.size + 1 + 1) (.slice A3 n3' c3) (.int .i64 N)) := n4 w _ _ _
  have s0 := bAlloc (bAlloc (bAlloc (Below.refl w.heap.size w) (.cells #[.int .i64 cap, .slice A n c] 24)) (.cells #[.int .i64 cap2, .slice A2 n2 c2] 24)) (.cells #[.slice A3 n3' c3, .int .i64 N] 26)
  generalize ((w.alloc (.cells #[.int .i64 cap, .slice A n c] 24)).alloc (.cells #[.int .i64 cap2, .slice A2 n2 c2] 24)).alloc (.cells #[.slice A3 n3' c3, .int .i64 N] 26) = V at *
  have x0 := HX0.out.lt
  have x1 := HX1.out.lt
  have x2 := HX2.out.lt
  have f0 := HX0.out.facts
  have f1 := HX1.out.facts
  go_cut [] (fun wx => Hid (QR wx w.heap.size (.int .i64 cap) (.slice A (min n 200) c)) ∧ Hid (QR wx (w.heap.size + 1) (.int .i64 cap2) (.slice A2 (min n2 200) c2)) ∧ Hid (AR wx (w.heap.size + 1 + 1) (.slice A3 n3' c3) (.int .i64 N)) ∧ Hid (Below w.heap.size w wx))
  case first =>
    go_region_with (first | (go_at_call_of 9 (Value.agg #[Value.int .i64 cap, Value.slice A n c]); (with_reducible refine (one_any cap A n c _ b1 b2).mono ?_); rintro e wA ⟨rfl, hbA⟩; have hA := noDrew hbA; obtain ⟨hcA, hfA⟩ := old hA; have lA := hA.size) | (go_at_call_of 9 (Value.agg #[Value.int .i64 cap2, Value.slice A2 n2 c2]); (with_reducible refine (one_any cap2 A2 n2 c2 _ b3 b4).mono ?_); rintro e wB ⟨rfl, hbB⟩; obtain ⟨hcB, hfB⟩ := old hbB; have yB := Nat.lt_of_lt_of_le x0 lA; have zB := Nat.lt_of_lt_of_le x1 lA))
    all_goals go_wp2_with fail
    all_goals go_meet
    all_goals exact two_st HX0.out HX1.out HX2.out s0 (bCall hA hbB) _ _ _ _
  case rest =>
    obtain ⟨H0, H1, H2, H3⟩ := hcut
    obtain ⟨V1, hV1⟩ : ∃ V1, V1 = wc := ⟨_, rfl⟩
    subst hV1
    clear HX0 HX1 HX2 s0 x0 x1 x2 f0 f1
    have k1 := H2.out.facts.1
    have k2 := H2.out.facts.2
    have z0 := H0.out.lt
    have z1 := H1.out.lt
    go_wp2_with fail
    go_cut [7, 8] (fun s7 s8 wx => s7 = .slice A3 (min n3' 200) c3 ∧ s8 = .int .i64 N ∧ Hid (Below V1.heap.size V1 wx))
    case first =>
      go_quiet ((go_at_call 10; exact Calls.quiet_of_same (few_q A3 n3' c3 _ b5 b6)))
      all_goals go_wp2_with fail
      all_goals go_meet
      all_goals exact ⟨rfl, rfl, bDrewN (Below.refl _ _) _⟩
    case rest =>
      obtain ⟨rfl, rfl, HB1⟩ := hcut
      obtain ⟨V2, hV2⟩ : ∃ V2, V2 = wc := ⟨_, rfl⟩
      subst hV2
      have s2 := bCall H3.out HB1.out
      have H02 := keepd (H0.out.call HB1.out z0)
      have H12 := keepd (H1.out.call HB1.out z1)
      have HRq := keepd (HR.out.at_ s2)
      have HRo := keepd (HR2.out.at_ s2)
      have HRb := keepd (HR3.out.at_ s2)
      have a1b : min n 200 ≤ 200 := by omega
      have a2b : min n2 200 ≤ 200 := by omega
      have a3b : min n3' 200 ≤ 200 := by omega
      clear H0 H1 H2 H3 HB1 k1 k2 z0 z1 HR HR2 HR3
      generalize l.take 200 = L at *
      generalize l2.take 200 = M at *
      generalize l3.take 200 = X at *
      generalize min n 200 = a at *
      generalize min n2 200 = b at *
      generalize min n3' 200 = x at *
      -- New
      obtain ⟨r2, E2, M2, HNew⟩ : ∃ (r2 E2 : Int) (M2 : Bool), Hid ((May N 0 ∧ r2 = N ∧ E2 = 0 ∧ M2 = true) ∨ (¬ May N 0 ∧ r2 = 0 ∧ E2 = 1 ∧ M2 = false)) := by
        by_cases h : May N 0
        · exact ⟨_, _, _, .inl ⟨h, rfl, rfl, rfl⟩⟩
        · exact ⟨_, _, _, .inr ⟨h, rfl, rfl, rfl⟩⟩
      have HNewC : Hid (∀ W : World, Calls Try.prog 11 #[.int .i64 N] W (GotNew W r2 E2)) := by
        intro W
        rcases HNew.out with ⟨h, rfl, rfl, rfl⟩ | ⟨h, rfl, rfl, rfl⟩
        · exact new_yes r2 W h.1 h.2.1
        · exact new_no N W (by unfold May at h; omega)
      go_wp2_with fail
      with_reducible refine (HNewC.out _).mono ?_
      rintro e w3 ⟨rfl, hb3⟩
      go_wp2_with fail
      have s4 := bAlloc (bCall s2 hb3) (.cells #[.int .i64 r2, .slice none 0 0] 24)
      have hb4 := bAlloc hb3 (.cells #[.int .i64 r2, .slice none 0 0] 24)
      have H04 := keepd (H02.out.call hb4 H02.out.lt)
      have H14 := keepd (H12.out.call hb4 H12.out.lt)
      have HRq4 := keepd (HRq.out.at_ hb4)
      have HRo4 := keepd (HRo.out.at_ hb4)
      have HRb4 := keepd (HRb.out.at_ hb4)
      have H94 := keepd (QR.new w3 (.int .i64 r2) (.slice none 0 0))
      generalize w3.alloc (.cells #[.int .i64 r2, .slice none 0 0] 24) = W4 at *
      have x0 := H04.out.lt
      have x1 := H14.out.lt
      have K0 := keepd H04.out.facts.1
      have K1 := keepd H04.out.facts.2.1
      have K2 := keepd H14.out.facts.1
      have K3 := keepd H14.out.facts.2.1
      clear hb3 hb4 H02 H12 HRq HRo HRb s2 HNewC
      obtain ⟨E1, M1, HC1⟩ : ∃ (E1 : Int) (M1 : Bool), Hid ((May cap a ∧ E1 = 0 ∧ M1 = true) ∨ (¬ May cap a ∧ E1 = 1 ∧ M1 = false)) := by
        by_cases h : May cap a
        · exact ⟨_, _, .inl ⟨h, rfl, rfl⟩⟩
        · exact ⟨_, _, .inr ⟨h, rfl, rfl⟩⟩
      have HChk : Hid (∀ W : World, Calls Try.prog 12 #[.agg #[.int .i64 cap, .slice A a c]] W fun e w' => e = .returned (.int .i64 E1) ∧ Below W.heap.size W w') := by
        intro W
        rcases HC1.out with ⟨h, rfl, rfl⟩ | ⟨h, rfl, rfl⟩
        · exact check_yes cap A a c W h
        · exact check_no cap A a c W h
      have HMy : Hid (∀ W : World, Calls Try.prog 13 #[.agg #[.int .i64 cap, .slice A a c]] W fun e w' => e = .returned (.bool M1) ∧ Below W.heap.size W w') := by
        intro W
        rcases HC1.out with ⟨h, rfl, rfl⟩ | ⟨h, rfl, rfl⟩
        · exact may_yes cap A a c W h
        · exact may_no cap A a c W h
      have HMy2 : Hid (∀ W : World, Calls Try.prog 13 #[.agg #[.int .i64 N, .slice none 0 0]] W fun e w' => e = .returned (.bool M2) ∧ Below W.heap.size W w') := by
        intro W
        rcases HNew.out with ⟨h, _, _, rfl⟩ | ⟨h, _, _, rfl⟩
        · exact may_yes N none 0 0 W h
        · exact may_no N none 0 0 W h
      obtain ⟨SS, HS⟩ : ∃ SS : Bool, Hid (SS = ((cap == cap2) && (L == M))) := ⟨_, rfl⟩
      have HS14 : Hid (∀ W : World, Rd W W.heap.size A L c → Rd W W.heap.size A2 M c2 → Calls Try.prog 14 #[.agg #[.int .i64 cap, .slice A a c], .agg #[.int .i64 cap2, .slice A2 b c2]] W fun e w' => e = .returned (.bool SS) ∧ Below W.heap.size W w') := by
        intro W h1 h2
        by_cases h : cap = cap2
        · subst h
          have e : SS = (L == M) := by rw [HS.out]; simp
          rw [e]
          exact same14 cap A A2 L M a b c c2 W HN.out HN2.out h1 h2
        · have e : SS = false := by rw [HS.out]; simp [h]
          rw [e]
          exact other14 cap cap2 _ _ W (by simpa using h)
      have HS15 : Hid (∀ W : World, Rd W W.heap.size A L c → Rd W W.heap.size A2 M c2 → Calls Try.prog 15 #[.agg #[.int .i64 cap, .slice A a c], .agg #[.int .i64 cap2, .slice A2 b c2]] W fun e w' => e = .returned (.bool SS) ∧ Below W.heap.size W w') := by
        intro W h1 h2
        by_cases h : cap = cap2
        · subst h
          have e : SS = (L == M) := by rw [HS.out]; simp
          rw [e]
          exact same15 cap A A2 L M a b c c2 W HN.out HN2.out h1 h2
        · have e : SS = false := by rw [HS.out]; simp [h]
          rw [e]
          exact other15 cap cap2 _ _ W (by simpa using h)
      have t1 : ((E1 == 0) == M1) = true := by rcases HC1.out with ⟨_, rfl, rfl⟩ | ⟨_, rfl, rfl⟩ <;> rfl
      have t2 : (SS == SS) = true := by cases SS <;> rfl
      have t3 : ((E2 == 0) == M2) = true := by rcases HNew.out with ⟨_, _, rfl, rfl⟩ | ⟨_, _, rfl, rfl⟩ <;> rfl
      go_cut [57] (fun s57 wx => s57 = .bool false ∧ Hid (Below W4.heap.size W4 wx))
      case first =>
        go_region_held3 (fun W => W.cell? ⟨w.heap.size, 0, none⟩ = some (.int .i64 cap) ∧ W.cell? ⟨w.heap.size, 1, none⟩ = some (.slice A a c) ∧ W.cell? ⟨w.heap.size + 1, 0, none⟩ = some (.int .i64 cap2) ∧ W.cell? ⟨w.heap.size + 1, 1, none⟩ = some (.slice A2 b c2) ∧ Below W4.heap.size W4 W)
          ((refine sOf4 K0.out K1.out K2.out K3.out x0 x1 ?_; repeat (first | assumption | exact Below.refl _ _ | with_reducible refine bAlloc ?_ _ | with_reducible refine Below.drew ?_ | omega)))
          (first | (go_at_call 12; (with_reducible refine (HChk.out _).mono ?_); rintro e wa ⟨rfl, hba⟩; have hka : Below W4.heap.size W4 wa := (by refine bCall ?_ hba; repeat (first | assumption | exact Below.refl _ _ | with_reducible refine bAlloc ?_ _ | with_reducible refine Below.drew ?_ | omega))) | (go_at_call_of 13 (Value.slice A a c); (with_reducible refine (HMy.out _).mono ?_); rintro e wb ⟨rfl, hbb⟩; have hkb : Below W4.heap.size W4 wb := (by refine bCall ?_ hbb; repeat (first | assumption | exact Below.refl _ _ | with_reducible refine bAlloc ?_ _ | with_reducible refine Below.drew ?_ | omega))) | (go_at_call 14; (with_reducible refine (HS14.out _ ?_ ?_).mono ?_); (focus (refine HRq4.out.at_ ?_; repeat (first | assumption | exact Below.refl _ _ | with_reducible refine bAlloc ?_ _ | with_reducible refine Below.drew ?_ | omega))); (focus (refine HRo4.out.at_ ?_; repeat (first | assumption | exact Below.refl _ _ | with_reducible refine bAlloc ?_ _ | with_reducible refine Below.drew ?_ | omega))); rintro e wd ⟨rfl, hbd⟩; have hkd : Below W4.heap.size W4 wd := (by refine bCall ?_ hbd; repeat (first | assumption | exact Below.refl _ _ | with_reducible refine bAlloc ?_ _ | with_reducible refine Below.drew ?_ | omega))) | (go_at_call 15; (with_reducible refine (HS15.out _ ?_ ?_).mono ?_); (focus (refine HRq4.out.at_ ?_; repeat (first | assumption | exact Below.refl _ _ | with_reducible refine bAlloc ?_ _ | with_reducible refine Below.drew ?_ | omega))); (focus (refine HRo4.out.at_ ?_; repeat (first | assumption | exact Below.refl _ _ | with_reducible refine bAlloc ?_ _ | with_reducible refine Below.drew ?_ | omega))); rintro e we ⟨rfl, hbe⟩; have hke : Below W4.heap.size W4 we := (by refine bCall ?_ hbe; repeat (first | assumption | exact Below.refl _ _ | with_reducible refine bAlloc ?_ _ | with_reducible refine Below.drew ?_ | omega))) | (go_at_call_of 13 (Value.int .i64 N); (with_reducible refine (HMy2.out _).mono ?_); rintro e wg ⟨rfl, hbg⟩; have hkg : Below W4.heap.size W4 wg := (by refine bCall ?_ hbg; repeat (first | assumption | exact Below.refl _ _ | with_reducible refine bAlloc ?_ _ | with_reducible refine Below.drew ?_ | omega))))
        all_goals go_wp2_with fail
        all_goals go_meet
        all_goals exact ⟨rfl, hkg⟩
      case rest =>
        obtain ⟨rfl, HB5⟩ := hcut
        obtain ⟨V5, hV5⟩ : ∃ V5, V5 = wc := ⟨_, rfl⟩
        subst hV5
        have s5 := bCall s4 HB5.out
        have H05 := keepd (H04.out.call HB5.out x0)
        have H95 := keepd (H94.out.call HB5.out H94.out.lt)
        have HRq5 := keepd (HRq4.out.at_ HB5.out)
        have HRb5 := keepd (HRb4.out.at_ HB5.out)
        have f9 := H95.out.facts
        clear HRq4 HRo4 HRb4 K0 K1 K2 K3 H04 H14 H94 HB5 HChk HS14 HS15 HS HMy2 t1 t2 t3 x0 x1 s4
        go_upto_region 6 with fail
        go_cut [80] (fun s80 wx => s80 = .bool false ∧ Hid (Below V5.heap.size V5 wx))
        case first =>
          rcases HNew.out with ⟨_, rfl, rfl, rfl⟩ | ⟨_, rfl, rfl, rfl⟩
          · go_wp2_with fail
            with_reducible refine (same15 r2 none none [] [] 0 0 0 0 _ rfl rfl (Rd.nil _ _) (Rd.nil _ _)).mono ?_
            rintro e w6 ⟨rfl, hb6⟩
            go_wp2_with fail
            go_meet
            exact ⟨rfl, hb6⟩
          · go_wp2_with fail
            with_reducible refine (same15 0 none none [] [] 0 0 0 0 _ rfl rfl (Rd.nil _ _) (Rd.nil _ _)).mono ?_
            rintro e w6 ⟨rfl, hb6⟩
            go_wp2_with fail
            go_meet
            exact ⟨rfl, hb6⟩
        case rest =>
          obtain ⟨rfl, HB6⟩ := hcut
          obtain ⟨V6, hV6⟩ : ∃ V6, V6 = wc := ⟨_, rfl⟩
          subst hV6
          have s6 := bCall s5 HB6.out
          have H06 := keepd (H05.out.call HB6.out H05.out.lt)
          have HRq6 := keepd (HRq5.out.at_ HB6.out)
          have HRb6 := keepd (HRb5.out.at_ HB6.out)
          have f6 := H06.out.facts
          have x6 := H06.out.lt
          clear H05 H95 HRq5 HRb5 f9 HB6 s5 HNew
          obtain ⟨kk, hkk⟩ : ∃ kk : Nat, (kk : Int) = max 0 (min N (L.length : Int)) := ⟨(max 0 (min N (L.length : Int))).toNat, by omega⟩
          obtain ⟨O, K, F, R, Out, G, HC⟩ : ∃ (O : List UInt8) (K F : Int) (R Out : List UInt8) (G : Int), Hid ((May cap L.length ∧ M1 = true ∧ O = L ++ X.take (min X.length (cap.toNat - L.length)) ∧ K = ((min X.length (cap.toNat - L.length) : Nat) : Int) ∧ F = 0 ∧ R = L.drop kk ∧ Out = L.take kk ∧ G = 0) ∨ (¬ May cap L.length ∧ M1 = false ∧ O = L ∧ K = 0 ∧ F = 1 ∧ R = L ∧ Out = [] ∧ G = 1)) := by
            rcases HC1.out with ⟨h, _, e⟩ | ⟨h, _, e⟩
            · exact ⟨_, _, _, _, _, _, .inl ⟨by rw [← HN.out]; exact h, e, rfl, rfl, rfl, rfl, rfl, rfl⟩⟩
            · exact ⟨_, _, _, _, _, _, .inr ⟨by rw [← HN.out]; exact h, e, rfl, rfl, rfl, rfl, rfl, rfl⟩⟩
          have HPut : Hid (∀ W : World, Rd W W.heap.size A L c → Rd W W.heap.size A3 X c3 → Calls Try.prog 16 #[.agg #[.int .i64 cap, .slice A a c], .slice A3 x c3] W (GotPut W cap O K F)) := by
            intro W h1 h2
            rcases HC.out with ⟨h, _, rfl, rfl, rfl, _⟩ | ⟨h, _, rfl, rfl, rfl, _⟩
            · exact put_at cap A A3 L X _ a x c c3 _ W HN.out HN3.out rfl rfl h h1 h2 (by rw [← HN3.out]; omega)
            · exact put_err cap A A3 O a x c c3 W HN.out h h1 (by rw [← HN.out]; omega)
          have HTk : Hid (∀ W : World, Rd W W.heap.size A L c → Calls Try.prog 17 #[.agg #[.int .i64 cap, .slice A a c], .int .i64 N] W (GotTk W cap R Out G)) := by
            intro W h1
            rcases HC.out with ⟨h, _, _, _, _, rfl, rfl, rfl⟩ | ⟨h, _, _, _, _, rfl, rfl, rfl⟩
            · refine (take_at cap N A L _ _ a c kk W HN.out hkk rfl rfl h h1).mono ?_
              rintro e w' ⟨g, g', rfl, _, _, _, h4, h5, h6⟩
              exact ⟨g, some ⟨g', 0, none⟩, _, rfl, h4, h5.rdS (by rw [List.length_take, ← HN.out]; omega), h6⟩
            · have := take_no cap N A R c W h h1 (by rw [← HN.out]; omega)
              rw [← HN.out] at this
              refine this.mono ?_
              rintro e w' ⟨g, rfl, _, h4, h6⟩
              exact ⟨g, none, 0, rfl, h4, Rd.nil _ _, h6⟩
          go_wp2_with fail
          with_reducible refine (HPut.out _ HRq6.out HRb6.out).mono ?_
          rintro e w7 ⟨g7, rfl, hg7, hbk7, hb7⟩
          unfold qv
          have s7 := bCall s6 hb7
          have hb8 : Below V6.heap.size V6 (w7.alloc (.cells #[.int .i64 cap, .slice (some ⟨g7, 0, none⟩) O.length O.length] 24)) := bAlloc hb7 _
          have HP8 := keepd (QR.new w7 (.int .i64 cap) (.slice (some ⟨g7, 0, none⟩) O.length O.length))
          have HK8 := keepd (hbk7.alloc (.cells #[.int .i64 cap, .slice (some ⟨g7, 0, none⟩) O.length O.length] 24))
          have s8 := bCall s6 hb8
          have H08 := keepd (H06.out.call hb8 x6)
          have HRq8 := keepd (HRq6.out.at_ hb8)
          have HRb8 := keepd (HRb6.out.at_ hb8)
          go_upto_region 9 with fail
          generalize w7.alloc (.cells #[.int .i64 cap, .slice (some ⟨g7, 0, none⟩) O.length O.length] 24) = V8 at *
          have f8 := H08.out.facts
          have x8 := H08.out.lt
          clear hb7 hb8 hbk7 H06 HRq6 HRb6 f6 x6 s7 HPut
          go_wp2_with fail
          with_reducible refine (HTk.out _ HRq8.out).mono ?_
          rintro e w9 ⟨g9, oA, oc, rfl, hbk9, hro9, hb9⟩
          unfold qv
          have hb10 : Below V8.heap.size V8 (w9.alloc (.cells #[.int .i64 cap, .slice (some ⟨g9, 0, none⟩) R.length R.length] 24)) := bAlloc hb9 _
          have HT10 := keepd (QR.new w9 (.int .i64 cap) (.slice (some ⟨g9, 0, none⟩) R.length R.length))
          have HG10 := keepd (hbk9.alloc (.cells #[.int .i64 cap, .slice (some ⟨g9, 0, none⟩) R.length R.length] 24))
          have HO10 := keepd (hro9.at_ (bAlloc (Below.refl _ _) (.cells #[.int .i64 cap, .slice (some ⟨g9, 0, none⟩) R.length R.length] 24)))
          have s10 := bCall s8 hb10
          have H010 := keepd (H08.out.call hb10 x8)
          have HP10 := keepd (HP8.out.call hb10 HP8.out.lt)
          have HK10 := keepd (HK8.out.below hb10 HK8.out.lt)
          have HRq10 := keepd (HRq8.out.at_ hb10)
          have HRb10 := keepd (HRb8.out.at_ hb10)
          go_upto_region 10 with fail
          generalize w9.alloc (.cells #[.int .i64 cap, .slice (some ⟨g9, 0, none⟩) R.length R.length] 24) = V10 at *
          have f10 := H010.out.facts
          have x10 := H010.out.lt
          clear hb9 hb10 hbk9 hro9 H08 HP8 HK8 HRq8 HRb8 f8 x8 s8 HTk
          go_wp2_with fail
          with_reducible refine (HMy.out _).mono ?_
          rintro e w11 ⟨rfl, hb11⟩
          have s11 := bCall s10 hb11
          have f11 := (H010.out.call hb11 x10).facts
          have x11 := (H010.out.call hb11 x10).lt
          have p11 := (HP10.out.call hb11 HP10.out.lt).facts
          have t11 := (HT10.out.call hb11 HT10.out.lt).facts
          have H011 := keepd (H010.out.call hb11 x10)
          have HP11 := keepd (HP10.out.call hb11 HP10.out.lt)
          have HT11 := keepd (HT10.out.call hb11 HT10.out.lt)
          have HK11 := keepd (HK10.out.below hb11 HK10.out.lt)
          have HG11 := keepd (HG10.out.below hb11 HG10.out.lt)
          have HO11 := keepd (HO10.out.at_ hb11)
          have HRq11 := keepd (HRq10.out.at_ hb11)
          have HRb11 := keepd (HRb10.out.at_ hb11)
          clear f10 hb11 H010 HP10 HT10 HK10 HG10 HO10 HRq10 HRb10 HC1 HMy
          rcases HC.out with ⟨hm, rfl, eO, eK, rfl, eR, eOut, rfl⟩ | ⟨hm, rfl, rfl, rfl, rfl, rfl, rfl, rfl⟩
          · have HM := keepd hm
            have HRefP : Hid (∀ W : World, Rd W W.heap.size A L c → Rd W W.heap.size A3 X c3 → Calls Try.prog 19 #[.agg #[.int .i64 cap, .slice A a c], .slice A3 x c3] W (GotRef W cap O K)) := by
              intro W h1 h2
              rw [eO, eK]
              exact refPut cap A A3 L X a x c c3 W HN.out HN3.out HM.out h1 h2 (by omega) (by omega)
            have HRefT : Hid (∀ W : World, Rd W W.heap.size A L c → Calls Try.prog 20 #[.agg #[.int .i64 cap, .slice A a c], .int .i64 N] W (GotRefT W cap R Out)) := by
              intro W h1
              rw [eR, eOut]
              exact refTake cap N A L a c kk W HN.out hkk h1 (by omega)
            have oB : O.length ≤ 1000 := by rw [eO, List.length_append, List.length_take, ← HN.out, ← HN3.out]; omega
            have rB : R.length ≤ 1000 := by rw [eR, List.length_drop, ← HN.out]; omega
            have HOO : Hid ((O == O) = true) := by show _ = _; simp
            have HRR : Hid ((R == R) = true) := by show _ = _; simp
            have HUU : Hid ((Out == Out) = true) := by show _ = _; simp
            have HKK : Hid ((K == K) = true) := by show _ = _; simp
            clear hm HC eO eK eR eOut hkk
            go_wp2_with fail
            with_reducible refine (HRefP.out _ HRq11.out HRb11.out).mono ?_
            rintro e w13 ⟨xA, xc, rfl, hrx, hb13⟩
            have hb14 : Below w11.heap.size w11 (w13.alloc (.cells #[.int .i64 cap, .slice xA O.length xc] 24)) := bAlloc hb13 _
            have HX14 := keepd (QR.new w13 (.int .i64 cap) (.slice xA O.length xc))
            have HXR14 := keepd (hrx.at_ (bAlloc (Below.refl _ _) (.cells #[.int .i64 cap, .slice xA O.length xc] 24)))
            have s14 := bCall s11 hb14
            have H014 := keepd (H011.out.call hb14 x11)
            have HP14 := keepd (HP11.out.call hb14 HP11.out.lt)
            have HT14 := keepd (HT11.out.call hb14 HT11.out.lt)
            have HK14 := keepd (HK11.out.below hb14 HK11.out.lt)
            have HG14 := keepd (HG11.out.below hb14 HG11.out.lt)
            have HO14 := keepd (HO11.out.at_ hb14)
            have HRq14 := keepd (HRq11.out.at_ hb14)
            go_upto_region 13 with fail
            generalize w13.alloc (.cells #[.int .i64 cap, .slice xA O.length xc] 24) = V14 at *
            have f14 := H014.out.facts
            have x14 := H014.out.lt
            clear hrx hb13 hb14 H011 HP11 HT11 HK11 HG11 HO11 HRq11 HRb11 f11 p11 t11 HRefP
            go_wp2_with fail
            with_reducible refine (HRefT.out _ HRq14.out).mono ?_
            rintro e w15 ⟨yA, yc, zA, zc, rfl, hry, hrz, hb15⟩
            have hb16 : Below V14.heap.size V14 (w15.alloc (.cells #[.int .i64 cap, .slice yA R.length yc] 24)) := bAlloc hb15 _
            have HY16 := keepd (QR.new w15 (.int .i64 cap) (.slice yA R.length yc))
            have HYR16 := keepd (hry.at_ (bAlloc (Below.refl _ _) (.cells #[.int .i64 cap, .slice yA R.length yc] 24)))
            have HZR16 := keepd (hrz.at_ (bAlloc (Below.refl _ _) (.cells #[.int .i64 cap, .slice yA R.length yc] 24)))
            have s16 := bCall s14 hb16
            have HP16 := keepd (HP14.out.call hb16 HP14.out.lt)
            have HT16 := keepd (HT14.out.call hb16 HT14.out.lt)
            have HX16 := keepd (HX14.out.call hb16 HX14.out.lt)
            have HXR16 := keepd (HXR14.out.at_ hb16)
            have HK16 := keepd (HK14.out.below hb16 HK14.out.lt)
            have HG16 := keepd (HG14.out.below hb16 HG14.out.lt)
            have HO16 := keepd (HO14.out.at_ hb16)
            go_upto_region 14 with fail
            generalize w15.alloc (.cells #[.int .i64 cap, .slice yA R.length yc] 24) = V16 at *
            have p16 := HP16.out.facts
            have q16 := HX16.out.facts
            clear hry hrz hb15 hb16 H014 HP14 HT14 HX14 HXR14 HK14 HG14 HO14 HRq14 f14 x14 HRefT
            go_wp2_with fail
            with_reducible refine (same15 cap (some ⟨g7, 0, none⟩) xA O O O.length O.length O.length xc _ rfl rfl (HK16.out.rdS (by omega)) HXR16.out).mono ?_
            rintro e w17 ⟨rfl, hb17⟩
            rw [HOO.out]
            have s17 := bCall s16 hb17
            have t17 := (HT16.out.call hb17 HT16.out.lt).facts
            have y17 := (HY16.out.call hb17 HY16.out.lt).facts
            have HG17 := keepd (HG16.out.below hb17 HG16.out.lt)
            have HYR17 := keepd (HYR16.out.at_ hb17)
            have HZR17 := keepd (HZR16.out.at_ hb17)
            have HO17 := keepd (HO16.out.at_ hb17)
            have hKK := HKK.out
            clear p16 q16 hb17 HP16 HT16 HX16 HXR16 HK16 HG16 HO16 HY16 HYR16 HZR16
            go_wp2_with fail
            with_reducible refine (same15 cap (some ⟨g9, 0, none⟩) yA R R R.length R.length R.length yc _ rfl rfl (HG17.out.rdS (by omega)) HYR17.out).mono ?_
            rintro e w18 ⟨rfl, hb18⟩
            rw [HRR.out]
            have s18 := bCall s17 hb18
            have HZR18 := keepd (HZR17.out.at_ hb18)
            have HO18 := keepd (HO17.out.at_ hb18)
            clear t17 y17 hb18 HG17 HYR17 HZR17 HO17
            go_wp2_with fail
            with_reducible refine (octets_at oA zA Out Out Out.length Out.length oc zc _ _ rfl rfl HO18.out HZR18.out).mono ?_
            rintro e w19 ⟨rfl, rfl⟩
            rw [HUU.out]
            go_wp2_with fail
            with_reducible refine (awake_any _).mono ?_
            rintro e w20 ⟨rfl, hb20⟩
            go_wp2
            go_ret
            exact ⟨rfl, bCall s18 hb20⟩
          · have rB : R.length ≤ 1000 := by rw [← HN.out]; omega
            have HRR : Hid ((R == R) = true) := by show _ = _; simp
            clear hm HC hkk
            go_wp2_with fail
            with_reducible refine (same15 cap (some ⟨g7, 0, none⟩) A R R R.length a R.length c _ rfl HN.out (HK11.out.rdS (by omega)) HRq11.out).mono ?_
            rintro e w12 ⟨rfl, hb12⟩
            rw [HRR.out]
            have s12 := bCall s11 hb12
            have f12 := (H011.out.call hb12 x11).facts
            have t12 := (HT11.out.call hb12 HT11.out.lt).facts
            have HG12 := keepd (HG11.out.below hb12 HG11.out.lt)
            have HRq12 := keepd (HRq11.out.at_ hb12)
            clear f11 p11 t11 hb12
            go_wp2_with fail
            with_reducible refine (same15 cap (some ⟨g9, 0, none⟩) A R R R.length a R.length c _ rfl HN.out (HG12.out.rdS (by omega)) HRq12.out).mono ?_
            rintro e w13 ⟨rfl, hb13⟩
            rw [HRR.out]
            have s13 := bCall s12 hb13
            clear f12 t12 hb13
            go_wp2_with fail
            with_reducible refine (awake_any _).mono ?_
            rintro e w14 ⟨rfl, hb14⟩
            go_wp2
            go_ret
            exact ⟨rfl, bCall s13 hb14⟩
end Go.Proofs.Ytifimgachkecpaa
