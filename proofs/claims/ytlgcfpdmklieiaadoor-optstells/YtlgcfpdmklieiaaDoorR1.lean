/-
  The document's own: codes, Place, May, said.
-/
import Derived.Test.YtlgcfpdmklieiaaDoorL3a
import Derived.Deep.WholeRow
namespace Go.Proofs.YtlgcfpdmklieiaaDoor
open Go.RowKit
set_option maxRecDepth 100000

attribute [local go_sem ↓] ex_ld25 ex_ld67 ex_ld73 ex_st25 ex_st67 ex_st73 ex_eq25 ex_ne25 ex_ix22
attribute [local go_sem] ptrB_at okPtr_at aggC_at agg16 agg11 agg12 isO_at toO_at idx0 idx1 idx2 idx3 okIdx_at isRow_new World.setRow_alloc_new

theorem rcodes_any (w : World) : Calls Tryd.prog 22 #[] w fun e w' => e = .returned (.agg #[.int .i64 0, .int .i64 1, .int .i64 3, .int .i64 34]) ∧ Below w.heap.size w w' := by
  have B0 : ∀ o, Below w.heap.size w (w.alloc o) := fun o => bAlloc (Below.refl _ _) o
  go_enter Tryd.func22, Tryd.ntmps22
  go_wp2
  go_returns
  exact ⟨rfl, B0 _⟩

/-- The place, or 4. -/
def plR (c : Int) : Int := if plK c then plI c else 4

set_option maxHeartbeats 2000000 in
theorem rplace_any (c : Int) (w : World) : Calls Tryd.prog 9 #[.int .i64 c] w fun e w' => e = .returned (.int .i64 (plR c)) ∧ Below w.heap.size w w' := by
  have C := keepd rcodes_any
  unfold plR
  rcases four_ways c with ⟨rfl, h1, h2⟩ | ⟨rfl, h1, h2⟩ | ⟨rfl, h1, h2⟩ | ⟨rfl, h1, h2⟩ | ⟨g0, g1, g2, g3, h1, h2⟩
  · rw [h1, h2]
    clear h1 h2
    go_enter Tryd.func9, Tryd.ntmps9
    go_wp2_with fail
    go_loopw [3] (fun vi wr => (vi = .int .i64 0) ∧ Hid (Below w.heap.size w wr)) (fun vi _ => 4 - (intOf vi).toNat)
    case atStart => exact ⟨rfl, Below.refl _ _⟩
    case round =>
      obtain ⟨h, HB⟩ := hrel
      rcases h with rfl
      · go_wp2_with fail
        with_reducible refine (C.out _).mono ?_
        rintro e w1 ⟨rfl, hb⟩
        have HB := keepd (bCall HB.out hb)
        clear hb
        go_wp2_with fail
        go_ret
        exact ⟨rfl, HB.out⟩
  · rw [h1, h2]
    clear h1 h2
    go_enter Tryd.func9, Tryd.ntmps9
    go_wp2_with fail
    go_loopw [3] (fun vi wr => (vi = .int .i64 0 ∨ vi = .int .i64 1) ∧ Hid (Below w.heap.size w wr)) (fun vi _ => 4 - (intOf vi).toNat)
    case atStart => exact ⟨.inl rfl, Below.refl _ _⟩
    case round =>
      obtain ⟨h, HB⟩ := hrel
      rcases h with rfl | rfl
      · go_wp2_with fail
        with_reducible refine (C.out _).mono ?_
        rintro e w1 ⟨rfl, hb⟩
        have HB := keepd (bCall HB.out hb)
        clear hb
        go_wp2_with fail
        go_roundw
        case rel => exact ⟨by simp, HB⟩
        case measure => simp [intOf]
      · go_wp2_with fail
        with_reducible refine (C.out _).mono ?_
        rintro e w1 ⟨rfl, hb⟩
        have HB := keepd (bCall HB.out hb)
        clear hb
        go_wp2_with fail
        go_ret
        exact ⟨rfl, HB.out⟩
  · rw [h1, h2]
    clear h1 h2
    go_enter Tryd.func9, Tryd.ntmps9
    go_wp2_with fail
    go_loopw [3] (fun vi wr => (vi = .int .i64 0 ∨ vi = .int .i64 1 ∨ vi = .int .i64 2) ∧ Hid (Below w.heap.size w wr)) (fun vi _ => 4 - (intOf vi).toNat)
    case atStart => exact ⟨.inl rfl, Below.refl _ _⟩
    case round =>
      obtain ⟨h, HB⟩ := hrel
      rcases h with rfl | rfl | rfl
      · go_wp2_with fail
        with_reducible refine (C.out _).mono ?_
        rintro e w1 ⟨rfl, hb⟩
        have HB := keepd (bCall HB.out hb)
        clear hb
        go_wp2_with fail
        go_roundw
        case rel => exact ⟨by simp, HB⟩
        case measure => simp [intOf]
      · go_wp2_with fail
        with_reducible refine (C.out _).mono ?_
        rintro e w1 ⟨rfl, hb⟩
        have HB := keepd (bCall HB.out hb)
        clear hb
        go_wp2_with fail
        go_roundw
        case rel => exact ⟨by simp, HB⟩
        case measure => simp [intOf]
      · go_wp2_with fail
        with_reducible refine (C.out _).mono ?_
        rintro e w1 ⟨rfl, hb⟩
        have HB := keepd (bCall HB.out hb)
        clear hb
        go_wp2_with fail
        go_ret
        exact ⟨rfl, HB.out⟩
  · rw [h1, h2]
    clear h1 h2
    go_enter Tryd.func9, Tryd.ntmps9
    go_wp2_with fail
    go_loopw [3] (fun vi wr => (vi = .int .i64 0 ∨ vi = .int .i64 1 ∨ vi = .int .i64 2 ∨ vi = .int .i64 3) ∧ Hid (Below w.heap.size w wr)) (fun vi _ => 4 - (intOf vi).toNat)
    case atStart => exact ⟨.inl rfl, Below.refl _ _⟩
    case round =>
      obtain ⟨h, HB⟩ := hrel
      rcases h with rfl | rfl | rfl | rfl
      · go_wp2_with fail
        with_reducible refine (C.out _).mono ?_
        rintro e w1 ⟨rfl, hb⟩
        have HB := keepd (bCall HB.out hb)
        clear hb
        go_wp2_with fail
        go_roundw
        case rel => exact ⟨by simp, HB⟩
        case measure => simp [intOf]
      · go_wp2_with fail
        with_reducible refine (C.out _).mono ?_
        rintro e w1 ⟨rfl, hb⟩
        have HB := keepd (bCall HB.out hb)
        clear hb
        go_wp2_with fail
        go_roundw
        case rel => exact ⟨by simp, HB⟩
        case measure => simp [intOf]
      · go_wp2_with fail
        with_reducible refine (C.out _).mono ?_
        rintro e w1 ⟨rfl, hb⟩
        have HB := keepd (bCall HB.out hb)
        clear hb
        go_wp2_with fail
        go_roundw
        case rel => exact ⟨by simp, HB⟩
        case measure => simp [intOf]
      · go_wp2_with fail
        with_reducible refine (C.out _).mono ?_
        rintro e w1 ⟨rfl, hb⟩
        have HB := keepd (bCall HB.out hb)
        clear hb
        go_wp2_with fail
        go_ret
        exact ⟨rfl, HB.out⟩
  · rw [h1, h2]
    clear h1 h2
    go_enter Tryd.func9, Tryd.ntmps9
    go_wp2_with fail
    go_loopw [3] (fun vi wr => (vi = .int .i64 0 ∨ vi = .int .i64 1 ∨ vi = .int .i64 2 ∨ vi = .int .i64 3 ∨ vi = .int .i64 4) ∧ Hid (Below w.heap.size w wr)) (fun vi _ => 4 - (intOf vi).toNat)
    case atStart => exact ⟨.inl rfl, Below.refl _ _⟩
    case round =>
      obtain ⟨h, HB⟩ := hrel
      rcases h with rfl | rfl | rfl | rfl | rfl
      · go_wp2_with fail
        with_reducible refine (C.out _).mono ?_
        rintro e w1 ⟨rfl, hb⟩
        have HB := keepd (bCall HB.out hb)
        clear hb
        go_wp2_with fail
        go_roundw
        case rel => exact ⟨by simp, HB⟩
        case measure => simp [intOf]
      · go_wp2_with fail
        with_reducible refine (C.out _).mono ?_
        rintro e w1 ⟨rfl, hb⟩
        have HB := keepd (bCall HB.out hb)
        clear hb
        go_wp2_with fail
        go_roundw
        case rel => exact ⟨by simp, HB⟩
        case measure => simp [intOf]
      · go_wp2_with fail
        with_reducible refine (C.out _).mono ?_
        rintro e w1 ⟨rfl, hb⟩
        have HB := keepd (bCall HB.out hb)
        clear hb
        go_wp2_with fail
        go_roundw
        case rel => exact ⟨by simp, HB⟩
        case measure => simp [intOf]
      · go_wp2_with fail
        with_reducible refine (C.out _).mono ?_
        rintro e w1 ⟨rfl, hb⟩
        have HB := keepd (bCall HB.out hb)
        clear hb
        go_wp2_with fail
        go_roundw
        case rel => exact ⟨by simp, HB⟩
        case measure => simp [intOf]
      · clear C
        go_wp2_with fail
        go_ret
        exact ⟨rfl, HB.out⟩

/-- What the document says of options. -/
theorem rMay_any (q : Int) (w : World) : Calls Tryd.prog 26 #[.int .i64 q] w fun e w' => e = .returned (.bool (decide (0 ≤ q ∧ q ≤ 5))) ∧ w' = w := by
  by_cases h : 0 ≤ q ∧ q ≤ 5
  · rw [decide_eq_true h]
    exact may_in q w h.1 h.2
  · rw [decide_eq_false h]
    exact may_out q w (by omega)

/-- The ways of a place of both sides. -/
theorem ways2 (q : Int) (m : Bool) : (decide (0 ≤ q ∧ q ≤ 5) = false ∧ ok1 q m = false) ∨ (decide (0 ≤ q ∧ q ≤ 5) = true ∧ m = true ∧ ok1 q m = true) ∨ (decide (0 ≤ q ∧ q ≤ 5) = true ∧ m = false ∧ (q != 0) = false ∧ ok1 q m = true) ∨ (decide (0 ≤ q ∧ q ≤ 5) = true ∧ m = false ∧ (q != 0) = true ∧ ok1 q m = false) := by
  unfold ok1
  cases h : decide (0 ≤ q ∧ q ≤ 5)
  · exact .inl ⟨rfl, by simp⟩
  · cases m
    · by_cases h0 : q = 0
      · subst h0
        exact .inr (.inr (.inl ⟨rfl, rfl, rfl, rfl⟩))
      · exact .inr (.inr (.inr ⟨rfl, rfl, by simp [h0], by simp [h0]⟩))
    · exact .inr (.inl ⟨rfl, rfl, by simp⟩)

/-- Places up to k. -/
def okK (X : O) (k : Nat) : Bool := (List.range k).all fun j => ok1 (X.us.at j) (X.mu.at j) && ok1 (X.him.at j) (X.mh.at j)
theorem okK_succ (X : O) (k : Nat) : okK X (k + 1) = (okK X k && (ok1 (X.us.at k) (X.mu.at k) && ok1 (X.him.at k) (X.mh.at k))) := by
  unfold okK
  rw [List.range_succ, List.all_append]
  simp
theorem okK_four (X : O) : okK X 4 = okO X := by
  have e : ∀ a b c d e f g h : Bool, ((((a && e) && (b && f)) && (c && g)) && (d && h)) = ((a && (b && (c && d))) && (e && (f && (g && h)))) := by decide
  rw [okK_succ, okK_succ, okK_succ, okK_succ]
  show ((((true && _) && _) && _) && _) = _
  rw [Bool.true_and]
  exact e _ _ _ _ _ _ _ _
theorem okK_bad (X : O) (k : Nat) (hk : k < 4) (h : (ok1 (X.us.at k) (X.mu.at k) && ok1 (X.him.at k) (X.mh.at k)) = false) : okO X = false := by
  rw [← okK_four]
  unfold okK
  rw [List.all_eq_false]
  exact ⟨k, by simpa using hk, by simp [h]⟩

set_option maxHeartbeats 4000000 in
theorem rmay_any (X : O) (w : World) : Calls Tryd.prog 11 #[X.v] w fun e w' => e = .returned (.bool (okO X)) ∧ Below w.heap.size w w' := by
  have C := keepd rMay_any
  obtain ⟨z, hz⟩ : ∃ z, okO X = z := ⟨_, rfl⟩
  have H4 := keepd (okK_four X)
  have HBd := keepd (okK_bad X)
  rw [hz] at H4 HBd ⊢
  clear hz
  go_enter Tryd.func11, Tryd.ntmps11
  go_upto_region 1 with fail
  generalize hW : w.alloc (.cells X.cs.toArray 25) = W
  obtain ⟨h1, h2, h3⟩ := one_new _ _ _ _ hW
  clear hW h3
  have HX := keepd h1
  have HB := keepd h2
  clear h1 h2
  go_wp2_with fail
  go_loopw [3] (fun vi wr => ∃ j : Nat, j ≤ 4 ∧ vi = .int .i64 j ∧ wr = W ∧ Hid (okK X j = true)) (fun vi _ => 4 - (intOf vi).toNat)
  case atStart => exact ⟨0, by omega, rfl, rfl, rfl⟩
  case round =>
    obtain ⟨j, hj, rfl, rfl, HO⟩ := hrel
    by_cases hlt : j < 4
    · have g3 : decide ((j : Int) < 4) = true := by simp; omega
      have b1 : (j : Int) < 4 := by omega
      have b2 : (0 : Int) ≤ j := by omega
      have x0 := (HX.out.cell j).trans (cs_us' X j hlt)
      have x4 := (HX.out.cell (4 + j)).trans (cs_him' X j hlt)
      have x8 := (HX.out.cell (8 + j)).trans (cs_mu X j hlt)
      have xc := (HX.out.cell (12 + j)).trans (cs_mh X j hlt)
      have HBd := keepd (HBd.out j hlt)
      have HS := keepd (okK_succ X j)
      rw [HO.out, Bool.true_and] at HS
      have U := keepd (ways2 (X.us.at j) (X.mu.at j))
      have V := keepd (ways2 (X.him.at j) (X.mh.at j))
      have C0 := keepd (C.out (X.us.at j))
      have C1 := keepd (C.out (X.him.at j))
      generalize X.us.at j = zu at *
      generalize X.him.at j = zh at *
      generalize X.mu.at j = zm at *
      generalize X.mh.at j = zn at *
      clear C H4
      rcases U.out with ⟨u1, u2⟩ | ⟨u1, rfl, u2⟩ | ⟨u1, rfl, u3, u2⟩ | ⟨u1, rfl, u3, u2⟩
      · rw [u1] at C0
        have hz : z = false := HBd.out (by rw [u2, Bool.false_and])
        subst hz
        clear u1 u2 V U HS HBd
        go_wp2_with (go_at_call 26; with_reducible refine (C0.out _).mono ?_; rintro e w1 ⟨rfl, rfl⟩)
        go_ret
        exact ⟨rfl, HB.out⟩
      · rw [u1] at C0
        rcases V.out with ⟨v1, v2⟩ | ⟨v1, rfl, v2⟩ | ⟨v1, rfl, v3, v2⟩ | ⟨v1, rfl, v3, v2⟩
        · rw [v1] at C1
          have hz : z = false := HBd.out (by rw [u2, v2]; rfl)
          subst hz
          clear u1 u2 v1 v2 V U HS HBd
          go_wp2_with (first | (go_at_call_of 26 (Value.int .i64 zu); with_reducible refine (C0.out _).mono ?_; rintro e w1 ⟨rfl, rfl⟩) | (go_at_call_of 26 (Value.int .i64 zh); with_reducible refine (C1.out _).mono ?_; rintro e w1 ⟨rfl, rfl⟩))
          go_ret
          exact ⟨rfl, HB.out⟩
        · rw [v1] at C1
          have HS' : Hid (okK X (j + 1) = true) := by show _ = _; rw [HS.out, u2, v2]; rfl
          clear u1 u2 v1 v2 V U HS HBd
          go_wp2_with (first | (go_at_call_of 26 (Value.int .i64 zu); with_reducible refine (C0.out _).mono ?_; rintro e w1 ⟨rfl, rfl⟩) | (go_at_call_of 26 (Value.int .i64 zh); with_reducible refine (C1.out _).mono ?_; rintro e w1 ⟨rfl, rfl⟩))
          go_roundw
          case rel => exact ⟨j + 1, by omega, by go_num, trivial, HS'⟩
          case measure => simp [intOf]; omega
        · rw [v1] at C1
          have HS' : Hid (okK X (j + 1) = true) := by show _ = _; rw [HS.out, u2, v2]; rfl
          clear u1 u2 v1 v2 V U HS HBd
          go_wp2_with (first | (go_at_call_of 26 (Value.int .i64 zu); with_reducible refine (C0.out _).mono ?_; rintro e w1 ⟨rfl, rfl⟩) | (go_at_call_of 26 (Value.int .i64 zh); with_reducible refine (C1.out _).mono ?_; rintro e w1 ⟨rfl, rfl⟩))
          go_roundw
          case rel => exact ⟨j + 1, by omega, by go_num, trivial, HS'⟩
          case measure => simp [intOf]; omega
        · rw [v1] at C1
          have hz : z = false := HBd.out (by rw [u2, v2]; rfl)
          subst hz
          clear u1 u2 v1 v2 V U HS HBd
          go_wp2_with (first | (go_at_call_of 26 (Value.int .i64 zu); with_reducible refine (C0.out _).mono ?_; rintro e w1 ⟨rfl, rfl⟩) | (go_at_call_of 26 (Value.int .i64 zh); with_reducible refine (C1.out _).mono ?_; rintro e w1 ⟨rfl, rfl⟩))
          go_ret
          exact ⟨rfl, HB.out⟩
      · rw [u1] at C0
        rcases V.out with ⟨v1, v2⟩ | ⟨v1, rfl, v2⟩ | ⟨v1, rfl, v3, v2⟩ | ⟨v1, rfl, v3, v2⟩
        · rw [v1] at C1
          have hz : z = false := HBd.out (by rw [u2, v2]; rfl)
          subst hz
          clear u1 u2 v1 v2 V U HS HBd
          go_wp2_with (first | (go_at_call_of 26 (Value.int .i64 zu); with_reducible refine (C0.out _).mono ?_; rintro e w1 ⟨rfl, rfl⟩) | (go_at_call_of 26 (Value.int .i64 zh); with_reducible refine (C1.out _).mono ?_; rintro e w1 ⟨rfl, rfl⟩))
          go_ret
          exact ⟨rfl, HB.out⟩
        · rw [v1] at C1
          have HS' : Hid (okK X (j + 1) = true) := by show _ = _; rw [HS.out, u2, v2]; rfl
          clear u1 u2 v1 v2 V U HS HBd
          go_wp2_with (first | (go_at_call_of 26 (Value.int .i64 zu); with_reducible refine (C0.out _).mono ?_; rintro e w1 ⟨rfl, rfl⟩) | (go_at_call_of 26 (Value.int .i64 zh); with_reducible refine (C1.out _).mono ?_; rintro e w1 ⟨rfl, rfl⟩))
          go_roundw
          case rel => exact ⟨j + 1, by omega, by go_num, trivial, HS'⟩
          case measure => simp [intOf]; omega
        · rw [v1] at C1
          have HS' : Hid (okK X (j + 1) = true) := by show _ = _; rw [HS.out, u2, v2]; rfl
          clear u1 u2 v1 v2 V U HS HBd
          go_wp2_with (first | (go_at_call_of 26 (Value.int .i64 zu); with_reducible refine (C0.out _).mono ?_; rintro e w1 ⟨rfl, rfl⟩) | (go_at_call_of 26 (Value.int .i64 zh); with_reducible refine (C1.out _).mono ?_; rintro e w1 ⟨rfl, rfl⟩))
          go_roundw
          case rel => exact ⟨j + 1, by omega, by go_num, trivial, HS'⟩
          case measure => simp [intOf]; omega
        · rw [v1] at C1
          have hz : z = false := HBd.out (by rw [u2, v2]; rfl)
          subst hz
          clear u1 u2 v1 v2 V U HS HBd
          go_wp2_with (first | (go_at_call_of 26 (Value.int .i64 zu); with_reducible refine (C0.out _).mono ?_; rintro e w1 ⟨rfl, rfl⟩) | (go_at_call_of 26 (Value.int .i64 zh); with_reducible refine (C1.out _).mono ?_; rintro e w1 ⟨rfl, rfl⟩))
          go_ret
          exact ⟨rfl, HB.out⟩
      · rw [u1] at C0
        rcases V.out with ⟨v1, v2⟩ | ⟨v1, rfl, v2⟩ | ⟨v1, rfl, v3, v2⟩ | ⟨v1, rfl, v3, v2⟩
        · rw [v1] at C1
          have hz : z = false := HBd.out (by rw [u2, v2]; rfl)
          subst hz
          clear u1 u2 v1 v2 V U HS HBd
          go_wp2_with (first | (go_at_call_of 26 (Value.int .i64 zu); with_reducible refine (C0.out _).mono ?_; rintro e w1 ⟨rfl, rfl⟩) | (go_at_call_of 26 (Value.int .i64 zh); with_reducible refine (C1.out _).mono ?_; rintro e w1 ⟨rfl, rfl⟩))
          go_ret
          exact ⟨rfl, HB.out⟩
        · rw [v1] at C1
          have hz : z = false := HBd.out (by rw [u2, v2]; rfl)
          subst hz
          clear u1 u2 v1 v2 V U HS HBd
          go_wp2_with (first | (go_at_call_of 26 (Value.int .i64 zu); with_reducible refine (C0.out _).mono ?_; rintro e w1 ⟨rfl, rfl⟩) | (go_at_call_of 26 (Value.int .i64 zh); with_reducible refine (C1.out _).mono ?_; rintro e w1 ⟨rfl, rfl⟩))
          go_ret
          exact ⟨rfl, HB.out⟩
        · rw [v1] at C1
          have hz : z = false := HBd.out (by rw [u2, v2]; rfl)
          subst hz
          clear u1 u2 v1 v2 V U HS HBd
          go_wp2_with (first | (go_at_call_of 26 (Value.int .i64 zu); with_reducible refine (C0.out _).mono ?_; rintro e w1 ⟨rfl, rfl⟩) | (go_at_call_of 26 (Value.int .i64 zh); with_reducible refine (C1.out _).mono ?_; rintro e w1 ⟨rfl, rfl⟩))
          go_ret
          exact ⟨rfl, HB.out⟩
        · rw [v1] at C1
          have hz : z = false := HBd.out (by rw [u2, v2]; rfl)
          subst hz
          clear u1 u2 v1 v2 V U HS HBd
          go_wp2_with (first | (go_at_call_of 26 (Value.int .i64 zu); with_reducible refine (C0.out _).mono ?_; rintro e w1 ⟨rfl, rfl⟩) | (go_at_call_of 26 (Value.int .i64 zh); with_reducible refine (C1.out _).mono ?_; rintro e w1 ⟨rfl, rfl⟩))
          go_ret
          exact ⟨rfl, HB.out⟩
    · have g3 : decide ((j : Int) < 4) = false := by simp; omega
      obtain rfl : j = 4 := by omega
      have hz : z = true := H4.out.symm.trans HO.out
      subst hz
      clear hlt hj C
      go_wp2_with fail
      go_ret
      exact ⟨rfl, HB.out⟩

/-- What is said, as items. -/
theorem said_any (him : Bool) (c s : Int) (hs : s = 0 ∨ s = 1 ∨ s = 2) (w : World) : Calls Tryd.prog 39 #[.bool him, .int .i64 c, .int .i64 s] w (GotL w (sayL (if him then 253 else 251) (if him then 254 else 252) c s)) := by
  have B0 : ∀ o, Below w.heap.size w (w.alloc o) := fun o => bAlloc (Below.refl _ _) o
  rcases hs with rfl | rfl | rfl <;> cases him
  all_goals
    go_enter Tryd.func39, Tryd.ntmps39
    go_wp2
    go_ret
    first
      | exact ⟨_, rfl, .inl ⟨rfl, rfl⟩, Below.refl _ _⟩
      | exact ⟨_, rfl, One.new (Below.refl _ _) _ _, B0 _⟩

end Go.Proofs.YtlgcfpdmklieiaaDoor
