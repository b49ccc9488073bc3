/-
  The contracts of mayBe, Check, Place.
-/
import Derived.Test.YtlgcfpdmklieiaaDoorU3
namespace Go.Proofs.YtlgcfpdmklieiaaDoor
open Go.RowKit
set_option maxRecDepth 100000

attribute [local go_sem ↓] ex_ld25 ex_ld67 ex_ld73 ex_st25 ex_st67 ex_st73 ex_eq25 ex_ne25
attribute [local go_sem] ptrB_at okPtr_at aggC_at agg16 agg11 agg12 isO_at toO_at

/-- A part of four numbers, by its place. -/
def idx4 : Value → Value → Value
  | .agg cs, .int _ n => cs.getD n.toNat undef
  | _, _ => undef
def okIdx : Value → Value → Bool
  | .agg cs, .int .i64 n => decide (cs.size = 4 ∧ 0 ≤ n ∧ n < 4)
  | _, _ => false
theorem idx0 (a b c d : Value) : idx4 (.agg #[a, b, c, d]) (.int .i64 0) = a := rfl
theorem idx1 (a b c d : Value) : idx4 (.agg #[a, b, c, d]) (.int .i64 1) = b := rfl
theorem idx2 (a b c d : Value) : idx4 (.agg #[a, b, c, d]) (.int .i64 2) = c := rfl
theorem idx3 (a b c d : Value) : idx4 (.agg #[a, b, c, d]) (.int .i64 3) = d := rfl
theorem okIdx_at (a b c d : Value) (n : Int) : okIdx (.agg #[a, b, c, d]) (.int .i64 n) = decide (0 ≤ n ∧ n < 4) := by simp [okIdx]

theorem ex_ix22 (ρ : Operand → Value) (dst : Option Tmp) (x i : Operand) (ty : TypeId) (pos : String) (af : Array Edge) (gd : Option (Nat × Bool)) (W : World) (h : okIdx (ρ x) (ρ i) = true) :
    Sem.run Tryd.prog (execOp ρ ⟨dst, .index 22 x i, ty, pos, af, gd⟩) W = .ok (.value (idx4 (ρ x) (ρ i))) W := by
  unfold execOp
  simp only []
  generalize ρ x = v at *
  generalize ρ i = u at *
  unfold okIdx at h
  split at h
  · rename_i cs n
    simp only [decide_eq_true_eq] at h
    obtain ⟨h1, h2, h3⟩ := h
    obtain ⟨l⟩ := cs
    match l, h1 with
    | [a, b, c, d], _ =>
      have : n = 0 ∨ n = 1 ∨ n = 2 ∨ n = 3 := by omega
      rcases this with rfl | rfl | rfl | rfl
      · simp [go_sem]; rfl
      · simp [go_sem]; rfl
      · simp [go_sem]; rfl
      · simp [go_sem]; rfl
  · cases h
attribute [local go_sem ↓] ex_ix22
attribute [local go_sem] idx0 idx1 idx2 idx3 okIdx_at

/-- May an option be there? -/
def ok1 (q : Int) (m : Bool) : Bool := decide (0 ≤ q ∧ q ≤ 5) && (decide (q = 0) || m)
def okF (x : Four Int) (m : Four Bool) : Bool := ok1 x.a m.a && (ok1 x.b m.b && (ok1 x.c m.c && ok1 x.d m.d))
def okO (X : O) : Bool := okF X.us X.mu && okF X.him X.mh

theorem one_new (w : World) (t : TypeId) (a : List Value) (W : World) (h : w.alloc (.cells a.toArray t) = W) : SR t W w.heap.size a ∧ Below w.heap.size w W ∧ W.heap.size = w.heap.size + 1 := by
  subst h
  exact ⟨heap_alloc_new w _, bAlloc (Below.refl _ _) _, by simp⟩

/-- The three ways of a place: it is none, or it is one and may be there, or it may not. -/
theorem ways (q : Int) (m : Bool) : ((q < 0 ∨ 5 < q) ∧ ok1 q m = false) ∨ (q = 0 ∧ ok1 q m = true) ∨ (0 ≤ q ∧ q ≤ 5 ∧ (q != 0) = true ∧ m = true ∧ ok1 q m = true) ∨ (0 ≤ q ∧ q ≤ 5 ∧ (q != 0) = true ∧ m = false ∧ ok1 q m = false) := by
  unfold ok1
  by_cases h : 0 ≤ q ∧ q ≤ 5
  · by_cases h0 : q = 0
    · subst h0
      simp
    · cases m
      · simp [h0, h]
      · simp [h0, h]
  · refine .inl ⟨by omega, ?_⟩
    simp only [h, decide_false, Bool.false_and]

set_option maxHeartbeats 1000000 in
theorem mayBe_any (S : Sd) (w : World) : Calls Tryd.prog 24 #[S.v] w fun e w' => e = .returned (.bool (okF S.at_ S.may)) ∧ Below w.heap.size w w' := by
  have HI := keepd check_in
  have HO := keepd check_out
  obtain ⟨him, ⟨q0, q1, q2, q3⟩, ⟨m0, m1, m2, m3⟩, y, n⟩ := S
  unfold okF
  simp only [Sd.v]
  have HA := keepd (ways q0 m0)
  have HA1 := keepd (ways q1 m1)
  have HA2 := keepd (ways q2 m2)
  have HA3 := keepd (ways q3 m3)
  generalize ok1 q0 m0 = z0 at *
  generalize ok1 q1 m1 = z1 at *
  generalize ok1 q2 m2 = z2 at *
  generalize ok1 q3 m3 = z3 at *
  go_enter Tryd.func24, Tryd.ntmps24
  go_upto_region 1 with fail
  generalize hW : w.alloc (.cells (Sd.cs ⟨him, ⟨q0, q1, q2, q3⟩, ⟨m0, m1, m2, m3⟩, y, n⟩).toArray 67) = W
  obtain ⟨h1, h2, h3⟩ := one_new _ _ _ _ hW
  clear hW
  have c1 := h1.cell 1
  have c2 := h1.cell 2
  have c3 := h1.cell 3
  have c4 := h1.cell 4
  have c5 := h1.cell 5
  have c6 := h1.cell 6
  have c7 := h1.cell 7
  have c8 := h1.cell 8
  simp only [Sd.cs, List.getElem?_cons_succ, List.getElem?_cons_zero] at c1 c2 c3 c4 c5 c6 c7 c8
  have HB := keepd h2
  clear h1 h2 h3
  go_wp2_with fail
  go_loopw [3, 4, 7] (fun _ _ vi wr => wr = W ∧ ((vi = .int .i64 0) ∨ (vi = .int .i64 1 ∧ z0 = true) ∨ (vi = .int .i64 2 ∧ z0 = true ∧ z1 = true) ∨ (vi = .int .i64 3 ∧ z0 = true ∧ z1 = true ∧ z2 = true) ∨ (vi = .int .i64 4 ∧ z0 = true ∧ z1 = true ∧ z2 = true ∧ z3 = true))) (fun _ _ vi _ => 4 - (intOf vi).toNat)
  case atStart => exact ⟨rfl, .inl rfl⟩
  case round =>
    obtain ⟨rfl, h⟩ := hrel
    rcases h with rfl | ⟨rfl, rfl⟩ | ⟨rfl, rfl, rfl⟩ | ⟨rfl, rfl, rfl, rfl⟩ | ⟨rfl, rfl, rfl, rfl, rfl⟩
    · rcases HA.out with ⟨h, rfl⟩ | ⟨rfl, rfl⟩ | ⟨ha, hb, g, rfl, rfl⟩ | ⟨ha, hb, g, rfl, rfl⟩
      · have H := keepd h
        clear h HI
        go_wp2_with (go_at_call 44; with_reducible refine (HO.out q0 _ H.out).mono ?_; rintro e w1 ⟨rfl, rfl⟩)
        go_ret
        exact ⟨by simp, HB.out⟩
      · clear HO
        go_wp2_with (go_at_call 44; with_reducible refine (HI.out 0 _ (by decide) (by decide)).mono ?_; rintro e w1 ⟨rfl, rfl⟩)
        go_roundw
        case rel => simp
        case measure => simp [intOf]
      · have H := keepd (And.intro ha hb)
        clear ha hb HO
        go_wp2_with (go_at_call 44; with_reducible refine (HI.out q0 _ H.out.1 H.out.2).mono ?_; rintro e w1 ⟨rfl, rfl⟩)
        go_roundw
        case rel => simp
        case measure => simp [intOf]
      · have H := keepd (And.intro ha hb)
        clear ha hb HO
        go_wp2_with (go_at_call 44; with_reducible refine (HI.out q0 _ H.out.1 H.out.2).mono ?_; rintro e w1 ⟨rfl, rfl⟩)
        go_ret
        exact ⟨by simp, HB.out⟩
    · rcases HA1.out with ⟨h, rfl⟩ | ⟨rfl, rfl⟩ | ⟨ha, hb, g, rfl, rfl⟩ | ⟨ha, hb, g, rfl, rfl⟩
      · have H := keepd h
        clear h HI
        go_wp2_with (go_at_call 44; with_reducible refine (HO.out q1 _ H.out).mono ?_; rintro e w1 ⟨rfl, rfl⟩)
        go_ret
        exact ⟨by simp, HB.out⟩
      · clear HO
        go_wp2_with (go_at_call 44; with_reducible refine (HI.out 0 _ (by decide) (by decide)).mono ?_; rintro e w1 ⟨rfl, rfl⟩)
        go_roundw
        case rel => simp
        case measure => simp [intOf]
      · have H := keepd (And.intro ha hb)
        clear ha hb HO
        go_wp2_with (go_at_call 44; with_reducible refine (HI.out q1 _ H.out.1 H.out.2).mono ?_; rintro e w1 ⟨rfl, rfl⟩)
        go_roundw
        case rel => simp
        case measure => simp [intOf]
      · have H := keepd (And.intro ha hb)
        clear ha hb HO
        go_wp2_with (go_at_call 44; with_reducible refine (HI.out q1 _ H.out.1 H.out.2).mono ?_; rintro e w1 ⟨rfl, rfl⟩)
        go_ret
        exact ⟨by simp, HB.out⟩
    · rcases HA2.out with ⟨h, rfl⟩ | ⟨rfl, rfl⟩ | ⟨ha, hb, g, rfl, rfl⟩ | ⟨ha, hb, g, rfl, rfl⟩
      · have H := keepd h
        clear h HI
        go_wp2_with (go_at_call 44; with_reducible refine (HO.out q2 _ H.out).mono ?_; rintro e w1 ⟨rfl, rfl⟩)
        go_ret
        exact ⟨by simp, HB.out⟩
      · clear HO
        go_wp2_with (go_at_call 44; with_reducible refine (HI.out 0 _ (by decide) (by decide)).mono ?_; rintro e w1 ⟨rfl, rfl⟩)
        go_roundw
        case rel => simp
        case measure => simp [intOf]
      · have H := keepd (And.intro ha hb)
        clear ha hb HO
        go_wp2_with (go_at_call 44; with_reducible refine (HI.out q2 _ H.out.1 H.out.2).mono ?_; rintro e w1 ⟨rfl, rfl⟩)
        go_roundw
        case rel => simp
        case measure => simp [intOf]
      · have H := keepd (And.intro ha hb)
        clear ha hb HO
        go_wp2_with (go_at_call 44; with_reducible refine (HI.out q2 _ H.out.1 H.out.2).mono ?_; rintro e w1 ⟨rfl, rfl⟩)
        go_ret
        exact ⟨by simp, HB.out⟩
    · rcases HA3.out with ⟨h, rfl⟩ | ⟨rfl, rfl⟩ | ⟨ha, hb, g, rfl, rfl⟩ | ⟨ha, hb, g, rfl, rfl⟩
      · have H := keepd h
        clear h HI
        go_wp2_with (go_at_call 44; with_reducible refine (HO.out q3 _ H.out).mono ?_; rintro e w1 ⟨rfl, rfl⟩)
        go_ret
        exact ⟨by simp, HB.out⟩
      · clear HO
        go_wp2_with (go_at_call 44; with_reducible refine (HI.out 0 _ (by decide) (by decide)).mono ?_; rintro e w1 ⟨rfl, rfl⟩)
        go_roundw
        case rel => simp
        case measure => simp [intOf]
      · have H := keepd (And.intro ha hb)
        clear ha hb HO
        go_wp2_with (go_at_call 44; with_reducible refine (HI.out q3 _ H.out.1 H.out.2).mono ?_; rintro e w1 ⟨rfl, rfl⟩)
        go_roundw
        case rel => simp
        case measure => simp [intOf]
      · have H := keepd (And.intro ha hb)
        clear ha hb HO
        go_wp2_with (go_at_call 44; with_reducible refine (HI.out q3 _ H.out.1 H.out.2).mono ?_; rintro e w1 ⟨rfl, rfl⟩)
        go_ret
        exact ⟨by simp, HB.out⟩
    · clear HI HO
      go_wp2
      go_ret
      exact ⟨by simp, HB.out⟩

theorem checkO_any (X : O) (w : World) : Calls Tryd.prog 10 #[X.v] w fun e w' => e = .returned (.int .i64 (if okO X then 0 else 1)) ∧ Below w.heap.size w w' := by
  have C0 := keepd (ours_any X)
  have C1 := keepd (his_any X)
  have C2 := keepd mayBe_any
  obtain ⟨S, hS⟩ : ∃ S, sideF X false = S := ⟨_, rfl⟩
  obtain ⟨T, hT⟩ : ∃ T, sideF X true = T := ⟨_, rfl⟩
  have e1 : okF X.us X.mu = okF S.at_ S.may := by subst hS; rfl
  have e2 : okF X.him X.mh = okF T.at_ T.may := by subst hT; rfl
  unfold okO
  rw [e1, e2]
  rw [hS] at C0
  rw [hT] at C1
  clear hS hT e1 e2
  obtain ⟨a, ha⟩ : ∃ a, okF S.at_ S.may = a := ⟨_, rfl⟩
  obtain ⟨b, hb⟩ : ∃ b, okF T.at_ T.may = b := ⟨_, rfl⟩
  have C3 := keepd (C2.out S)
  have C4 := keepd (C2.out T)
  rw [ha] at C3
  rw [hb] at C4
  rw [ha, hb]
  clear ha hb C2
  go_enter Tryd.func10, Tryd.ntmps10
  go_upto_region 1 with fail
  generalize hW : w.alloc (.cells X.cs.toArray 25) = W
  obtain ⟨h1, h2, h3⟩ := one_new _ _ _ _ hW
  clear hW
  obtain ⟨r1, k1⟩ := h1.facts 16 rfl
  have H1 := keepd h1
  have H2 := keepd h2
  clear h1 h2 h3
  cases a
  · go_wp2_with fail
    with_reducible refine (C0.out _).mono ?_
    rintro e w1 ⟨rfl, hb⟩
    have HB := keepd (bCall H2.out hb)
    clear hb r1 k1
    go_wp2_with fail
    with_reducible refine (C3.out _).mono ?_
    rintro e w2 ⟨rfl, hb⟩
    have HB := keepd (bCall HB.out hb)
    clear hb
    go_wp2_with fail
    go_ret
    exact ⟨by simp, HB.out⟩
  · go_wp2_with fail
    with_reducible refine (C0.out _).mono ?_
    rintro e w1 ⟨rfl, hb⟩
    have HB := keepd (bCall H2.out hb)
    have h1 := H1.out.call hb H1.out.lt
    have H1 := keepd h1
    clear hb r1 k1 h1
    go_wp2_with fail
    with_reducible refine (C3.out _).mono ?_
    rintro e w2 ⟨rfl, hb⟩
    have HB := keepd (bCall HB.out hb)
    have h1 := H1.out.call hb H1.out.lt
    obtain ⟨r1, k1⟩ := h1.facts 16 rfl
    clear hb h1 H1
    go_wp2_with fail
    with_reducible refine (C1.out _).mono ?_
    rintro e w3 ⟨rfl, hb⟩
    have HB := keepd (bCall HB.out hb)
    clear hb r1 k1
    go_wp2_with fail
    with_reducible refine (C4.out _).mono ?_
    rintro e w4 ⟨rfl, hb⟩
    have HB := keepd (bCall HB.out hb)
    clear hb
    cases b
    all_goals
      go_wp2_with fail
      go_ret
      exact ⟨by simp, HB.out⟩

/-- Where a code is kept. -/
def plI (c : Int) : Int := if c = 1 then 1 else if c = 3 then 2 else if c = 34 then 3 else 0
def plK (c : Int) : Bool := decide (c = 0 ∨ c = 1 ∨ c = 3 ∨ c = 34)

theorem four_ways (c : Int) : (c = 0 ∧ plI c = 0 ∧ plK c = true) ∨ (c = 1 ∧ plI c = 1 ∧ plK c = true) ∨ (c = 3 ∧ plI c = 2 ∧ plK c = true) ∨ (c = 34 ∧ plI c = 3 ∧ plK c = true) ∨ ((0 == c) = false ∧ (1 == c) = false ∧ (3 == c) = false ∧ (34 == c) = false ∧ plI c = 0 ∧ plK c = false) := by
  by_cases h0 : c = 0
  · subst h0; exact .inl (by decide)
  · by_cases h1 : c = 1
    · subst h1; exact .inr (.inl (by decide))
    · by_cases h3 : c = 3
      · subst h3; exact .inr (.inr (.inl (by decide)))
      · by_cases h34 : c = 34
        · subst h34; exact .inr (.inr (.inr (.inl (by decide))))
        · refine .inr (.inr (.inr (.inr ⟨?_, ?_, ?_, ?_, ?_, ?_⟩)))
          · simp; omega
          · simp; omega
          · simp; omega
          · simp; omega
          · simp [plI, h1, h3, h34]
          · simp [plK, h0, h1, h3, h34]

set_option maxHeartbeats 1000000 in
theorem place_any (c : Int) (w : World) (hL : Laid w) : Calls Tryd.prog 8 #[.int .i64 c] w fun e w' => e = .returned (.tuple #[.int .i64 (plI c), .bool (plK c)]) ∧ w' = w := by
  obtain ⟨c0, c1, c2, c3⟩ := hL.2.1
  clear hL
  rcases four_ways c with ⟨rfl, h1, h2⟩ | ⟨rfl, h1, h2⟩ | ⟨rfl, h1, h2⟩ | ⟨rfl, h1, h2⟩ | ⟨g0, g1, g2, g3, h1, h2⟩
  all_goals
    rw [h1, h2]
    clear h1 h2
    go_enter Tryd.func8, Tryd.ntmps8
    go_wp2_with fail
    go_rounds 5
    all_goals
      go_wp2
      go_returns
      exact ⟨rfl, rfl⟩

end Go.Proofs.YtlgcfpdmklieiaaDoor
