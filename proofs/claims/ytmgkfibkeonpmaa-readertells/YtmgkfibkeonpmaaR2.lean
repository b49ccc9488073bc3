/-
  Contracts over layer 4: told, isVerb, mayBe, Check, Same, and bytes.Clone. No conditions beyond those each theorem states.
-/
import Derived.Test.YtmgkfibkeonpmaaR1
import Derived.Laws.Cover3
namespace Go.Proofs.Ytmgkfibkeonpmaa
open Go.RowKit

theorem told_any (k a b : Int) (A : Option Addr) (n c : Nat) (w : World) :
    Calls Try.prog 37 #[.agg #[.int .i64 k, .int .i64 a, .int .i64 b, .slice A n c]] w fun e w' => e = .returned (.agg #[.int .i64 4, .int .i64 b, .int .i64 0, .slice A n c]) ∧ Below w.heap.size w w' := by
  have B0 : ∀ o o', Below w.heap.size w ((w.alloc o).alloc o') := fun o o' => bAlloc (bAlloc (Below.refl _ _) o) o'
  go_enter Try.func37, Try.ntmps37
  go_wp2
  refine bodyPost_ret (v := .agg #[.int .i64 4, .int .i64 b, .int .i64 0, .slice A n c]) (by simp [results, Try.results37, go_sem]) rfl ⟨rfl, B0 _ _⟩

theorem may_verb (n : Int) : mayN 3 n 0 0 = verbB n := by
  unfold mayN
  rw [if_neg (by decide), if_neg (by decide), if_pos rfl, show oct 0 = true from by decide]
  simp

theorem rverb_any (n : Int) (v : Bool) (hv : verbB n = v) (w : World) : Calls Try.prog 36 #[.int .i64 n] w fun e w' => e = .returned (.bool v) ∧ Below w.heap.size w w' := by
  have HC := fun w => check_any 3 n 0 none 0 0 v (by rw [may_verb]; exact hv) w
  clear hv
  go_enter Try.func36, Try.ntmps36
  cases v
  all_goals
    go_wp2_with (go_at_call 16; with_reducible refine (HC _).mono ?_; rintro e w1 ⟨rfl, hb⟩)
    go_ret
    exact ⟨rfl, hb⟩

theorem may_sub (b : Int) (n : Nat) : mayN 4 b 0 n = (oct b && decide (n ≤ 512)) := by
  unfold mayN
  rw [if_neg (by decide), if_neg (by decide), if_neg (by decide), if_pos rfl]
  simp

set_option maxRecDepth 100000 in
set_option maxHeartbeats 2000000 in
theorem rmay_any (k a b : Int) (A : Option Addr) (l : List UInt8) (n c : Nat) (w : World) (hn : n = l.length) :
    Calls Try.prog 20 #[.agg #[.int .i64 k, .int .i64 a, .int .i64 b, .slice A n c]] w fun e w' => e = .returned (.bool (mayR ⟨k, a, b, l⟩)) ∧ Below w.heap.size w w' := by
  have B0 : ∀ o, Below w.heap.size w (w.alloc o) := fun o => bAlloc (Below.refl _ _) o
  obtain ⟨v2, h2⟩ : ∃ v, (b == 0) = v := ⟨_, rfl⟩
  obtain ⟨v3, h3⟩ : ∃ v, ((n : Int) == 0) = v := ⟨_, rfl⟩
  obtain ⟨v4, h4⟩ : ∃ v, (a == 0) = v := ⟨_, rfl⟩
  have h3' : (l.length == 0) = v3 := by rw [← hn, ← nat_beq0]; exact h3
  by_cases k3 : k = 3
  · subst k3
    obtain ⟨v1, h1⟩ : ∃ v, verbB a = v := ⟨_, rfl⟩
    have HV := fun w => rverb_any a v1 h1 w
    have e : mayR ⟨3, a, b, l⟩ = (v1 && v2 && v3) := by
      rw [← h1, ← h2, ← h3']
      exact if_pos rfl
    rw [e]
    clear e h1 h3' hn h4 v4
    cases v1 <;> cases v2 <;> cases v3 <;>
    · go_enter Try.func20, Try.ntmps20
      go_wp2_with fail
      with_reducible refine (HV _).mono ?_
      rintro e w1 ⟨rfl, hb⟩
      have q := (SR.new 24 w [.int .i64 3, .int .i64 a, .int .i64 b, .slice A n c]).call hb (by simp)
      have q2 := q.cell 2
      have q3 := q.cell 3
      simp only [List.getElem?_cons_zero, List.getElem?_cons_succ] at q2 q3
      have HB := keepd (upA hb)
      clear hb q
      go_wp2
      go_ret
      exact ⟨rfl, HB.out⟩
  by_cases k56 : k = 5 ∨ k = 6
  · obtain ⟨v1, h1⟩ : ∃ v, (oct b && decide (l.length ≤ 512)) = v := ⟨_, rfl⟩
    have HC := fun w => check_any 4 b 0 A n c v1 (by rw [may_sub, hn]; exact h1) w
    have HT := fun w => told_any k a b A n c w
    have e : mayR ⟨k, a, b, l⟩ = (v4 && v1) := by
      rw [← h1, ← h4]
      unfold mayR
      rw [if_neg k3, if_pos k56]
    rw [e]
    clear e h1 h3' hn h2 v2 h3 v3 k3
    rcases k56 with rfl | rfl
    all_goals
      cases v4
      · cases v1 <;>
        · go_enter Try.func20, Try.ntmps20
          go_wp2
          go_ret
          exact ⟨rfl, B0 _⟩
      · cases v1 <;>
        · go_enter Try.func20, Try.ntmps20
          go_wp2_with fail
          with_reducible refine (HT _).mono ?_
          rintro e w1 ⟨rfl, hb⟩
          have HB := keepd (upA hb)
          clear hb
          go_wp2_with fail
          with_reducible refine (HC _).mono ?_
          rintro e w2 ⟨rfl, hb2⟩
          have HB2 := keepd (bCall HB.out hb2)
          clear hb2
          go_wp2
          go_ret
          exact ⟨rfl, HB2.out⟩
  · obtain ⟨v5, h5⟩ : ∃ v, decide (k ≥ 0) = v := ⟨_, rfl⟩
    obtain ⟨v6, h6⟩ : ∃ v, decide (k < 9) = v := ⟨_, rfl⟩
    have g3 : (k == 3) = false := by simpa using k3
    have g5 : (k == 5) = false := by simp; omega
    have g6 : (k == 6) = false := by simp; omega
    have e : mayR ⟨k, a, b, l⟩ = ((v5 && v6) && v4 && v2 && v3) := by
      rw [← h5, ← h6, ← h4, ← h2, ← h3']
      unfold mayR
      rw [if_neg k3, if_neg k56, show decide (0 ≤ k ∧ k < 9) = (decide (k ≥ 0) && decide (k < 9)) by rw [Bool.eq_iff_iff]; simp]
    rw [e]
    clear e h3' hn k3 k56
    cases v5
    · go_enter Try.func20, Try.ntmps20
      go_wp2
      go_ret
      exact ⟨rfl, B0 _⟩
    · cases v6
      · go_enter Try.func20, Try.ntmps20
        go_wp2
        go_ret
        exact ⟨rfl, B0 _⟩
      · cases v4
        · go_enter Try.func20, Try.ntmps20
          go_wp2
          go_ret
          exact ⟨rfl, B0 _⟩
        · cases v2
          · go_enter Try.func20, Try.ntmps20
            go_wp2
            go_ret
            exact ⟨rfl, B0 _⟩
          · cases v3
            · go_enter Try.func20, Try.ntmps20
              go_wp2
              go_ret
              exact ⟨rfl, B0 _⟩
            · go_enter Try.func20, Try.ntmps20
              go_wp2
              go_ret
              exact ⟨rfl, B0 _⟩

/-- Check. -/
theorem rcheck_any (k a b : Int) (A : Option Addr) (l : List UInt8) (n c : Nat) (w : World) (hn : n = l.length) (v : Bool) (hv : mayR ⟨k, a, b, l⟩ = v) :
    Calls Try.prog 9 #[.agg #[.int .i64 k, .int .i64 a, .int .i64 b, .slice A n c]] w fun e w' => e = .returned (.int .i64 (if v then 0 else 1)) ∧ Below w.heap.size w w' := by
  have HM := fun w => rmay_any k a b A l n c w hn
  rw [hv] at HM
  clear hv hn
  go_enter Try.func9, Try.ntmps9
  cases v
  all_goals
    go_wp2_with (go_at_call 20; with_reducible refine (HM _).mono ?_; rintro e w1 ⟨rfl, hb⟩)
    go_ret
    exact ⟨rfl, upA hb⟩

set_option maxHeartbeats 1000000 in
/-- Same. -/
theorem rsameR_any (x y : Itm) (v : Bool) (hv : sameI x y = v) (n m : Nat) (hn : n = x.l.length) (hm : m = y.l.length) (w : World) (hx : Rd w w.heap.size x.A x.l x.c) (hy : Rd w w.heap.size y.A y.l y.c) :
    Calls Try.prog 11 #[.agg #[.int .i64 x.k, .int .i64 x.a, .int .i64 x.b, .slice x.A n x.c], .agg #[.int .i64 y.k, .int .i64 y.a, .int .i64 y.b, .slice y.A m y.c]] w
      fun e w' => e = .returned (.bool v) ∧ Below w.heap.size w w' := by
  subst hv hn hm
  unfold sameI
  have HE := fun W (hW : Below w.heap.size w W) => equal_any x.A y.A x.l y.l x.l.length y.l.length x.c y.c W rfl rfl (hx.at_ hW) (hy.at_ hW)
  obtain ⟨v1, h1⟩ : ∃ v, (x.k == y.k) = v := ⟨_, rfl⟩
  obtain ⟨v2, h2⟩ : ∃ v, (x.a == y.a) = v := ⟨_, rfl⟩
  obtain ⟨v3, h3⟩ : ∃ v, (x.b == y.b) = v := ⟨_, rfl⟩
  obtain ⟨v4, h4⟩ : ∃ v, (x.l == y.l) = v := ⟨_, rfl⟩
  rw [h1, h2, h3, h4]
  rw [h4] at HE
  clear hx hy h4
  have HB : ∀ o1 o2, Below w.heap.size w ((w.alloc o1).alloc o2) := fun o1 o2 => bAlloc (bAlloc (Below.refl _ _) _) _
  cases v1 <;> cases v2 <;> cases v3 <;>
  · go_enter Try.func11, Try.ntmps11
    go_wp2_with (go_at_call 21; with_reducible refine (HE _ (HB _ _)).mono ?_; rintro e w1 ⟨rfl, rfl⟩)
    go_ret
    exact ⟨rfl, HB _ _⟩

/-- What bytes.Clone answers: a row of its own, or nil. -/
def GotClone (w : World) (l : List UInt8) (e : Ending) (w' : World) : Prop :=
  ∃ A c, e = .returned (.slice A l.length c) ∧ Own w' w.heap.size (.slice A l.length c) l ∧ Below w.heap.size w w'

theorem eq_nil22 (A : Option Addr) (n c : Nat) (w : World) : (binOp .eql 22 (.slice A n c) (.slice none 0 0)).run Try.prog w = .ok (.bool A.isNone) w := by
  have := run_equal_slice_nil (P := Try.prog) w 22 5 A n c Try.underlying22
  simp [binOp, this]

set_option maxHeartbeats 400000 in
theorem clone_any (A : Option Addr) (l : List UInt8) (n c : Nat) (w : World) (hn : n = l.length) (hl : n ≤ 900000) (hr : Rd w w.heap.size A l c) : Calls Try.prog 18 #[.slice A n c] w (GotClone w l) := by
  cases A with
  | none =>
    have := hr.none_nil
    subst this
    subst hn
    have hq := eq_nil22 none 0 c
    clear hr hl
    go_enter Try.func18, Try.ntmps18
    go_wp2
    go_ret
    exact ⟨none, 0, rfl, Own.nil _ _, Below.refl _ _⟩
  | some ad =>
    have HR := keepd hr
    have HN := keepd hn
    have hq := eq_nil22 (some ad) n c
    clear hr hn
    go_enter Try.func18, Try.ntmps18
    go_wp2_with (at_builtin; refine wpList_app _ rfl (.tmp 5) (.tmp 6) rfl w.heap.size _ [] rfl (empty_own w _ (Nat.le_refl _)) _ (some ad) n c l rfl HN.out (HR.out.at_ (bAlloc (Below.refl _ _) _)) ?_ ?_ ?_)
    · rw [← HN.out]; simp; omega
    · simp
    · intro v' w' ho hg _
      have hb := app_start0 hg
      obtain ⟨A', c', rfl, _⟩ := ho.rd
      have H1 := keepd ho
      have H2 := keepd hb
      clear ho hg hb
      go_wp2
      go_ret
      exact ⟨A', c', rfl, H1.out, H2.out⟩

end Go.Proofs.Ytmgkfibkeonpmaa
