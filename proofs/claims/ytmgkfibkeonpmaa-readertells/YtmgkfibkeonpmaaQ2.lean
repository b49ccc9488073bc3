/-
  Contracts over the document's answers for layer 4: inCommand. No conditions beyond those each theorem states.
-/
import Derived.Test.YtmgkfibkeonpmaaQ1
namespace Go.Proofs.Ytmgkfibkeonpmaa
open Go.RowKit

/-- An item, in a block made behind the call, ahead of the store. -/
theorem one_endA {w w2 : World} {p : Nat} {X : Itm} {v : Itm} (hp : SR 24 w2 p [.int .i64 v.k, .int .i64 v.a, .int .i64 v.b, .slice v.A v.l.length v.c]) (hb : Below w.heap.size w w2) (hw : w.heap.size ≤ p) (hX : Rd w2 w2.heap.size X.A X.l X.c) :
    GotOne w (inn 0, [X.abs]) (.returned (.tuple #[.agg #[.int .i64 0, .int .i64 0, .int .i64 0, .slice none 0 0], .slice (some ⟨w2.heap.size, 0, none⟩) 1 1]))
      ((set4 w2 p (.int .i64 0) (.int .i64 0) (.int .i64 0) (.slice none 0 0)).alloc (.cells #[.int .i64 X.k, .int .i64 X.a, .int .i64 X.b, .slice X.A X.l.length X.c] 41)) := by
  have hX2 : Rd (set4 w2 p (.int .i64 0) (.int .i64 0) (.int .i64 0) (.slice none 0 0)) (set4 w2 p (.int .i64 0) (.int .i64 0) (.int .i64 0) (.slice none 0 0)).heap.size X.A X.l X.c :=
    hX.of_blockN (by rw [set4_size]; exact Nat.le_refl _) fun hl ad had => set4_heap _ _ _ _ _ _ (hX.not_rd' hl hp ad had)
  have h1 := one_rdI _ X hX2
  rw [set4_size] at h1
  exact ⟨⟨0, 0, 0, none, [], 0⟩, _, 1, [X], rfl, rfl, rfl, Rd.nil _ _, h1, bAlloc (set4_below hb hw) _, fun g off e => by injection e with e; injection e with e; have := hb.size; omega⟩

/-- An item, in a block made ahead of the call. -/
theorem one_endB {w w1 w2 : World} {p : Nat} {X : Itm} {v : Itm} (hp : SR 24 w2 p [.int .i64 v.k, .int .i64 v.a, .int .i64 v.b, .slice v.A v.l.length v.c]) (hb : Below w.heap.size w w2) (hw : w.heap.size ≤ p)
    (hb2 : Below (w1.alloc (.cells #[.int .i64 X.k, .int .i64 X.a, .int .i64 X.b, .slice X.A X.l.length X.c] 41)).drew.heap.size (w1.alloc (.cells #[.int .i64 X.k, .int .i64 X.a, .int .i64 X.b, .slice X.A X.l.length X.c] 41)).drew w2) (hlt : p < w1.heap.size) (hX : Rd w1 w1.heap.size X.A X.l X.c) :
    GotOne w (inn 0, [X.abs]) (.returned (.tuple #[.agg #[.int .i64 0, .int .i64 0, .int .i64 0, .slice none 0 0], .slice (some ⟨w1.heap.size, 0, none⟩) 1 1])) (set4 w2 p (.int .i64 0) (.int .i64 0) (.int .i64 0) (.slice none 0 0)) := by
  have h1 : RdI (w1.alloc (.cells #[.int .i64 X.k, .int .i64 X.a, .int .i64 X.b, .slice X.A X.l.length X.c] 41)).drew (some ⟨w1.heap.size, 0, none⟩) [X] 1 := one_rdI w1 X hX
  have h2 := h1.at_ hb2
  obtain ⟨_, e2, e3⟩ := one_end (k := 0) (a := 0) (b := 0) (n := 0) hb hp hw (Rd.nil w2 _) h2 (fun g off e => by injection e with e; injection e with e; omega)
  exact ⟨⟨0, 0, 0, none, [], 0⟩, _, 1, [X], rfl, rfl, rfl, Rd.nil _ _, e2, e3, fun g off e => by injection e with e; injection e with e; omega⟩

set_option maxRecDepth 100000 in
set_option maxHeartbeats 2000000 in
theorem dinCmd_any (u : UInt8) (z : Int) (hz : z = (u.toNat : Int)) (w : World) : Calls Try.prog 40 #[.int .u8 z] w (GotOne w (sCmd u)) := by
  obtain ⟨z0, z1⟩ := u8_rng u z hz
  have HI := keepd in_any
  have HD := keepd (fun w => ddata_any z ⟨z0, z1⟩ w)
  unfold sCmd
  by_cases h1 : u = 255
  · rw [if_pos h1]
    obtain rfl := u8_is u 255 z 255 hz rfl h1
    clear hz
    go_enter Try.func40, Try.ntmps40
    go_wp2_with fail
    with_reducible refine (HI.out 0 _).mono ?_
    rintro e w1 ⟨rfl, hb⟩
    have q := (SR.new 24 w [.int .i64 0, .int .i64 0, .int .i64 0, .slice none 0 0]).call hb (by simp)
    have HQ := keepd q
    have HB := keepd (upA hb)
    clear hb q
    go_wp2_with fail
    with_reducible refine (HD.out _).mono ?_
    rintro e w2 ⟨rfl, hI, hb2⟩
    have q := HQ.out.call hb2 HQ.out.lt
    obtain ⟨⟨c0, c1, c2, c3⟩, f0, f1, f2, f3⟩ := q.facts4
    have HE := keepd (one_end (v := zeroI) (k := 0) (a := 0) (b := 0) (n := 0) (bCall HB.out hb2) q (Nat.le_refl _) (Rd.nil w2 _) hI (fun g off e => by injection e with e; injection e with e; have := HQ.out.lt; omega))
    clear hb2 q hI
    go_wp2
    refine bodyPost_ret (v := .tuple #[.agg #[.int .i64 0, .int .i64 0, .int .i64 0, .slice none 0 0], .slice (some ⟨w1.heap.size, 0, none⟩) 1 1]) (by simp [results, Try.results40, go_sem, c0, c1, c2, c3]) rfl ?_
    exact ⟨⟨0, 0, 0, none, [], 0⟩, _, 1, [lone 1 255 0], rfl, rfl, rfl, HE.out.1, HE.out.2.1, HE.out.2.2, fun g off e => by injection e with e; injection e with e; have := HB.out.size; omega⟩
  rw [if_neg h1]
  have g1 := u8_isnt u 255 z 255 hz rfl h1
  rw [← hz]
  by_cases h2 : 251 ≤ z
  · have hv : verbB z = true := by
      have : z ≠ 255 := by simpa using g1
      exact decide_eq_true (by omega)
    have g2 : decide (z ≥ 251) = true := by simpa using h2
    rw [hv, if_pos rfl]
    have HE := keepd (one_end (v := zeroI) (k := 3) (a := z) (b := 0) (n := 0) (bAlloc (Below.refl w.heap.size w) _) (SR.new 24 w [.int .i64 0, .int .i64 0, .int .i64 0, .slice none 0 0]) (Nat.le_refl _) (Rd.nil _ _) (RdI.nil _) (fun g off e => by cases e))
    clear hz h1 hv
    go_enter Try.func40, Try.ntmps40
    go_wp2
    refine bodyPost_ret (v := .tuple #[.agg #[.int .i64 3, .int .i64 z, .int .i64 0, .slice none 0 0], .slice none 0 0]) (by simp [results, Try.results40, go_sem]) rfl ?_
    exact ⟨⟨3, z, 0, none, [], 0⟩, none, 0, [], rfl, rfl, rfl, Rd.nil _ _, RdI.nil _, bAlloc (Below.refl _ _) _, fun g off e => by cases e⟩
  have hv : verbB z = false := decide_eq_false (by omega)
  have g2 : decide (z ≥ 251) = false := by simpa using h2
  rw [hv, if_neg (by decide)]
  by_cases h3 : u = 250
  · rw [if_pos h3]
    obtain rfl := u8_is u 250 z 250 hz rfl h3
    clear hz hv
    go_enter Try.func40, Try.ntmps40
    go_wp2_with fail
    with_reducible refine (HI.out 4 _).mono ?_
    rintro e w1 ⟨rfl, hb⟩
    have q := (SR.new 24 w [.int .i64 0, .int .i64 0, .int .i64 0, .slice none 0 0]).call hb (by simp)
    obtain ⟨⟨c0, c1, c2, c3⟩, f0, f1, f2, f3⟩ := q.facts4
    have HE := keepd (one_end (v := zeroI) (k := 4) (a := 0) (b := 0) (n := 0) (upA hb) q (Nat.le_refl _) (Rd.nil w1 _) (RdI.nil w1) (fun g off e => by cases e))
    clear hb q
    go_wp2
    refine bodyPost_ret (v := .tuple #[.agg #[.int .i64 4, .int .i64 0, .int .i64 0, .slice none 0 0], .slice none 0 0]) (by simp [results, Try.results40, go_sem, c0, c1, c2, c3]) rfl ?_
    exact ⟨⟨4, 0, 0, none, [], 0⟩, none, 0, [], rfl, rfl, rfl, HE.out.1, HE.out.2.1, HE.out.2.2, fun g off e => by cases e⟩
  rw [if_neg h3]
  have g3 := u8_isnt u 250 z 250 hz rfl h3
  obtain ⟨v2, hv2⟩ : ∃ v, cmdB z = v := ⟨_, rfl⟩
  have HC := keepd (fun w => may_any 2 z 0 none 0 0 w)
  rw [may_cmd, hv2] at HC
  rw [hv2]
  clear hz hv hv2
  have HX : Hid (∀ w1 : World, Below ((w.alloc (.cells #[.int .i64 0, .int .i64 0, .int .i64 0, .slice none 0 0] 24)).alloc (.cells #[.int .i64 2, .int .i64 z, .int .i64 0, .slice none 0 0] 41)).heap.size ((w.alloc (.cells #[.int .i64 0, .int .i64 0, .int .i64 0, .slice none 0 0] 24)).alloc (.cells #[.int .i64 2, .int .i64 z, .int .i64 0, .slice none 0 0] 41)) w1 →
      SR 24 w1 w.heap.size [.int .i64 0, .int .i64 0, .int .i64 0, .slice none 0 0] ∧ SR 41 w1 (w.heap.size + 1) [.int .i64 2, .int .i64 z, .int .i64 0, .slice none 0 0] ∧ Below w.heap.size w w1) := by
    intro w1 hb
    refine ⟨((SR.new 24 w [.int .i64 0, .int .i64 0, .int .i64 0, .slice none 0 0]).alloc _).call hb (by simp; omega), ?_, upA (upA hb)⟩
    have := (SR.new 41 (w.alloc (.cells #[.int .i64 0, .int .i64 0, .int .i64 0, .slice none 0 0] 24)) [.int .i64 2, .int .i64 z, .int .i64 0, .slice none 0 0]).call hb (by simp)
    rw [World.size_alloc] at this
    exact this
  cases v2
  · rw [if_neg (by decide)]
    go_enter Try.func40, Try.ntmps40
    go_wp2_with fail
    with_reducible refine (HC.out _).mono ?_
    rintro e w1 ⟨rfl, hb⟩
    obtain ⟨q, _, hbw⟩ := HX.out w1 hb
    have HQ := keepd q
    have HB := keepd hbw
    clear hb q hbw
    go_wp2_with fail
    with_reducible refine (HI.out 0 _).mono ?_
    rintro e w2 ⟨rfl, hb2⟩
    have q := HQ.out.call hb2 HQ.out.lt
    obtain ⟨⟨c0, c1, c2, c3⟩, f0, f1, f2, f3⟩ := q.facts4
    have HE := keepd (one_end (v := zeroI) (k := 0) (a := 0) (b := 0) (n := 0) (bCall HB.out hb2) q (Nat.le_refl _) (Rd.nil w2 _) (RdI.nil w2) (fun g off e => by cases e))
    clear hb2 q
    go_wp2
    refine bodyPost_ret (v := .tuple #[.agg #[.int .i64 0, .int .i64 0, .int .i64 0, .slice none 0 0], .slice none 0 0]) (by simp [results, Try.results40, go_sem, c0, c1, c2, c3]) rfl ?_
    exact ⟨⟨0, 0, 0, none, [], 0⟩, none, 0, [], rfl, rfl, rfl, HE.out.1, HE.out.2.1, HE.out.2.2, fun g off e => by cases e⟩
  · rw [if_pos rfl]
    go_enter Try.func40, Try.ntmps40
    go_wp2_with fail
    with_reducible refine (HC.out _).mono ?_
    rintro e w1 ⟨rfl, hb⟩
    obtain ⟨q, qx, hbw⟩ := HX.out w1 hb
    obtain ⟨⟨c0, c1, c2, c3⟩, f0, f1, f2, f3⟩ := q.facts4
    obtain ⟨⟨x0, x1, x2, x3⟩, _⟩ := qx.facts4
    have y0 := q.lt
    have y1 := qx.lt
    have HQ := keepd q
    have HQX := keepd qx
    have HB := keepd hbw
    clear hb q qx hbw
    go_wp2_with fail
    go_region_with (first | (go_at_call 39; (with_reducible refine (HI.out 0 _).mono ?_); rintro e w2 ⟨rfl, hb2⟩; have hB2 : Below w1.heap.size w1 w2 := (by first | exact noDrew hb2 | exact upD hb2); obtain ⟨⟨p0, p1, p2, p3⟩, r0, r1, r2, r3⟩ := (HQ.out.call hB2 HQ.out.lt).facts4; obtain ⟨⟨s0, s1, s2, s3⟩, _⟩ := (HQX.out.call hB2 HQX.out.lt).facts4; have t0 := Nat.lt_of_lt_of_le y0 hB2.size))
    all_goals
      go_wp2_with fail
      first
        | (refine bodyPost_ret (v := .tuple #[.agg #[.int .i64 0, .int .i64 0, .int .i64 0, .slice none 0 0], .slice (some ⟨w2.heap.size, 0, none⟩) 1 1]) ?_ rfl ?_
           · (simp [results, Try.results40, go_sem, p0, p1, p2, p3, t0]; done)
           exact one_endA (X := lone 2 z 0) (v := zeroI) (HQ.out.call hB2 HQ.out.lt) (bCall HB.out hB2) (Nat.le_refl _) (Rd.nil _ _))
        | (refine bodyPost_ret (v := .tuple #[.agg #[.int .i64 0, .int .i64 0, .int .i64 0, .slice none 0 0], .slice (some ⟨w1.heap.size, 0, none⟩) 1 1]) ?_ rfl ?_
           · (simp [results, Try.results40, go_sem, p0, p1, p2, p3]; done)
           exact one_endB (X := lone 2 z 0) (v := zeroI) (HQ.out.call hB2 HQ.out.lt) (bCall HB.out hB2) (Nat.le_refl _) hb2 y0 (Rd.nil _ _))

end Go.Proofs.Ytmgkfibkeonpmaa
