/-
  Contracts over the document's answers for layer 4: One, where an item comes. No conditions beyond those each theorem states.
-/
import Derived.Test.YtmgkfibkeonpmaaQ7
namespace Go.Proofs.Ytmgkfibkeonpmaa
open Go.RowKit

theorem sK3 {V W : World} {b : Nat} {u1 u2 u3 : Value} (k1 : V.cell? ⟨b, 1, none⟩ = some u1) (k2 : V.cell? ⟨b, 2, none⟩ = some u2) (k3 : V.cell? ⟨b, 3, none⟩ = some u3) (h : Below (b + 1) V W) :
    W.cell? ⟨b, 1, none⟩ = some u1 ∧ W.cell? ⟨b, 2, none⟩ = some u2 ∧ W.cell? ⟨b, 3, none⟩ = some u3 ∧ Below (b + 1) V W :=
  ⟨(h.cell (p := ⟨b, 1, none⟩) (Nat.lt_succ_self b)).trans k1, (h.cell (p := ⟨b, 2, none⟩) (Nat.lt_succ_self b)).trans k2, (h.cell (p := ⟨b, 3, none⟩) (Nat.lt_succ_self b)).trans k3, h⟩

theorem wrap_i64 (z : Int) (h0 : 0 ≤ z) (h1 : z ≤ 255) : IntKind.i64.wrap z = z := by
  simp [IntKind.wrap, IntKind.signed, IntKind.bits]
  omega

set_option maxRecDepth 100000 in
set_option maxHeartbeats 2000000 in
theorem done_3 (a b : Int) (A : Option Addr) (l : List UInt8) (n c : Nat) (hn : n = l.length) (u : UInt8) (z : Int) (hz : z = (u.toNat : Int)) (w : World) (hr : Rd w w.heap.size A l c) :
    Calls Try.prog 22 #[.agg #[.int .i64 3, .int .i64 a, .int .i64 b, .slice A n c], .int .u8 z] w (GotOne w (inn 0, [⟨3, a, z, []⟩])) := by
  subst hn
  obtain ⟨z0, z1⟩ := u8_rng u z hz

  have hwz : IntKind.i64.wrap z = z := wrap_i64 z (by omega) (by omega)
  have HI := keepd in_any
  obtain ⟨F0, F1, F2, F3⟩ := oneV_facts w 3 a b A l.length c
  have HR := keepd (hr.at_ F2)
  have HQ := keepd F1
  have HQX := keepd F0
  have HB := keepd F2
  obtain ⟨⟨c0, c1, c2, c3⟩, f0, f1, f2, f3⟩ := F1.facts4
  obtain ⟨⟨x0, x1, x2, x3⟩, _⟩ := F0.facts4
  have y0 := F1.lt
  have K1 := keepd x1
  have K2 := keepd x2
  have K3 := keepd x3
  have xx : w.heap.size + 1 ≤ (oneV w 3 a b A l.length c).heap.size := by omega
  clear hz F0 F1 F2 F3 hr x0 x1 x2 x3
  go_enter Try.func22, Try.ntmps22
  go_wp2_with fail
  change Code.wp Try.prog _ _ _ (oneV w 3 a b A l.length c)
  generalize oneV w 3 a b A l.length c = w1 at *
  go_region_held3 (fun W => W.cell? ⟨w.heap.size, 1, none⟩ = some (.int .i64 a) ∧ W.cell? ⟨w.heap.size, 2, none⟩ = some (.int .i64 b) ∧ W.cell? ⟨w.heap.size, 3, none⟩ = some (.slice A l.length c) ∧ Below (w.heap.size + 1) w1 W)
    ((refine sK3 K1.out K2.out K3.out ?_; repeat (first | assumption | exact Below.refl _ _ | with_reducible refine Below.setCell ?_ (Nat.le_refl (w.heap.size + 1)) _ | with_reducible refine bAl xx ?_ _ | with_reducible refine Below.drew ?_)))
    (first | (go_at_call 39; (with_reducible refine (HI.out 0 _).mono ?_); rintro e w2 ⟨rfl, hb2⟩; have hB2 : Below w1.heap.size w1 w2 := (by first | exact noDrew hb2 | exact upD hb2); have hbs := hB2.mono xx; obtain ⟨⟨p0, p1, p2, p3⟩, r0, r1, r2, r3⟩ := (HQ.out.call hB2 HQ.out.lt).facts4; have t0 := Nat.lt_of_lt_of_le y0 hB2.size))
  all_goals
    go_wp2_with fail
    first
      | (refine bodyPost_ret (v := .tuple #[.agg #[.int .i64 0, .int .i64 0, .int .i64 0, .slice none 0 0], .slice (some ⟨w2.heap.size, 0, none⟩) 1 1]) ?_ rfl ?_
         · (simp [results, Try.results22, go_sem, p0, p1, p2, p3, t0]; done)
         exact one_endA (X := lone 3 a z) (v := zeroI) (HQ.out.call hB2 HQ.out.lt) (bCall HB.out hB2) (Nat.le_succ _) ((Rd.nil w1 w1.heap.size).at_ hB2))
      | (refine bodyPost_ret (v := .tuple #[.agg #[.int .i64 0, .int .i64 0, .int .i64 0, .slice none 0 0], .slice (some ⟨w1.heap.size, 0, none⟩) 1 1]) ?_ rfl ?_
         · (simp [results, Try.results22, go_sem, p0, p1, p2, p3]; done)
         exact one_endB (X := lone 3 a z) (v := zeroI) (HQ.out.call hB2 HQ.out.lt) (bCall HB.out hB2) (Nat.le_succ _) hb2 y0 (Rd.nil w1 w1.heap.size))




end Go.Proofs.Ytmgkfibkeonpmaa
