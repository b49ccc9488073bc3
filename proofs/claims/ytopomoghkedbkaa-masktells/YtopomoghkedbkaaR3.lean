/-
  The contract of the document's own row: which keys a mask has. No conditions beyond those each theorem states.
-/
import Derived.Test.YtopomoghkedbkaaR1
import Derived.Test.YtopomoghkedbkaaR2
namespace Go.Proofs.Ytopomoghkedbkaa
open Go.RowKit
set_option maxRecDepth 100000

attribute [local go_sem ↓] ex_ld23 ex_st23 ex_al23 ex_bu23 ex_eq23 ex_ne23 ex_ld45 ex_st45 ex_al45 ex_bu45
attribute [local go_sem] ptrB_at okPtr_at aggC_at agg32 agg256 isM_at eqV_m isRow_new isRow_newr World.setRow_alloc_new

/-- A row of bools of a mask, of its first k. -/
def rowU (X : Mk) (k : Nat) : Nat → Bool := fun i => decide (i < k) && has X i
theorem rowU_zero (X : Mk) : rowU X 0 = zR := by
  funext i
  simp [rowU, zR]
theorem rowU_next (X : Mk) (k : Nat) : fset (rowU X k) k (has X k) = rowU X (k + 1) := by
  funext i
  unfold fset rowU
  by_cases e : i = k
  · subst e; simp
  · rw [if_neg e]
    congr 1
    rw [Bool.eq_iff_iff]
    simp
    omega
theorem rowU_all (X : Mk) : rb (rowU X 256) = rb (has X) := rb_congr fun i hi => by simp [rowU, hi]
theorem results_r {fn : Func} {p : Tmp} (h : fn.results = #[.cell p 45]) (tmps : Array Value) (w : World) (g : Nat) (f : Nat → Bool) (hp : tmps.getD p undef = .pointer (some ⟨g, 0, none⟩)) (hg : RB w g f) :
    (results fn tmps).run Try.prog w = .ok (rv f) w := by
  have hp' : tmps[p]?.getD undef = .pointer (some ⟨g, 0, none⟩) := by simpa using hp
  simp [results, h, hp', asAddr, run_loadVar_row w g 45 45 _ (0, 0) _ hg Try.underlying45 rfl (by rw [info45]; simp [rb_len])]

set_option maxHeartbeats 1000000 in
theorem row_any (X : Mk) (w : World) : Calls Try.prog 26 #[mv X] w fun e w' => e = .returned (rv (has X)) ∧ Below w.heap.size w w' := by
  go_enter Try.func26, Try.ntmps26
  go_upto_region 1 with fail
  generalize hW : (w.alloc (.cells (ms X).toArray 23)).alloc (.cells (rb zR).toArray 45) = V
  obtain ⟨g1, g2, g3, g4⟩ := two_new _ _ _ _ _ _ hW
  have G4 := keepd g4
  clear hW g4
  go_upto_region 2 with fail
  obtain ⟨W, hW⟩ : ∃ W, V.alloc (.cells (rb zR).toArray 45) = W := ⟨_, rfl⟩
  obtain ⟨h1, h2, h3, h4⟩ : MB W w.heap.size X ∧ RB W (w.heap.size + 1) zR ∧ RB W V.heap.size zR ∧ Below w.heap.size w W := by
    subst hW
    exact ⟨SR.alloc g1 _, SR.alloc g2 _, SR.new 45 V _, bAlloc g3 _⟩
  rw [hW]
  obtain ⟨b2, hb2⟩ : ∃ b, V.heap.size = b := ⟨_, rfl⟩
  rw [hb2] at h3 G4 ⊢
  clear hW g1 g2 g3 hb2
  rw [← rowU_zero X] at h3
  have H1 := keepd h1
  have H2 := keepd h2
  have H3 := keepd h3
  have HB := keepd h4
  clear h1 h2 h3 h4
  go_wp2_with fail
  go_loopw [4] (fun vi wr => ∃ k : Nat, k ≤ 256 ∧ vi = .int .i64 k ∧ Hid (MB wr w.heap.size X) ∧ Hid (RB wr (w.heap.size + 1) zR) ∧ Hid (RB wr b2 (rowU X k)) ∧ Hid (Below w.heap.size w wr)) (fun vi _ => 256 - (intOf vi).toNat)
  case atStart => exact ⟨0, by omega, rfl, H1, H2, H3, HB⟩
  case round =>
    clear H1 H2 H3 HB
    obtain ⟨k, hk, rfl, H1, H2, H3, HB⟩ := hrel
    by_cases hlt : k < 256
    · have hw := wrap_u8 hlt
      have HN := keepd (rowU_next X k)
      obtain ⟨m, hm⟩ : ∃ m, has X k = m := ⟨_, rfl⟩
      have HH := fun w => refHas_any X k hlt m hm w
      rw [hm] at HN
      obtain ⟨r1, k1⟩ := MB.facts H1.out
      have i0 : (0 : Int) ≤ (k : Int) := by omega
      have i3 : (k : Int) < 256 := by omega
      clear hm
      go_wp2_with (with_reducible refine (HH _).mono ?_; rintro e w2 ⟨rfl, hb⟩; have hc := RB.at (SR.call H3.out hb (SR.lt H3.out)) hlt; have hf := SR.frozen (SR.call H3.out hb (SR.lt H3.out)) k)
      have H12 := keepd (SR.far (p := ⟨b2, k, none⟩) (SR.call H1.out hb (SR.lt H1.out)) (by have := G4.out; show w.heap.size ≠ b2; omega) (.bool m))
      have H22 := keepd (SR.far (p := ⟨b2, k, none⟩) (SR.call H2.out hb (SR.lt H2.out)) (by have := G4.out; show w.heap.size + 1 ≠ b2; omega) (.bool m))
      have h32 := RB.put (SR.call H3.out hb (SR.lt H3.out)) k m
      rw [HN.out] at h32
      have H32 := keepd h32
      have HB2 := keepd (bSet (i := k) (bCall HB.out hb) (b := b2) (by have := G4.out; omega) (.bool m))
      go_roundw
      case rel => exact ⟨k + 1, by omega, by go_num, H12, H22, H32, HB2⟩
      case measure => simp [intOf]; omega
    · obtain rfl : k = 256 := by omega
      obtain ⟨r2, k2⟩ := RB.facts H2.out
      obtain ⟨r3, k3⟩ := RB.facts H3.out
      rw [rowU_all] at r3
      go_wp2_with fail
      exact bodyPost_ret (results_r Try.results26 _ _ (w.heap.size + 1) (has X) rfl (SR.row H2.out _)) rfl ⟨rfl, bRow HB.out (by omega) _⟩

end Go.Proofs.Ytopomoghkedbkaa
