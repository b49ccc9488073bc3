/-
  The contract of the document's own of: the mask of a row of bools. No conditions beyond those each theorem states.
-/
import Derived.Test.YtopomoghkedbkaaT2
namespace Go.Proofs.Ytopomoghkedbkaa
open Go.RowKit
set_option maxRecDepth 100000

attribute [local go_sem ↓] ex_ld23 ex_st23 ex_al23 ex_bu23 ex_eq23 ex_ne23 ex_ld45 ex_st45 ex_al45 ex_bu45
attribute [local go_sem] ptrB_at okPtr_at aggC_at agg32 agg256 isM_at eqV_m isRow_new isRow_newr World.setRow_alloc_new

theorem dbl_all : ∀ x : Fin 256, IntKind.u8.wrap (2 * ((UInt8.ofNat x.1).toNat : Int)) = ((2 * UInt8.ofNat x.1).toNat : Int) ∧ IntKind.u8.wrap (((UInt8.ofNat x.1).toNat : Int) + 1) = ((UInt8.ofNat x.1 + 1).toNat : Int) := by decide +kernel
theorem dbl (x : UInt8) : IntKind.u8.wrap (2 * (x.toNat : Int)) = ((2 * x).toNat : Int) ∧ IntKind.u8.wrap ((x.toNat : Int) + 1) = ((x + 1).toNat : Int) :=
  allU (p := fun x => IntKind.u8.wrap (2 * (x.toNat : Int)) = ((2 * x).toNat : Int) ∧ IntKind.u8.wrap ((x.toNat : Int) + 1) = ((x + 1).toNat : Int)) dbl_all x

theorem three_new (w : World) (t t' t'' : TypeId) (a b c : List Value) (W : World) (h : ((w.alloc (.cells a.toArray t)).alloc (.cells b.toArray t')).alloc (.cells c.toArray t'') = W) :
    SR t W w.heap.size a ∧ SR t' W (w.heap.size + 1) b ∧ SR t'' W (w.heap.size + 1 + 1) c ∧ Below w.heap.size w W ∧ W.heap.size = w.heap.size + 3 := by
  subst h
  exact ⟨((SR.new t w a).alloc _).alloc _, SR.alloc (heap_alloc2_new w _ _) _, n4 w _ _ _, bAlloc (bAlloc (bAlloc (Below.refl _ _) _) _) _, by simp⟩

set_option maxHeartbeats 1000000 in
theorem of_row (f : Nat → Bool) (X : Mk) (hX : maskOf f = X) (w : World) : Calls Try.prog 24 #[rv f] w fun e w' => e = .returned (mv X) ∧ Below w.heap.size w w' := by
  have HX := keepd hX
  clear hX
  go_enter Try.func24, Try.ntmps24
  go_upto_region 1 with fail
  generalize hW : (w.alloc (.cells (rb f).toArray 45)).alloc (.cells (ms zM).toArray 23) = V
  obtain ⟨g1, g2, g3, g4⟩ := two_new _ _ _ _ _ _ hW
  have G4 := keepd g4
  clear hW g4
  go_upto_region 2 with fail
  obtain ⟨W, hW⟩ : ∃ W, V.alloc (.cells (ms zM).toArray 23) = W := ⟨_, rfl⟩
  obtain ⟨h1, h2, h3, h4⟩ : RB W w.heap.size f ∧ MB W (w.heap.size + 1) zM ∧ MB W V.heap.size zM ∧ Below w.heap.size w W := by
    subst hW
    exact ⟨SR.alloc g1 _, SR.alloc g2 _, SR.new 23 V _, bAlloc g3 _⟩
  rw [hW]
  obtain ⟨b2, hb2⟩ : ∃ b, V.heap.size = b := ⟨_, rfl⟩
  rw [hb2] at h3 G4 ⊢
  clear hW g1 g2 g3 hb2
  rw [← partM_zero f] at h3
  have H1 := keepd h1
  have H2 := keepd h2
  have H3 := keepd h3
  have HB := keepd h4
  clear h1 h2 h3 h4
  go_wp2_with fail
  go_loopw [4] (fun vi wr => ∃ k : Nat, k ≤ 256 ∧ vi = .int .i64 k ∧ Hid (RB wr w.heap.size f) ∧ Hid (MB wr (w.heap.size + 1) zM) ∧ Hid (MB wr b2 (partM f k)) ∧ Hid (Below w.heap.size w wr)) (fun vi _ => 256 - (intOf vi).toNat)
  case atStart => exact ⟨0, by omega, rfl, H1, H2, H3, HB⟩
  case round =>
    clear H1 H2 H3 HB
    obtain ⟨k, hk, rfl, H1, H2, H3, HB⟩ := hrel
    by_cases hlt : k < 256
    · have HN := keepd (partM_next f hlt)
      obtain ⟨d, hd⟩ : ∃ d, k / 8 = d := ⟨_, rfl⟩
      have hd2 : d < 32 := by omega
      have e1 : (k : Int) / 8 = (d : Int) := by omega
      have e2 : Int.tdiv (k : Int) 8 = (d : Int) := by
        rw [Int.tdiv_eq_ediv_of_nonneg (by omega)]
        exact e1
      rw [hd] at HN
      clear hd
      have hc := MB.at H3.out hd2
      have hf := SR.frozen H3.out d
      have i0 : (0 : Int) ≤ (k : Int) := by omega
      have i1 : (0 : Int) ≤ (d : Int) := by omega
      have i2 : (d : Int) < 32 := by omega
      have i3 : (k : Int) < 256 := by omega
      obtain ⟨Z, hZ⟩ : ∃ Z, partM f (k + 1) = Z := ⟨_, rfl⟩
      rw [hZ] at HN
      have HZ := keepd hZ
      generalize partM f k = Y at *
      obtain ⟨x, hx⟩ : ∃ x, Y.at d = x := ⟨_, rfl⟩
      rw [hx] at hc HN
      have hy := (dbl x).1
      obtain ⟨y, hyy⟩ : ∃ y, 2 * x = y := ⟨_, rfl⟩
      rw [hyy] at hy HN
      clear hZ hx hyy
      go_upto_region 6 with fail
      generalize hW : wr.setCell ⟨b2, d, none⟩ (.int .u8 (y.toNat : Int)) = W2
      obtain ⟨h1, h2, h3, h4⟩ : RB W2 w.heap.size f ∧ MB W2 (w.heap.size + 1) zM ∧ MB W2 b2 (Y.set d y) ∧ Below w.heap.size w W2 := by
        subst hW
        exact ⟨SR.far (p := ⟨b2, d, none⟩) H1.out (by have := G4.out; show w.heap.size ≠ b2; omega) _, SR.far (p := ⟨b2, d, none⟩) H2.out (by have := G4.out; show w.heap.size + 1 ≠ b2; omega) _, MB.put H3.out d y, bSet HB.out (by have := G4.out; omega) _⟩
      have hc2 := RB.at h1 hlt
      clear hW hc hf H1 H2 H3 HB e2 hy
      have H1 := keepd h1
      have H2 := keepd h2
      have HB := keepd h4
      obtain ⟨g, hg⟩ : ∃ g, f k = g := ⟨_, rfl⟩
      rw [hg] at hc2 HN
      clear hg h1 h2 h4
      cases g
      · have e : Y.set d y = Z := by
          have := HN.out
          simpa using this
        rw [e] at h3
        have H3 := keepd h3
        clear h3 e HN
        go_wp2_with fail
        go_roundw
        case rel => exact ⟨k + 1, by omega, by go_num, H1, H2, by rw [HZ.out]; exact H3, HB⟩
        case measure => simp [intOf]; omega
      · have hc3 := MB.at h3 hd2
        have hf3 := SR.frozen h3 d
        rw [at_set _ hd2, if_pos rfl] at hc3
        have e : Y.set d (y + 1) = Z := by
          have := HN.out
          simpa using this
        have hy := (dbl y).2
        have H3 := keepd h3
        obtain ⟨y1, hy1⟩ : ∃ y1, y + 1 = y1 := ⟨_, rfl⟩
        rw [hy1] at hy e
        have h33 : MB (W2.setCell ⟨b2, d, none⟩ (.int .u8 (y1.toNat : Int))) b2 Z := by
          have := MB.put H3.out d y1
          rwa [set_set, e] at this
        have H33 := keepd h33
        have H11 := keepd (SR.far (p := ⟨b2, d, none⟩) H1.out (by have := G4.out; show w.heap.size ≠ b2; omega) (.int .u8 (y1.toNat : Int)))
        have H22 := keepd (SR.far (p := ⟨b2, d, none⟩) H2.out (by have := G4.out; show w.heap.size + 1 ≠ b2; omega) (.int .u8 (y1.toNat : Int)))
        have HBB := keepd (bSet (i := d) HB.out (b := b2) (by have := G4.out; omega) (.int .u8 (y1.toNat : Int)))
        clear h3 e HN hy1 h33
        go_wp2_with fail
        go_roundw
        case rel => exact ⟨k + 1, by omega, by go_num, H11, H22, by rw [HZ.out]; exact H33, HBB⟩
        case measure => simp [intOf]; omega
    · obtain rfl : k = 256 := by omega
      have e : partM f 256 = X := HX.out
      rw [e] at H3
      obtain ⟨r2, k2⟩ := MB.facts H2.out
      obtain ⟨r3, k3⟩ := MB.facts H3.out
      clear e
      go_wp2_with fail
      exact bodyPost_ret (results_m Try.results24 _ _ (w.heap.size + 1) X rfl (SR.row H2.out _)) rfl ⟨rfl, bRow HB.out (by omega) _⟩

end Go.Proofs.Ytopomoghkedbkaa
