/-
  The contracts of the document's own Of and With. No conditions beyond those each theorem states.
-/
import Derived.Test.YtopomoghkedbkaaR3
import Derived.Test.YtopomoghkedbkaaT3
namespace Go.Proofs.Ytopomoghkedbkaa
open Go.RowKit
set_option maxRecDepth 100000

attribute [local go_sem ↓] ex_ld23 ex_st23 ex_al23 ex_bu23 ex_eq23 ex_ne23 ex_ld45 ex_st45 ex_al45 ex_bu45
attribute [local go_sem] ptrB_at okPtr_at aggC_at agg32 agg256 isM_at eqV_m isRow_new isRow_newr World.setRow_alloc_new

set_option maxHeartbeats 1000000 in
theorem refOf_any (A : Option Addr) (l : List UInt8) (n c : Nat) (hn : n = l.length) (w : World) (hr : Rd w w.heap.size A l c) (X : Mk) (hX : ofM l = X) :
    Calls Try.prog 13 #[.slice A n c] w fun e w' => e = .returned (mv X) ∧ Below w.heap.size w w' := by
  have HN := keepd hn
  have HR := keepd hr
  have b1 := hr.len
  rw [← hn] at b1
  obtain ⟨b1, b3⟩ := b1
  unfold maxLen at b3
  have HC := fun w => of_row (memB l) X ((maskOf_mem l).trans hX) w
  clear hr hn hX
  go_enter Try.func13, Try.ntmps13
  go_upto_region 1 with fail
  generalize hW : w.alloc (.cells (ms zM).toArray 23) = V
  obtain ⟨g1, g2, g4⟩ := one_new _ _ _ _ hW
  have G4 := keepd g4
  clear hW g4
  go_upto_region 2 with fail
  obtain ⟨W, hW⟩ : ∃ W, V.alloc (.cells (rb zR).toArray 45) = W := ⟨_, rfl⟩
  obtain ⟨h1, h3, h4⟩ : MB W w.heap.size zM ∧ RB W V.heap.size zR ∧ Below w.heap.size w W := by
    subst hW
    exact ⟨SR.alloc g1 _, SR.new 45 V _, bAlloc g2 _⟩
  rw [hW]
  obtain ⟨b2, hb2⟩ : ∃ b, V.heap.size = b := ⟨_, rfl⟩
  rw [hb2] at h3 G4 ⊢
  clear hW g1 g2 hb2
  have h33 : RB W b2 (memB (l.take 0)) := h3
  have H1 := keepd h1
  have H3 := keepd h33
  have HB := keepd h4
  clear h1 h3 h33 h4
  go_wp2_with fail
  go_loopw [4] (fun vi wr => ∃ k : Nat, k ≤ n ∧ vi = .int .i64 k ∧ Hid (MB wr w.heap.size zM) ∧ Hid (RB wr b2 (memB (l.take k))) ∧ Hid (Below w.heap.size w wr)) (fun vi _ => n - (intOf vi).toNat)
  case atStart => exact ⟨0, by omega, rfl, H1, H3, HB⟩
  case round =>
    clear H1 H3 HB
    obtain ⟨k, hk, rfl, H1, H3, HB⟩ := hrel
    by_cases hlt : k < n
    · have hkl : k < l.length := by rw [← HN.out]; exact hlt
      obtain ⟨b', off', hA', hbl, hce⟩ := (HR.out.at_ HB.out).form hkl
      subst hA'
      have hu := UInt8.toNat_lt l[k]
      have HS : Hid (fset (memB (l.take k)) l[k].toNat true = memB (l.take (k + 1))) := by
        show _ = _
        rw [fset_mem, List.take_succ_eq_append_getElem hkl]
      have i1 : (0 : Int) ≤ (k : Int) := by omega
      have i2 : (k : Int) < (n : Int) := by omega
      generalize l[k].toNat = u at *
      have hc := RB.at H3.out hu
      have hf := SR.frozen H3.out u
      have i3 : (0 : Int) ≤ (u : Int) := by omega
      have i4 : (u : Int) < 256 := by omega
      have q1 : w.heap.size ≠ b2 := by
        have := G4.out
        omega
      have H12 := keepd (SR.far (p := ⟨b2, u, none⟩) H1.out (by show w.heap.size ≠ b2; exact q1) (.bool true))
      have h32 := RB.put H3.out u true
      rw [HS.out] at h32
      have H32 := keepd h32
      have HB2 := keepd (bSet (i := u) HB.out (b := b2) (by have := G4.out; omega) (.bool true))
      clear h32 HS q1 hbl
      go_wp2_with fail
      go_roundw
      case rel => exact ⟨k + 1, by omega, by go_num, H12, H32, HB2⟩
      case measure => simp [intOf]; omega
    · obtain rfl : k = n := by omega
      have e : l.take k = l := List.take_of_length_le (by rw [← HN.out]; omega)
      rw [e] at H3
      clear e
      obtain ⟨r3, k3⟩ := RB.facts H3.out
      go_wp2_with (with_reducible refine (HC _).mono ?_; rintro e w2 ⟨rfl, hb⟩; obtain ⟨r1, k1⟩ := MB.facts (SR.call H1.out hb (SR.lt H1.out)))
      exact bodyPost_ret (results_m Try.results13 _ _ w.heap.size X rfl (SR.row (SR.call H1.out hb (SR.lt H1.out)) _)) rfl ⟨rfl, bRow (bCall HB.out hb) (by omega) _⟩

set_option maxHeartbeats 1000000 in
theorem refWith_any (X : Mk) (n : Nat) (hn : n < 256) (on : Bool) (w : World) : Calls Try.prog 17 #[mv X, .int .u8 (n : Int), .bool on] w fun e w' => e = .returned (mv (setM X n on)) ∧ Below w.heap.size w w' := by
  have HC := fun w => of_row (fset (has X) n on) (setM X n on) (maskOf_fset X hn on) w
  have HR := fun w => row_any X w
  generalize setM X n on = Z at *
  go_enter Try.func17, Try.ntmps17
  go_upto_region 1 with fail
  generalize hW : (w.alloc (.cells (ms X).toArray 23)).alloc (.cells (ms zM).toArray 23) = V
  obtain ⟨g1, g2, g3, g4⟩ := two_new _ _ _ _ _ _ hW
  obtain ⟨r1, k1⟩ := MB.facts g1
  have G2 := keepd g2
  have G3 := keepd g3
  have G4 := keepd g4
  clear hW g1 g2 g3 g4
  go_upto_region 2 with (with_reducible refine (HR _).mono ?_; rintro e w2 ⟨rfl, hb⟩)
  obtain ⟨W, hW⟩ : ∃ W, w2.alloc (.cells (rb (has X)).toArray 45) = W := ⟨_, rfl⟩
  obtain ⟨h2, h3, h4⟩ : MB W (w.heap.size + 1) zM ∧ RB W w2.heap.size (has X) ∧ Below w.heap.size w W := by
    subst hW
    exact ⟨SR.alloc (SR.call G2.out hb (SR.lt G2.out)) _, SR.new 45 w2 _, bAlloc (bCall G3.out hb) _⟩
  have hs : w.heap.size + 2 ≤ w2.heap.size := by
    have h1 := hb.size
    have h2 := G4.out
    omega
  rw [hW]
  obtain ⟨b2, hb2⟩ : ∃ b, w2.heap.size = b := ⟨_, rfl⟩
  rw [hb2] at h3 hs ⊢
  clear hW hb2 r1 k1 hb G2 G3 G4
  have hc := RB.at h3 hn
  have hf := SR.frozen h3 n
  have i3 : (0 : Int) ≤ (n : Int) := by omega
  have i4 : (n : Int) < 256 := by omega
  have H2 := keepd h2
  have H3 := keepd h3
  have HB := keepd h4
  clear h2 h3 h4
  go_upto_region 3 with fail
  generalize hW : W.setCell ⟨b2, n, none⟩ (.bool on) = W2
  obtain ⟨h2, h3, h4⟩ : MB W2 (w.heap.size + 1) zM ∧ RB W2 b2 (fset (has X) n on) ∧ Below w.heap.size w W2 := by
    subst hW
    exact ⟨SR.far (p := ⟨b2, n, none⟩) H2.out (by show w.heap.size + 1 ≠ b2; omega) _, RB.put H3.out n on, bSet HB.out (by omega) _⟩
  obtain ⟨r3, k3⟩ := RB.facts h3
  have H2 := keepd h2
  have HB := keepd h4
  clear hW h2 h3 h4 hc hf H3
  go_wp2_with (with_reducible refine (HC _).mono ?_; rintro e w3 ⟨rfl, hb⟩; obtain ⟨r1, k1⟩ := MB.facts (SR.call H2.out hb (SR.lt H2.out)))
  exact bodyPost_ret (results_m Try.results17 _ _ (w.heap.size + 1) Z rfl (SR.row (SR.call H2.out hb (SR.lt H2.out)) _)) rfl ⟨rfl, bRow (bCall HB.out hb) (by omega) _⟩

end Go.Proofs.Ytopomoghkedbkaa
