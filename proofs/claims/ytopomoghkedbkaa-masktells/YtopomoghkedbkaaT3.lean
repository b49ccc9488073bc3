/-
  The contracts of Few and Of. No conditions beyond those each theorem states.
-/
import Derived.Test.YtopomoghkedbkaaT2
namespace Go.Proofs.Ytopomoghkedbkaa
open Go.RowKit
set_option maxRecDepth 100000

attribute [local go_sem ↓] ex_ld23 ex_st23 ex_al23 ex_bu23 ex_eq23 ex_ne23 ex_ld45 ex_st45 ex_al45 ex_bu45
attribute [local go_sem] ptrB_at okPtr_at aggC_at agg32 agg256 isM_at eqV_m isRow_new isRow_newr World.setRow_alloc_new

/-- What a law looks at of octets: 200 at the most. -/
def few (l : List UInt8) : List UInt8 := l.take 200
theorem few_len (l : List UInt8) : (few l).length ≤ 200 := by
  unfold few
  rw [List.length_take]
  omega

theorem few_any (A : Option Addr) (l : List UInt8) (c : Nat) (w0 w : World) (hr : Rd w0 w0.heap.size A l c) :
    Calls Try.prog 9 #[.slice A l.length c] w fun e w' => (∃ c', e = .returned (.slice A (few l).length c') ∧ Rd w0 w0.heap.size A (few l) c') ∧ w' = w := by
  obtain ⟨b1, b2⟩ := hr.len
  unfold maxLen at b2
  have HR := keepd hr
  obtain ⟨n, hn⟩ : ∃ n, l.length = n := ⟨_, rfl⟩
  rw [hn] at b1 ⊢
  by_cases h : 200 < n
  · have hl : (few l).length = 200 := by unfold few; rw [List.length_take]; omega
    have h2 : (200 : Int) ≤ (c : Int) := by omega
    have HL := keepd hl
    clear hn hr hl
    go_enter Try.func9, Try.ntmps9
    go_wp2
    go_ret
    exact ⟨⟨c, by rw [HL.out]; rfl, HR.out.take 200⟩, rfl⟩
  · have hl : few l = l := List.take_of_length_le (by omega)
    rw [hl, hn]
    clear hn hl
    go_enter Try.func9, Try.ntmps9
    go_wp2
    go_ret
    exact ⟨⟨c, rfl, HR.out⟩, rfl⟩

set_option maxHeartbeats 1000000 in
theorem of_any (A : Option Addr) (l : List UInt8) (n c : Nat) (hn : n = l.length) (hl : n ≤ 1000) (w : World) (hr : Rd w w.heap.size A l c) (X : Mk) (hX : ofM l = X) :
    Calls Try.prog 12 #[.slice A n c] w fun e w' => e = .returned (mv X) ∧ Below w.heap.size w w' := by
  have HN := keepd hn
  have HR := keepd hr
  have HX := keepd hX
  clear hr hn hX
  go_enter Try.func12, Try.ntmps12
  go_upto_region 2 with fail
  generalize hW : (w.alloc (.cells (ms zM).toArray 23)).alloc (.cells (ms zM).toArray 23) = W
  obtain ⟨h1, h2, h3, h4⟩ := two_new _ _ _ _ _ _ hW
  clear hW h4
  have H1 := keepd h1
  have H2 := keepd h2
  have HB := keepd h3
  clear h1 h2 h3
  go_wp2_with fail
  go_loopw [8] (fun vi wr => ∃ k : Nat, k ≤ n ∧ vi = .int .i64 k ∧ Hid (MB wr w.heap.size zM) ∧ Hid (MB wr (w.heap.size + 1) (ofM (l.take k))) ∧ Hid (Below w.heap.size w wr)) (fun vi _ => n - (intOf vi).toNat)
  case atStart => exact ⟨0, by omega, rfl, H1, H2, HB⟩
  case round =>
    clear H1 H2 HB
    obtain ⟨k, hk, rfl, H1, H2, HB⟩ := hrel
    by_cases hlt : k < n
    · have hkl : k < l.length := by rw [← HN.out]; exact hlt
      obtain ⟨b', off', hA', hbl, hce⟩ := (HR.out.at_ HB.out).form hkl
      subst hA'
      have hu := UInt8.toNat_lt l[k]
      have HS : Hid (setM (ofM (l.take k)) l[k].toNat true = ofM (l.take (k + 1))) := (ofM_take hkl).symm
      have HW := fun w => with_any (ofM (l.take k)) l[k].toNat hu true w
      rw [HS.out] at HW
      obtain ⟨r2, k2⟩ := MB.facts H2.out
      have i1 : (0 : Int) ≤ (k : Int) := by omega
      have i2 : (k : Int) < (n : Int) := by omega
      obtain ⟨Z, hZ⟩ : ∃ Z, ofM (l.take (k + 1)) = Z := ⟨_, rfl⟩
      rw [hZ] at HW
      have HZ := keepd hZ
      clear HS hu hZ
      generalize l[k].toNat = u at *
      generalize ofM (l.take k) = Y at *
      go_wp2_with (with_reducible refine (HW _).mono ?_; rintro e w2 ⟨rfl, hb⟩; obtain ⟨r3, k3⟩ := MB.facts (SR.call H2.out hb (SR.lt H2.out)))
      have h1 := SR.rowFar (SR.call H1.out hb (SR.lt H1.out)) (b' := w.heap.size + 1) (by omega) (ms Z).toArray
      have h2 := SR.row (SR.call H2.out hb (SR.lt H2.out)) (ms Z)
      have h3 := bRow (bCall HB.out hb) (b := w.heap.size + 1) (by omega) (ms Z).toArray
      go_roundw
      case rel => exact ⟨k + 1, by omega, by go_num, h1, by rw [HZ.out]; exact h2, h3⟩
      case measure => simp [intOf]; omega
    · obtain rfl : k = n := by omega
      have e : ofM (l.take k) = X := by rw [List.take_of_length_le (by rw [← HN.out]; omega)]; exact HX.out
      rw [e] at H2
      clear e
      obtain ⟨r1, k1⟩ := MB.facts H1.out
      obtain ⟨r2, k2⟩ := MB.facts H2.out
      go_wp2_with fail
      exact bodyPost_ret (results_m Try.results12 _ _ w.heap.size X rfl (SR.row H1.out _)) rfl ⟨rfl, bRow HB.out (by omega) _⟩

end Go.Proofs.Ytopomoghkedbkaa
