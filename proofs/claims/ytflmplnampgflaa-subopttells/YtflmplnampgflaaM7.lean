/-
  The contracts of the document's own Get, and of Octets. No conditions beyond those each theorem states.
-/
import Derived.Test.YtflmplnampgflaaM4
namespace Go.Proofs.Ytflmplnampgflaa
open Go.RowKit
set_option maxRecDepth 100000

attribute [local go_sem ↓] ex_ld23 ex_st23 ex_al23 ex_bu23 ex_eq23 ex_ne23
attribute [local go_sem] ptrB_at okPtr_at aggC_at agg32 isM_at eqV_m isRow_new World.setRow_alloc_new

theorem moctets_any (A A' : Option Addr) (l l' : List UInt8) (n n' c c' B : Nat) (w : World) (hn : n = l.length) (hn' : n' = l'.length) (h : Rd w B A l c) (h' : Rd w B A' l' c') :
    Calls Try.prog 19 #[.slice A n c, .slice A' n' c'] w fun e w' => e = .returned (.bool (l == l')) ∧ w' = w := by
  subst hn hn'
  have k1 := conv_str h
  have k2 := conv_str h'
  clear h h'
  go_enter Try.func19, Try.ntmps19
  go_wp2
  go_ret
  exact ⟨rfl, rfl⟩

/-- The document's mask of octets, and whether there are not too many. -/
def getR (b : List UInt8) : Mk × Bool := if b.length ≤ 32 then (padM b, true) else (zM, false)
theorem pad_nil (b : List UInt8) : padM (b.take 0) = zM := by
  rw [List.take_zero]
  rfl
theorem pad_next {b : List UInt8} (hb : b.length ≤ 32) {k : Nat} (hk : k < b.length) : (padM (b.take k)).set k b[k] = padM (b.take (k + 1)) := by
  refine Mk.ext_at fun i hi => ?_
  have h1 : (b.take k).length ≤ 32 := by rw [List.length_take]; omega
  have h2 : (b.take (k + 1)).length ≤ 32 := by rw [List.length_take]; omega
  rw [at_set _ (by omega), padM_at i h1, padM_at i h2]
  simp only [List.getD_eq_getElem?_getD, List.getElem?_take]
  by_cases e : i = k
  · subst e
    rw [if_pos rfl, if_pos (by omega), List.getElem?_eq_getElem hk]
    rfl
  · rw [if_neg e]
    by_cases h : i < k
    · rw [if_pos h, if_pos (by omega)]
    · rw [if_neg h, if_neg (by omega)]

set_option maxHeartbeats 1000000 in
theorem refGet_any (A : Option Addr) (b : List UInt8) (n c : Nat) (hn : n = b.length) (w : World) (hr : Rd w w.heap.size A b c) (X : Mk) (ok : Bool) (hX : getR b = (X, ok)) :
    Calls Try.prog 26 #[.slice A n c] w fun e w' => e = .returned (.tuple #[mv X, .bool ok]) ∧ Below w.heap.size w w' := by
  obtain ⟨b1, b3⟩ := hr.len
  unfold maxLen at b3
  rw [← hn] at b1
  have HN := keepd hn
  have HR := keepd hr
  have HX := keepd hX
  clear hr hX
  go_enter Try.func26, Try.ntmps26
  go_upto_region 1 with fail
  generalize hW : w.alloc (.cells (ms zM).toArray 23) = V
  obtain ⟨g1, g2, g4⟩ := one_new _ _ _ _ hW
  have G4 := keepd g4
  clear hW g4
  go_upto_region 2 with fail
  obtain ⟨W, hW⟩ : ∃ W, V.alloc (.cells (ms zM).toArray 23) = W := ⟨_, rfl⟩
  obtain ⟨h1, h3, h4⟩ : MB W w.heap.size zM ∧ MB W V.heap.size zM ∧ Below w.heap.size w W := by
    subst hW
    exact ⟨SR.alloc g1 _, SR.new 23 V _, bAlloc g2 _⟩
  rw [hW]
  obtain ⟨b2, hb2⟩ : ∃ b, V.heap.size = b := ⟨_, rfl⟩
  rw [hb2] at h3 G4 ⊢
  clear hW g1 g2 hb2
  by_cases h : n ≤ 32
  · have e := HX.out
    unfold getR at e
    rw [if_pos (by rw [← hn]; exact h), Prod.mk.injEq] at e
    obtain ⟨rfl, rfl⟩ := e
    have g1 : decide (32 < (n : Int)) = false := decide_eq_false (by omega)
    have h32 : b.length ≤ 32 := by omega
    rw [← pad_nil b] at h3
    have H1 := keepd h1
    have H3 := keepd h3
    have HB := keepd h4
    have H32 := keepd h32
    clear h1 h3 h4 hn HX h32
    go_wp2_with fail
    go_loopw [5] (fun vi wr => ∃ k : Nat, k ≤ n ∧ vi = .int .i64 k ∧ Hid (MB wr w.heap.size zM) ∧ Hid (MB wr b2 (padM (b.take k))) ∧ Hid (Below w.heap.size w wr)) (fun vi _ => n - (intOf vi).toNat)
    case atStart => exact ⟨0, by omega, rfl, H1, H3, HB⟩
    case round =>
      clear H1 H3 HB g1
      obtain ⟨k, hk, rfl, H1, H3, HB⟩ := hrel
      by_cases hlt : k < n
      · have hkl : k < b.length := by rw [← HN.out]; exact hlt
        obtain ⟨b', off', hA', hbl, hce⟩ := (HR.out.at_ HB.out).form hkl
        subst hA'
        have HS := keepd (pad_next H32.out hkl)
        have i1 : (0 : Int) ≤ (k : Int) := by omega
        have i2 : (k : Int) < (n : Int) := by omega
        have i3 : (k : Int) < 32 := by omega
        obtain ⟨u, hu⟩ : ∃ u, b[k] = u := ⟨_, rfl⟩
        rw [hu] at hce HS
        have hc := MB.at H3.out (i := k) (by omega)
        have hf := SR.frozen H3.out k
        have q1 : w.heap.size ≠ b2 := by
          have := G4.out
          omega
        have H12 := keepd (SR.far (p := ⟨b2, k, none⟩) H1.out (by show w.heap.size ≠ b2; exact q1) (.int .u8 (u.toNat : Int)))
        have h32 := MB.put H3.out k u
        rw [HS.out] at h32
        have H33 := keepd h32
        have HB2 := keepd (bSet (i := k) HB.out (b := b2) (by have := G4.out; omega) (.int .u8 (u.toNat : Int)))
        clear h32 HS q1 hbl hu
        go_wp2_with fail
        go_roundw
        case rel => exact ⟨k + 1, by omega, by go_num, H12, H33, HB2⟩
        case measure => simp [intOf]; omega
      · obtain rfl : k = n := by omega
        have e : b.take k = b := List.take_of_length_le (by rw [← HN.out]; omega)
        rw [e] at H3
        clear e
        obtain ⟨r1, k1⟩ := MB.facts H1.out
        obtain ⟨r3, k3⟩ := MB.facts H3.out
        go_wp2_with fail
        exact bodyPost_ret (results_m2 Try.results26 _ _ w.heap.size (padM b) rfl (SR.row H1.out _)) rfl ⟨rfl, bRow HB.out (by omega) _⟩
  · have e := HX.out
    unfold getR at e
    rw [if_neg (by rw [← hn]; exact h), Prod.mk.injEq] at e
    obtain ⟨rfl, rfl⟩ := e
    have g1 : decide (32 < (n : Int)) = true := decide_eq_true (by omega)
    obtain ⟨r1, k1⟩ := MB.facts h1
    obtain ⟨r3, k3⟩ := MB.facts h3
    have H1 := keepd h1
    have HB := keepd h4
    clear h1 h3 h4 hn HX
    go_wp2_with fail
    exact bodyPost_ret (results_m2 Try.results26 _ _ w.heap.size zM rfl (SR.row H1.out _)) rfl ⟨rfl, bRow HB.out (by omega) _⟩

end Go.Proofs.Ytflmplnampgflaa
