/-
  The contract of Get. No conditions beyond those each theorem states.
-/
import Derived.Test.YtflmplnampgflaaM1
namespace Go.Proofs.Ytflmplnampgflaa
open Go.RowKit
set_option maxRecDepth 100000

attribute [local go_sem ↓] ex_ld23 ex_st23 ex_al23 ex_bu23 ex_eq23 ex_ne23
attribute [local go_sem] ptrB_at okPtr_at aggC_at agg32 isM_at eqV_m isRow_new World.setRow_alloc_new

theorem splice_pad {b : List UInt8} (hb : b.length ≤ 32) : splice (ms zM) 0 (b.map bv) = ms (padM b) := by
  unfold splice ms
  rw [padM_eq hb, List.take_zero, List.nil_append, List.map_append, List.length_map, Nat.zero_add]
  unfold zM zeros
  rw [← List.map_drop, List.drop_replicate]

/-- The mask of octets, and the error. -/
def getF (b : List UInt8) : Mk × Int := if b.length ≤ 32 then (padM b, 0) else (zM, 3)

set_option maxHeartbeats 1000000 in
theorem mget_any (A : Option Addr) (b : List UInt8) (n c : Nat) (hn : n = b.length) (w : World) (hr : Rd w w.heap.size A b c) (X : Mk) (er : Int) (hX : getF b = (X, er)) :
    Calls Try.prog 47 #[.slice A n c] w fun e w' => e = .returned (.tuple #[mv X, .int .i64 er]) ∧ Below w.heap.size w w' := by
  obtain ⟨b1, b2⟩ := hr.len
  unfold maxLen at b2
  rw [← hn] at b1
  have HN := keepd hn
  have HR := keepd hr
  have HX := keepd hX
  clear hr hX
  go_enter Try.func47, Try.ntmps47
  go_upto_region 2 with fail
  generalize hW : (w.alloc (.cells (ms zM).toArray 23)).alloc (.cells (ms zM).toArray 23) = W
  obtain ⟨h1, h2, h3, h4⟩ := two_new _ _ _ _ _ _ hW
  clear hW
  have H1 := keepd h1
  have H2 := keepd h2
  have HB := keepd h3
  have H4 := keepd h4
  clear h1 h2 h3 h4
  by_cases h : n ≤ 32
  · have e := HX.out
    unfold getF at e
    rw [if_pos (by rw [← hn]; exact h), Prod.mk.injEq] at e
    obtain ⟨rfl, rfl⟩ := e
    have g1 : decide (32 < (n : Int)) = false := decide_eq_false (by omega)
    have HRW := keepd (HR.out.at_ HB.out)
    have h32 : b.length ≤ 32 := by omega
    have HP := keepd (splice_pad h32)
    clear hn HX
    have HC2 : Hid (W.heap[w.heap.size + 1]? = some (.cells (ms zM).toArray 23 (0, 0))) := H2.out
    go_wp2_with (with_reducible refine wpList_copy_splice rfl (.tmp 9) (.tmp 10) 27 27 rfl 5 Try.underlying27 size5 _ _ _ _ _ _ rfl rfl (w.heap.size + 1) 0 (ms zM) 23 HC2.out (b.map bv) ?_ ?_ ?_ ?_ (w.heap.size + 1) W (Below.refl _ _) (Nat.le_refl _) ?_)
    · rw [List.length_map, ← HN.out]
      exact (Nat.min_eq_left h).symm
    · intro hp
      obtain ⟨ad, e, hs⟩ := HRW.out.src (by rw [List.length_map]; exact hp)
      exact ⟨ad, e, fun j a h => hs j _ (by rw [List.getElem?_map, h]; rfl)⟩
    · rw [List.length_map, ms_len]
      omega
    · exact bv_one _
    intro w4 Hw4 hb4
    rw [HP.out] at Hw4
    have h1 := SR.call H1.out hb4 (by omega)
    have h2 : MB w4 (w.heap.size + 1) (padM b) := Hw4.out
    have h3 : Below w.heap.size w w4 := HB.out.trans (hb4.mono (by omega))
    obtain ⟨r1, k1⟩ := MB.facts h1
    obtain ⟨r2, k2⟩ := MB.facts h2
    have H1 := keepd h1
    have H3 := keepd h3
    clear h1 h2 h3 Hw4 hb4 H2 HP HRW
    go_wp2_with fail
    exact bodyPost_ret (results_m2 Try.results47 _ _ w.heap.size (padM b) rfl (SR.row H1.out _)) rfl ⟨rfl, bRow H3.out (by omega) _⟩
  · have e := HX.out
    unfold getF at e
    rw [if_neg (by rw [← hn]; exact h), Prod.mk.injEq] at e
    obtain ⟨rfl, rfl⟩ := e
    have g1 : decide (32 < (n : Int)) = true := decide_eq_true (by omega)
    obtain ⟨r1, k1⟩ := MB.facts H1.out
    clear hn HX
    go_wp2_with fail
    exact bodyPost_ret (results_m2 Try.results47 _ _ w.heap.size zM rfl (SR.row H1.out _)) rfl ⟨rfl, bRow HB.out (by omega) _⟩

end Go.Proofs.Ytflmplnampgflaa
