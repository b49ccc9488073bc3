/-
  The standard table's keys in memory; the contract of Standard. No conditions beyond those each theorem states.
-/
import Derived.Test.YtmjhagmniipcaaaDoorT5
namespace Go.Proofs.YtmjhagmniipcaaaDoor
open Go.RowKit
set_option maxRecDepth 100000

attribute [local go_sem ↓] ex_ld25 ex_st25 ex_al25 ex_bu25 ex_ix25 ex_eq25 ex_ne25 ex_eq23 ex_ne23
attribute [local go_sem] ptrB_at okPtr_at aggC_at agg62 isC_at isT_at eqV_t eqV_c isRow_new World.setRow_alloc_new

/-- Block 0 holds the standard table's keys. -/
def Laid (w : World) : Prop := (∀ i x, stdR[i]? = some x → w.cell? ⟨0, i, none⟩ = some (.int .u8 x)) ∧ 1 ≤ w.heap.size
theorem Laid.below {w w' : World} (h : Laid w) (hb : Below w.heap.size w w') : Laid w' :=
  ⟨fun i x hx => (hb.cell (p := ⟨0, i, none⟩) (Nat.lt_of_lt_of_le Nat.zero_lt_one h.2)).trans (h.1 i x hx), Nat.le_trans h.2 hb.size⟩
theorem Laid.alloc {w : World} (h : Laid w) (o : Obj) : Laid (w.alloc o) := h.below (bAlloc (Below.refl _ _) o)
theorem Laid.at {w : World} (h : Laid w) (k : Nat) (hk : k < 31) : w.cell? ⟨0, k, none⟩ = some (.int .u8 (stdR.getD k 0)) := by
  refine h.1 k _ ?_
  have hl : k < stdR.length := hk
  rw [List.getD_eq_getElem?_getD, List.getElem?_eq_getElem hl]
  rfl

/-- The standard table up to a function. -/
def uptoS (k : Nat) : Tb := fun j => if j < k then stdC j else ⟨0, 0⟩
theorem uptoS_zero : uptoS 0 = zT := by funext j; simp [uptoS, zT]
theorem uptoS_set (k : Nat) (h : stdR.getD k 0 ≠ 0) : tset (uptoS k) k ⟨2, stdR.getD k 0⟩ = uptoS (k + 1) := by
  funext j
  unfold tset uptoS
  by_cases hj : j = k
  · subst hj
    rw [if_pos rfl, if_pos (by omega)]
    unfold stdC
    rw [if_neg h]
  · rw [if_neg hj]
    by_cases h2 : j < k
    · rw [if_pos h2, if_pos (by omega)]
    · rw [if_neg h2, if_neg (by omega)]
theorem uptoS_not (k : Nat) (h : stdR.getD k 0 = 0) : uptoS k = uptoS (k + 1) := by
  funext j
  unfold uptoS
  by_cases hj : j = k
  · subst hj
    rw [if_neg (by omega), if_pos (by omega)]
    unfold stdC
    rw [if_pos h]
  · by_cases h2 : j < k
    · rw [if_pos h2, if_pos (by omega)]
    · rw [if_neg h2, if_neg (by omega)]
theorem uptoS_all : cs (uptoS 31) = cs stdT := cs_congr fun i hi => by simp [uptoS, stdT, hi]

theorem two_new (w : World) (X Y : Tb) (W : World) (h : (w.alloc (.cells (cs X).toArray 25)).alloc (.cells (cs Y).toArray 25) = W) :
    TB W w.heap.size X ∧ TB W (w.heap.size + 1) Y ∧ Below w.heap.size w W ∧ W.heap.size = w.heap.size + 2 := by
  subst h
  exact ⟨heap_alloc2_old w _ _, heap_alloc2_new w _ _, bAlloc (bAlloc (Below.refl _ _) _) _, by simp⟩

set_option maxHeartbeats 1000000 in
theorem standard_any (w : World) (hL : Laid w) : Calls Tryd.prog 15 #[] w fun e w' => e = .returned (tv stdT) ∧ Below w.heap.size w w' := by
  have HL := keepd hL
  have hL1 := hL.2
  clear hL
  go_enter Tryd.func15, Tryd.ntmps15
  go_upto_region 2 with fail
  generalize hW : (w.alloc (.cells (cs zT).toArray 25)).alloc (.cells (cs zT).toArray 25) = W
  obtain ⟨h1, h2, h3, h4⟩ := two_new _ _ _ _ hW
  clear hW
  rw [← uptoS_zero] at h2
  have H1 := keepd h1
  have H2 := keepd h2
  have HB := keepd h3
  clear h1 h2 h3 h4
  go_wp2_with fail
  go_loopw [4] (fun vi wr => ∃ k : Nat, k ≤ 31 ∧ vi = .int .i64 k ∧ Hid (TB wr w.heap.size zT) ∧ Hid (TB wr (w.heap.size + 1) (uptoS k)) ∧ Hid (Below w.heap.size w wr)) (fun vi _ => 31 - (intOf vi).toNat)
  case atStart => exact ⟨0, by omega, rfl, H1, H2, HB⟩
  case round =>
    obtain ⟨k, hk, rfl, H1, H2, HB⟩ := hrel
    by_cases hlt : k < 31
    · have hc := (HL.out.below HB.out).at k hlt
      obtain ⟨a0, a1⟩ := TB.at H2.out k hlt
      have f0 := SR.frozen H2.out (k * 2)
      have f1 := SR.frozen H2.out (k * 2 + 1)
      have HS := keepd (uptoS_set k)
      have HN := keepd (uptoS_not k)
      have i0 : (0 : Int) ≤ (k : Int) := by omega
      have i1 : (k : Int) < 31 := by omega
      generalize stdR.getD k 0 = q at *
      by_cases hq : q = 0
      · subst hq
        have H3 := H2
        rw [HN.out rfl] at H3
        go_wp2
        go_roundw
        case rel => exact ⟨k + 1, by omega, by go_num, H1, H3, HB⟩
        case measure => simp [intOf]; omega
      · have gq : (q == 0) = false := by simpa using hq
        have H3 := keepd (TB.put H2.out k hlt ⟨2, q⟩)
        rw [HS.out hq] at H3
        have q1 : w.heap.size ≠ w.heap.size + 1 := by omega
        have H4 := keepd (SR.far (p := ⟨w.heap.size + 1, k * 2 + 1, none⟩) (SR.far (p := ⟨w.heap.size + 1, k * 2, none⟩) H1.out q1 (.int .i64 2)) q1 (.int .u8 q))
        have HB2 := keepd (bSet (i := k * 2 + 1) (bSet (i := k * 2) HB.out (b := w.heap.size + 1) (by omega) (.int .i64 2)) (b := w.heap.size + 1) (by omega) (.int .u8 q))
        clear q1
        go_wp2
        go_roundw
        case rel => exact ⟨k + 1, by omega, by go_num, H4, H3, HB2⟩
        case measure => simp [intOf]; omega
    · obtain rfl : k = 31 := by omega
      obtain ⟨r1, k1⟩ := TB.facts H1.out
      obtain ⟨r2, k2⟩ := TB.facts H2.out
      rw [uptoS_all] at r2
      go_wp2_with fail
      exact bodyPost_ret (v := tv stdT) (results_cell_row Tryd.results15 _ _ w.heap.size 25 _ (0, 0) _ rfl (SR.row H1.out (cs stdT)) Tryd.underlying25 rfl (by rw [info25]; simp [cs_len])) rfl ⟨rfl, bRow HB.out (by omega) _⟩

end Go.Proofs.YtmjhagmniipcaaaDoor
