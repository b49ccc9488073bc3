/-
  The document's own Got, of what is kept.
-/
import Derived.Test.YtlgcfpdmklieiaaDoorR2
import Derived.Deep.WholeRow
namespace Go.Proofs.YtlgcfpdmklieiaaDoor
open Go.RowKit
set_option maxRecDepth 100000

attribute [local go_sem ↓] ex_ld25 ex_ld67 ex_ld73 ex_st25 ex_st67 ex_st73 ex_eq25 ex_ne25 ex_ix22
attribute [local go_sem] ptrB_at okPtr_at aggC_at agg16 agg11 agg12 isO_at toO_at idx0 idx1 idx2 idx3 okIdx_at isRow_new World.setRow_alloc_new

set_option maxHeartbeats 2000000 in
theorem rkept_251 (X : O) (c : Int) (i : Nat) (hi : i < 4) (hk : plR c = (i : Int)) (a b d : Int) (hz : gF (X.him.at i) true (X.mh.at i) = (a, b, d)) (hb3 : b = 0 ∨ b = 1 ∨ b = 2) (w : World) :
    Calls Tryd.prog 16 #[X.v, .int .i64 251, .int .i64 c] w (GotG w (setO X true i a, sayL (if true then 253 else 251) (if true then 254 else 252) c b, d)) := by
  have CP := keepd (rplace_any c)
  rw [hk] at CP
  have C5 := keepd (rgot_at (X.him.at i) true (X.mh.at i) a b d hz)
  have CS := keepd (said_any true c b hb3)
  clear hz hk hb3
  obtain ⟨Y, hY⟩ : ∃ Y, setO X true i a = Y := ⟨_, rfl⟩
  obtain ⟨L, hL⟩ : ∃ L, sayL (if true then 253 else 251) (if true then 254 else 252) c b = L := ⟨_, rfl⟩
  rw [hL] at CS
  rw [hY, hL]
  have HY := keepd hY
  have b1 : (i : Int) < 4 := by omega
  have b2 : (0 : Int) ≤ i := by omega
  have b3 : ((i : Int) == 4) = false := by simp; omega
  clear hY hL
  go_enter Tryd.func16, Tryd.ntmps16
  go_upto_region 1 with fail
  generalize hW : (w.alloc (.cells X.cs.toArray 25)).alloc (.cells Z25.toArray 25) = W
  obtain ⟨h1, h2, h3, h4⟩ := two_new _ _ _ _ _ _ hW
  clear hW h4
  have G := keepd (GM.mk h1 ⟨_, h2, rfl⟩ h3)
  clear h1 h2 h3
  go_wp2_with fail
  with_reducible refine (CP.out _).mono ?_
  rintro e w1 ⟨rfl, hb⟩
  have G := keepd (G.out.call hb)
  clear hb CP
  have x0 := (G.out.opt.cell (4 + i)).trans (cs_him' X i hi)
  have x1 := (G.out.opt.cell (12 + i)).trans (cs_mh X i hi)
  go_wp2_with fail
  go_quiet ((go_at_call 38; exact Calls.quiet_of_same (C5.out _)))
  have G := keepd (G.out.drewN nq)
  clear x0 x1
  generalize World.drewN _ nq = W3 at *
  have x0 := (G.out.opt.cell (4 + i)).trans (cs_him' X i hi)
  have fz := G.out.opt.frozen (4 + i)
  have G2 := G.out.setH i a hi
  rw [HY.out] at G2
  have G := keepd G2
  clear G2
  go_upto_region 13 with fail
  generalize World.setCell _ _ _ = W4 at *
  clear x0 fz C5
  have K := G.out
  obtain ⟨r1, k1, k2⟩ := K.f
  go_wp2_with fail
  go_region_held3 (fun W => rowOf W w.heap.size = Y.cs.toArray ∧ isRow W 25 w.heap.size 16 = true ∧ isRow W 25 (w.heap.size + 1) 16 = true ∧ GM w Y W)
    ((refine GM.s ?_; repeat (first | assumption | refine GM.drew ?_ | refine GM.stO ?_ _)))
    (first | (go_at_call 39; (with_reducible refine (CS.out _).mono ?_); rintro e w5 ⟨sl, rfl, hs, hb⟩; have K5 := GM.call (by first | assumption | exact GM.drew (by assumption)) hb; have ho := hs.base (base' := w.heap.size + 2) (GM.lt (by first | assumption | exact GM.drew (by assumption))); clear hb hs))
  all_goals
    have HS := keepd (K5.ans Y)
    have HO := keepd ((One.row ho (b := w.heap.size + 1) (by omega) Y.cs.toArray).base (base' := w.heap.size) (by omega))
    have HB := keepd (K5.stO Y).bel
    clear K r1 k1 k2 K5 ho
    go_wp2_with fail
    exact bodyPost_ret (results_c3 Tryd.results16 _ _ (w.heap.size + 1) Y rfl HS.out) rfl ⟨_, rfl, HO.out, HB.out⟩

set_option maxHeartbeats 2000000 in
theorem rkept_252 (X : O) (c : Int) (i : Nat) (hi : i < 4) (hk : plR c = (i : Int)) (a b d : Int) (hz : gF (X.him.at i) false (X.mh.at i) = (a, b, d)) (hb3 : b = 0 ∨ b = 1 ∨ b = 2) (w : World) :
    Calls Tryd.prog 16 #[X.v, .int .i64 252, .int .i64 c] w (GotG w (setO X true i a, sayL (if true then 253 else 251) (if true then 254 else 252) c b, d)) := by
  have CP := keepd (rplace_any c)
  rw [hk] at CP
  have C5 := keepd (rgot_at (X.him.at i) false (X.mh.at i) a b d hz)
  have CS := keepd (said_any true c b hb3)
  clear hz hk hb3
  obtain ⟨Y, hY⟩ : ∃ Y, setO X true i a = Y := ⟨_, rfl⟩
  obtain ⟨L, hL⟩ : ∃ L, sayL (if true then 253 else 251) (if true then 254 else 252) c b = L := ⟨_, rfl⟩
  rw [hL] at CS
  rw [hY, hL]
  have HY := keepd hY
  have b1 : (i : Int) < 4 := by omega
  have b2 : (0 : Int) ≤ i := by omega
  have b3 : ((i : Int) == 4) = false := by simp; omega
  clear hY hL
  go_enter Tryd.func16, Tryd.ntmps16
  go_upto_region 1 with fail
  generalize hW : (w.alloc (.cells X.cs.toArray 25)).alloc (.cells Z25.toArray 25) = W
  obtain ⟨h1, h2, h3, h4⟩ := two_new _ _ _ _ _ _ hW
  clear hW h4
  have G := keepd (GM.mk h1 ⟨_, h2, rfl⟩ h3)
  clear h1 h2 h3
  go_wp2_with fail
  with_reducible refine (CP.out _).mono ?_
  rintro e w1 ⟨rfl, hb⟩
  have G := keepd (G.out.call hb)
  clear hb CP
  have x0 := (G.out.opt.cell (4 + i)).trans (cs_him' X i hi)
  have x1 := (G.out.opt.cell (12 + i)).trans (cs_mh X i hi)
  go_wp2_with fail
  go_quiet ((go_at_call 38; exact Calls.quiet_of_same (C5.out _)))
  have G := keepd (G.out.drewN nq)
  clear x0 x1
  generalize World.drewN _ nq = W3 at *
  have x0 := (G.out.opt.cell (4 + i)).trans (cs_him' X i hi)
  have fz := G.out.opt.frozen (4 + i)
  have G2 := G.out.setH i a hi
  rw [HY.out] at G2
  have G := keepd G2
  clear G2
  go_upto_region 13 with fail
  generalize World.setCell _ _ _ = W4 at *
  clear x0 fz C5
  have K := G.out
  obtain ⟨r1, k1, k2⟩ := K.f
  go_wp2_with fail
  go_region_held3 (fun W => rowOf W w.heap.size = Y.cs.toArray ∧ isRow W 25 w.heap.size 16 = true ∧ isRow W 25 (w.heap.size + 1) 16 = true ∧ GM w Y W)
    ((refine GM.s ?_; repeat (first | assumption | refine GM.drew ?_ | refine GM.stO ?_ _)))
    (first | (go_at_call 39; (with_reducible refine (CS.out _).mono ?_); rintro e w5 ⟨sl, rfl, hs, hb⟩; have K5 := GM.call (by first | assumption | exact GM.drew (by assumption)) hb; have ho := hs.base (base' := w.heap.size + 2) (GM.lt (by first | assumption | exact GM.drew (by assumption))); clear hb hs))
  all_goals
    have HS := keepd (K5.ans Y)
    have HO := keepd ((One.row ho (b := w.heap.size + 1) (by omega) Y.cs.toArray).base (base' := w.heap.size) (by omega))
    have HB := keepd (K5.stO Y).bel
    clear K r1 k1 k2 K5 ho
    go_wp2_with fail
    exact bodyPost_ret (results_c3 Tryd.results16 _ _ (w.heap.size + 1) Y rfl HS.out) rfl ⟨_, rfl, HO.out, HB.out⟩

set_option maxHeartbeats 2000000 in
theorem rkept_253 (X : O) (c : Int) (i : Nat) (hi : i < 4) (hk : plR c = (i : Int)) (a b d : Int) (hz : gF (X.us.at i) true (X.mu.at i) = (a, b, d)) (hb3 : b = 0 ∨ b = 1 ∨ b = 2) (w : World) :
    Calls Tryd.prog 16 #[X.v, .int .i64 253, .int .i64 c] w (GotG w (setO X false i a, sayL (if false then 253 else 251) (if false then 254 else 252) c b, d)) := by
  have CP := keepd (rplace_any c)
  rw [hk] at CP
  have C5 := keepd (rgot_at (X.us.at i) true (X.mu.at i) a b d hz)
  have CS := keepd (said_any false c b hb3)
  clear hz hk hb3
  obtain ⟨Y, hY⟩ : ∃ Y, setO X false i a = Y := ⟨_, rfl⟩
  obtain ⟨L, hL⟩ : ∃ L, sayL (if false then 253 else 251) (if false then 254 else 252) c b = L := ⟨_, rfl⟩
  rw [hL] at CS
  rw [hY, hL]
  have HY := keepd hY
  have b1 : (i : Int) < 4 := by omega
  have b2 : (0 : Int) ≤ i := by omega
  have b3 : ((i : Int) == 4) = false := by simp; omega
  clear hY hL
  go_enter Tryd.func16, Tryd.ntmps16
  go_upto_region 1 with fail
  generalize hW : (w.alloc (.cells X.cs.toArray 25)).alloc (.cells Z25.toArray 25) = W
  obtain ⟨h1, h2, h3, h4⟩ := two_new _ _ _ _ _ _ hW
  clear hW h4
  have G := keepd (GM.mk h1 ⟨_, h2, rfl⟩ h3)
  clear h1 h2 h3
  go_wp2_with fail
  with_reducible refine (CP.out _).mono ?_
  rintro e w1 ⟨rfl, hb⟩
  have G := keepd (G.out.call hb)
  clear hb CP
  have x0 := (G.out.opt.cell (i)).trans (cs_us' X i hi)
  have x1 := (G.out.opt.cell (8 + i)).trans (cs_mu X i hi)
  go_wp2_with fail
  go_quiet ((go_at_call 38; exact Calls.quiet_of_same (C5.out _)))
  have G := keepd (G.out.drewN nq)
  clear x0 x1
  generalize World.drewN _ nq = W3 at *
  have x0 := (G.out.opt.cell (i)).trans (cs_us' X i hi)
  have fz := G.out.opt.frozen (i)
  have G2 := G.out.setU i a hi
  rw [HY.out] at G2
  have G := keepd G2
  clear G2
  go_upto_region 16 with fail
  generalize World.setCell _ _ _ = W4 at *
  clear x0 fz C5
  have K := G.out
  obtain ⟨r1, k1, k2⟩ := K.f
  go_wp2_with fail
  go_region_held3 (fun W => rowOf W w.heap.size = Y.cs.toArray ∧ isRow W 25 w.heap.size 16 = true ∧ isRow W 25 (w.heap.size + 1) 16 = true ∧ GM w Y W)
    ((refine GM.s ?_; repeat (first | assumption | refine GM.drew ?_ | refine GM.stO ?_ _)))
    (first | (go_at_call 39; (with_reducible refine (CS.out _).mono ?_); rintro e w5 ⟨sl, rfl, hs, hb⟩; have K5 := GM.call (by first | assumption | exact GM.drew (by assumption)) hb; have ho := hs.base (base' := w.heap.size + 2) (GM.lt (by first | assumption | exact GM.drew (by assumption))); clear hb hs))
  all_goals
    have HS := keepd (K5.ans Y)
    have HO := keepd ((One.row ho (b := w.heap.size + 1) (by omega) Y.cs.toArray).base (base' := w.heap.size) (by omega))
    have HB := keepd (K5.stO Y).bel
    clear K r1 k1 k2 K5 ho
    go_wp2_with fail
    exact bodyPost_ret (results_c3 Tryd.results16 _ _ (w.heap.size + 1) Y rfl HS.out) rfl ⟨_, rfl, HO.out, HB.out⟩

set_option maxHeartbeats 2000000 in
theorem rkept_254 (X : O) (c : Int) (i : Nat) (hi : i < 4) (hk : plR c = (i : Int)) (a b d : Int) (hz : gF (X.us.at i) false (X.mu.at i) = (a, b, d)) (hb3 : b = 0 ∨ b = 1 ∨ b = 2) (w : World) :
    Calls Tryd.prog 16 #[X.v, .int .i64 254, .int .i64 c] w (GotG w (setO X false i a, sayL (if false then 253 else 251) (if false then 254 else 252) c b, d)) := by
  have CP := keepd (rplace_any c)
  rw [hk] at CP
  have C5 := keepd (rgot_at (X.us.at i) false (X.mu.at i) a b d hz)
  have CS := keepd (said_any false c b hb3)
  clear hz hk hb3
  obtain ⟨Y, hY⟩ : ∃ Y, setO X false i a = Y := ⟨_, rfl⟩
  obtain ⟨L, hL⟩ : ∃ L, sayL (if false then 253 else 251) (if false then 254 else 252) c b = L := ⟨_, rfl⟩
  rw [hL] at CS
  rw [hY, hL]
  have HY := keepd hY
  have b1 : (i : Int) < 4 := by omega
  have b2 : (0 : Int) ≤ i := by omega
  have b3 : ((i : Int) == 4) = false := by simp; omega
  clear hY hL
  go_enter Tryd.func16, Tryd.ntmps16
  go_upto_region 1 with fail
  generalize hW : (w.alloc (.cells X.cs.toArray 25)).alloc (.cells Z25.toArray 25) = W
  obtain ⟨h1, h2, h3, h4⟩ := two_new _ _ _ _ _ _ hW
  clear hW h4
  have G := keepd (GM.mk h1 ⟨_, h2, rfl⟩ h3)
  clear h1 h2 h3
  go_wp2_with fail
  with_reducible refine (CP.out _).mono ?_
  rintro e w1 ⟨rfl, hb⟩
  have G := keepd (G.out.call hb)
  clear hb CP
  have x0 := (G.out.opt.cell (i)).trans (cs_us' X i hi)
  have x1 := (G.out.opt.cell (8 + i)).trans (cs_mu X i hi)
  go_wp2_with fail
  go_quiet ((go_at_call 38; exact Calls.quiet_of_same (C5.out _)))
  have G := keepd (G.out.drewN nq)
  clear x0 x1
  generalize World.drewN _ nq = W3 at *
  have x0 := (G.out.opt.cell (i)).trans (cs_us' X i hi)
  have fz := G.out.opt.frozen (i)
  have G2 := G.out.setU i a hi
  rw [HY.out] at G2
  have G := keepd G2
  clear G2
  go_upto_region 16 with fail
  generalize World.setCell _ _ _ = W4 at *
  clear x0 fz C5
  have K := G.out
  obtain ⟨r1, k1, k2⟩ := K.f
  go_wp2_with fail
  go_region_held3 (fun W => rowOf W w.heap.size = Y.cs.toArray ∧ isRow W 25 w.heap.size 16 = true ∧ isRow W 25 (w.heap.size + 1) 16 = true ∧ GM w Y W)
    ((refine GM.s ?_; repeat (first | assumption | refine GM.drew ?_ | refine GM.stO ?_ _)))
    (first | (go_at_call 39; (with_reducible refine (CS.out _).mono ?_); rintro e w5 ⟨sl, rfl, hs, hb⟩; have K5 := GM.call (by first | assumption | exact GM.drew (by assumption)) hb; have ho := hs.base (base' := w.heap.size + 2) (GM.lt (by first | assumption | exact GM.drew (by assumption))); clear hb hs))
  all_goals
    have HS := keepd (K5.ans Y)
    have HO := keepd ((One.row ho (b := w.heap.size + 1) (by omega) Y.cs.toArray).base (base' := w.heap.size) (by omega))
    have HB := keepd (K5.stO Y).bel
    clear K r1 k1 k2 K5 ho
    go_wp2_with fail
    exact bodyPost_ret (results_c3 Tryd.results16 _ _ (w.heap.size + 1) Y rfl HS.out) rfl ⟨_, rfl, HO.out, HB.out⟩

theorem rgotO_any (X : O) (v c : Int) (h : (okO X && (vOk v && cOk c)) = true) (w : World) : Calls Tryd.prog 16 #[X.v, .int .i64 v, .int .i64 c] w (GotG w (gotF X v c)) := by
  have hv : v = 251 ∨ v = 252 ∨ v = 253 ∨ v = 254 := by
    simp only [Bool.and_eq_true] at h
    have := h.2.1
    unfold vOk at this
    simp at this
    omega
  have hO : okO X = true := by simp only [Bool.and_eq_true] at h; exact h.1
  unfold gotF
  rw [h, if_neg (by simp)]
  cases hk : plK c
  · rw [if_pos rfl]
    rcases hv with rfl | rfl | rfl | rfl
    · exact rnk_251 X c hk w
    · exact rnk_252 X c hk w
    · exact rnk_253 X c hk w
    · exact rnk_254 X c hk w
  · rw [if_neg (by simp), code_pl hk]
    have hp := P4_pl c
    obtain ⟨i, hi, e⟩ : ∃ i : Nat, i < 4 ∧ plI c = (i : Int) := ⟨(plI c).toNat, by unfold P4 at hp; omega, by unfold P4 at hp; omega⟩
    have hr : plR c = (i : Int) := by unfold plR; rw [hk, e]; rfl
    rw [e] at hp ⊢
    have hg := (gF_ok _ (isYes v) _ (okF_at _ _ _ hp (okO_side hO (ofHim v)))).2
    obtain ⟨⟨a, b, d⟩, hz⟩ : ∃ z, gF ((sideF X (ofHim v)).at_.at i) (isYes v) ((sideF X (ofHim v)).may.at i) = z := ⟨_, rfl⟩
    rw [hz] at hg ⊢
    rcases hv with rfl | rfl | rfl | rfl
    · exact rkept_251 X c i hi hr a b d hz hg w
    · exact rkept_252 X c i hi hr a b d hz hg w
    · exact rkept_253 X c i hi hr a b d hz hg w
    · exact rkept_254 X c i hi hr a b d hz hg w

end Go.Proofs.YtlgcfpdmklieiaaDoor
