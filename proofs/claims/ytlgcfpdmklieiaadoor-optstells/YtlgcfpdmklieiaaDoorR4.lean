/-
  The document's own Ask.
-/
import Derived.Test.YtlgcfpdmklieiaaDoorR3
import Derived.Deep.WholeRow
namespace Go.Proofs.YtlgcfpdmklieiaaDoor
open Go.RowKit
set_option maxRecDepth 100000

attribute [local go_sem ↓] ex_ld25 ex_ld67 ex_ld73 ex_st25 ex_st67 ex_st73 ex_eq25 ex_ne25 ex_ix22
attribute [local go_sem] ptrB_at okPtr_at aggC_at agg16 agg11 agg12 isO_at toO_at idx0 idx1 idx2 idx3 okIdx_at isRow_new World.setRow_alloc_new

theorem idx_code (i : Nat) (h : i < 4) : idx4 (.agg #[.int .i64 0, .int .i64 1, .int .i64 3, .int .i64 34]) (.int .i64 i) = .int .i64 (codeI i) := by
  match i, h with
  | 0, _ => rfl
  | 1, _ => rfl
  | 2, _ => rfl
  | 3, _ => rfl

set_option maxHeartbeats 2000000 in
theorem rnot_f (X : O) (i : Nat) (hi : i < 4) (hmm : X.mu.at i = false) (w : World) : Calls Tryd.prog 19 #[X.v, .bool false, .int .i64 i, .bool true] w (GotG w (X, [], 5)) := by
  have CP := keepd rcodes_any
  have b1 : (i : Int) < 4 := by omega
  have b2 : (0 : Int) ≤ i := by omega
  have b3 := idx_code i hi
  have b4 : decide ((0 : Int) ≤ i ∧ (i : Int) < 4) = true := by simp; omega
  go_enter Tryd.func19, Tryd.ntmps19
  go_upto_region 1 with fail
  generalize hW : (w.alloc (.cells X.cs.toArray 25)).alloc (.cells Z25.toArray 25) = W
  obtain ⟨h1, h2, h3, h4⟩ := two_new _ _ _ _ _ _ hW
  clear hW h4
  have G := keepd (GM.mk h1 ⟨_, h2, rfl⟩ h3)
  clear h1 h2 h3
  go_wp2_with fail
  with_reducible refine (CP.out _).mono ?_
  rintro e w1 ⟨rfl, hb⟩
  have G := keepd (G.out.call hb)
  clear hb CP
  have x1 := (G.out.opt.cell (8 + i)).trans (cs_mu X i hi)
  rw [hmm] at x1
  obtain ⟨r1, k1, k2⟩ := G.out.f
  have HS := keepd (G.out.ans X)
  have HB := keepd (G.out.stO X).bel
  clear G
  go_wp2_with fail
  exact bodyPost_ret (results_c3 Tryd.results19 _ _ (w.heap.size + 1) X rfl HS.out) rfl ⟨_, rfl, .inl ⟨rfl, rfl⟩, HB.out⟩

set_option maxHeartbeats 2000000 in
theorem rok_f (X : O) (i : Nat) (hi : i < 4) (on : Bool) (hmm : (on && !X.mu.at i) = false) (a b d : Int) (hz : aF (X.us.at i) on = (a, b, d)) (hb3 : b = 0 ∨ b = 1 ∨ b = 2) (w : World) :
    Calls Tryd.prog 19 #[X.v, .bool false, .int .i64 i, .bool on] w (GotG w (setO X false i a, sayL (if false then 253 else 251) (if false then 254 else 252) (codeI i) b, d)) := by
  have C5 := keepd (rask_at (X.us.at i) on a b d hz)
  have CS := keepd (said_any false (codeI i) b hb3)
  clear hz hb3
  obtain ⟨Y, hY⟩ : ∃ Y, setO X false i a = Y := ⟨_, rfl⟩
  obtain ⟨L, hL⟩ : ∃ L, sayL (if false then 253 else 251) (if false then 254 else 252) (codeI i) b = L := ⟨_, rfl⟩
  rw [hL] at CS
  rw [hY, hL]
  have HY := keepd hY
  clear hY hL
  have CP := keepd rcodes_any
  have b1 : (i : Int) < 4 := by omega
  have b2 : (0 : Int) ≤ i := by omega
  have b3 := idx_code i hi
  have b4 : decide ((0 : Int) ≤ i ∧ (i : Int) < 4) = true := by simp; omega
  generalize codeI (i : Int) = cd at *
  go_enter Tryd.func19, Tryd.ntmps19
  go_upto_region 1 with fail
  generalize hW : (w.alloc (.cells X.cs.toArray 25)).alloc (.cells Z25.toArray 25) = W
  obtain ⟨h1, h2, h3, h4⟩ := two_new _ _ _ _ _ _ hW
  clear hW h4
  have G := keepd (GM.mk h1 ⟨_, h2, rfl⟩ h3)
  clear h1 h2 h3
  go_wp2_with fail
  with_reducible refine (CP.out _).mono ?_
  rintro e w1 ⟨rfl, hb⟩
  have G := keepd (G.out.call hb)
  clear hb CP
  have x0 := (G.out.opt.cell (i)).trans (cs_us' X i hi)
  have x1 := (G.out.opt.cell (8 + i)).trans (cs_mu X i hi)
  have x2 := G.out.opt.frozen (i)
  have G2 := G.out.setU i a hi
  rw [HY.out] at G2
  have G := keepd G2
  clear G2
  go_upto_region 8 with fail
  go_cut [57] (fun s29 wx => s29 = .bool false ∧ wx = w1)
  case first =>
    cases on
    · go_wp2_with fail
      go_meet
      exact ⟨rfl, rfl⟩
    · have hm2 : X.mu.at i = true := by simpa using hmm
      rw [hm2] at x1
      go_wp2_with fail
      go_meet
      exact ⟨rfl, rfl⟩
  case rest =>
  obtain ⟨rfl, rfl⟩ := hcut
  go_wp2_with fail
  with_reducible refine (C5.out _).mono ?_
  rintro e w2 ⟨rfl, rfl⟩
  go_upto_region 12 with fail
  generalize World.setCell _ _ _ = W4 at *
  clear x0 x1 x2 C5 hmm
  have K := G.out
  obtain ⟨r1, k1, k2⟩ := K.f
  go_wp2_with fail
  go_region_held3 (fun W => rowOf W w.heap.size = Y.cs.toArray ∧ isRow W 25 w.heap.size 16 = true ∧ isRow W 25 (w.heap.size + 1) 16 = true ∧ GM w Y W)
    ((refine GM.s ?_; repeat (first | assumption | refine GM.drew ?_ | refine GM.stO ?_ _)))
    (first | (go_at_call 39; (with_reducible refine (CS.out _).mono ?_); rintro e w5 ⟨sl, rfl, hs, hb⟩; have K5 := GM.call (by first | assumption | exact GM.drew (by assumption)) hb; have ho := hs.base (base' := w.heap.size + 2) (GM.lt (by first | assumption | exact GM.drew (by assumption))); clear hb hs))
  all_goals
    have HS := keepd (K5.ans Y)
    have HO := keepd ((One.row ho (b := w.heap.size + 1) (by omega) Y.cs.toArray).base (base' := w.heap.size) (by omega))
    have HB := keepd (K5.stO Y).bel
    clear K r1 k1 k2 K5 ho
    go_wp2_with fail
    exact bodyPost_ret (results_c3 Tryd.results19 _ _ (w.heap.size + 1) Y rfl HS.out) rfl ⟨_, rfl, HO.out, HB.out⟩

set_option maxHeartbeats 2000000 in
theorem rnot_t (X : O) (i : Nat) (hi : i < 4) (hmm : X.mh.at i = false) (w : World) : Calls Tryd.prog 19 #[X.v, .bool true, .int .i64 i, .bool true] w (GotG w (X, [], 5)) := by
  have CP := keepd rcodes_any
  have b1 : (i : Int) < 4 := by omega
  have b2 : (0 : Int) ≤ i := by omega
  have b3 := idx_code i hi
  have b4 : decide ((0 : Int) ≤ i ∧ (i : Int) < 4) = true := by simp; omega
  go_enter Tryd.func19, Tryd.ntmps19
  go_upto_region 1 with fail
  generalize hW : (w.alloc (.cells X.cs.toArray 25)).alloc (.cells Z25.toArray 25) = W
  obtain ⟨h1, h2, h3, h4⟩ := two_new _ _ _ _ _ _ hW
  clear hW h4
  have G := keepd (GM.mk h1 ⟨_, h2, rfl⟩ h3)
  clear h1 h2 h3
  go_wp2_with fail
  with_reducible refine (CP.out _).mono ?_
  rintro e w1 ⟨rfl, hb⟩
  have G := keepd (G.out.call hb)
  clear hb CP
  have x1 := (G.out.opt.cell (12 + i)).trans (cs_mh X i hi)
  rw [hmm] at x1
  obtain ⟨r1, k1, k2⟩ := G.out.f
  have HS := keepd (G.out.ans X)
  have HB := keepd (G.out.stO X).bel
  clear G
  go_wp2_with fail
  exact bodyPost_ret (results_c3 Tryd.results19 _ _ (w.heap.size + 1) X rfl HS.out) rfl ⟨_, rfl, .inl ⟨rfl, rfl⟩, HB.out⟩

set_option maxHeartbeats 2000000 in
theorem rok_t (X : O) (i : Nat) (hi : i < 4) (on : Bool) (hmm : (on && !X.mh.at i) = false) (a b d : Int) (hz : aF (X.him.at i) on = (a, b, d)) (hb3 : b = 0 ∨ b = 1 ∨ b = 2) (w : World) :
    Calls Tryd.prog 19 #[X.v, .bool true, .int .i64 i, .bool on] w (GotG w (setO X true i a, sayL (if true then 253 else 251) (if true then 254 else 252) (codeI i) b, d)) := by
  have C5 := keepd (rask_at (X.him.at i) on a b d hz)
  have CS := keepd (said_any true (codeI i) b hb3)
  clear hz hb3
  obtain ⟨Y, hY⟩ : ∃ Y, setO X true i a = Y := ⟨_, rfl⟩
  obtain ⟨L, hL⟩ : ∃ L, sayL (if true then 253 else 251) (if true then 254 else 252) (codeI i) b = L := ⟨_, rfl⟩
  rw [hL] at CS
  rw [hY, hL]
  have HY := keepd hY
  clear hY hL
  have CP := keepd rcodes_any
  have b1 : (i : Int) < 4 := by omega
  have b2 : (0 : Int) ≤ i := by omega
  have b3 := idx_code i hi
  have b4 : decide ((0 : Int) ≤ i ∧ (i : Int) < 4) = true := by simp; omega
  generalize codeI (i : Int) = cd at *
  go_enter Tryd.func19, Tryd.ntmps19
  go_upto_region 1 with fail
  generalize hW : (w.alloc (.cells X.cs.toArray 25)).alloc (.cells Z25.toArray 25) = W
  obtain ⟨h1, h2, h3, h4⟩ := two_new _ _ _ _ _ _ hW
  clear hW h4
  have G := keepd (GM.mk h1 ⟨_, h2, rfl⟩ h3)
  clear h1 h2 h3
  go_wp2_with fail
  with_reducible refine (CP.out _).mono ?_
  rintro e w1 ⟨rfl, hb⟩
  have G := keepd (G.out.call hb)
  clear hb CP
  have x0 := (G.out.opt.cell (4 + i)).trans (cs_him' X i hi)
  have x1 := (G.out.opt.cell (12 + i)).trans (cs_mh X i hi)
  have x2 := G.out.opt.frozen (4 + i)
  have G2 := G.out.setH i a hi
  rw [HY.out] at G2
  have G := keepd G2
  clear G2
  go_upto_region 3 with fail
  go_cut [29] (fun s29 wx => s29 = .bool false ∧ wx = w1)
  case first =>
    cases on
    · go_wp2_with fail
      go_meet
      exact ⟨rfl, rfl⟩
    · have hm2 : X.mh.at i = true := by simpa using hmm
      rw [hm2] at x1
      go_wp2_with fail
      go_meet
      exact ⟨rfl, rfl⟩
  case rest =>
  obtain ⟨rfl, rfl⟩ := hcut
  go_wp2_with fail
  with_reducible refine (C5.out _).mono ?_
  rintro e w2 ⟨rfl, rfl⟩
  go_upto_region 7 with fail
  generalize World.setCell _ _ _ = W4 at *
  clear x0 x1 x2 C5 hmm
  have K := G.out
  obtain ⟨r1, k1, k2⟩ := K.f
  go_wp2_with fail
  go_region_held3 (fun W => rowOf W w.heap.size = Y.cs.toArray ∧ isRow W 25 w.heap.size 16 = true ∧ isRow W 25 (w.heap.size + 1) 16 = true ∧ GM w Y W)
    ((refine GM.s ?_; repeat (first | assumption | refine GM.drew ?_ | refine GM.stO ?_ _)))
    (first | (go_at_call 39; (with_reducible refine (CS.out _).mono ?_); rintro e w5 ⟨sl, rfl, hs, hb⟩; have K5 := GM.call (by first | assumption | exact GM.drew (by assumption)) hb; have ho := hs.base (base' := w.heap.size + 2) (GM.lt (by first | assumption | exact GM.drew (by assumption))); clear hb hs))
  all_goals
    have HS := keepd (K5.ans Y)
    have HO := keepd ((One.row ho (b := w.heap.size + 1) (by omega) Y.cs.toArray).base (base' := w.heap.size) (by omega))
    have HB := keepd (K5.stO Y).bel
    clear K r1 k1 k2 K5 ho
    go_wp2_with fail
    exact bodyPost_ret (results_c3 Tryd.results19 _ _ (w.heap.size + 1) Y rfl HS.out) rfl ⟨_, rfl, HO.out, HB.out⟩

theorem raskO_any (X : O) (hm : Bool) (i : Nat) (hi : i < 4) (on : Bool) (h : okO X = true) (w : World) : Calls Tryd.prog 19 #[X.v, .bool hm, .int .i64 i, .bool on] w (GotG w (askF X hm i on)) := by
  have hp : P4 (i : Int) := by unfold P4; omega
  have hpo : pOk (i : Int) = true := by unfold pOk; simp; omega
  unfold askF
  rw [h, hpo, if_neg (by simp)]
  cases hmm : (on && !(sideF X hm).may.at i)
  · rw [if_neg (by simp)]
    have hg := (aF_ok _ on _ (okF_at _ _ _ hp (okO_side h hm)) hmm).2
    obtain ⟨⟨a, b, d⟩, hz⟩ : ∃ z, aF ((sideF X hm).at_.at i) on = z := ⟨_, rfl⟩
    rw [hz] at hg ⊢
    cases hm
    · exact rok_f X i hi on hmm a b d hz hg w
    · exact rok_t X i hi on hmm a b d hz hg w
  · rw [if_pos rfl]
    rw [Bool.and_eq_true, Bool.not_eq_true'] at hmm
    obtain ⟨rfl, hmm⟩ := hmm
    cases hm
    · exact rnot_f X i hi hmm w
    · exact rnot_t X i hi hmm w

end Go.Proofs.YtlgcfpdmklieiaaDoor
