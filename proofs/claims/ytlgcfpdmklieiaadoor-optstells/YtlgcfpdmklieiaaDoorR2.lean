/-
  The document's own Got.
-/
import Derived.Test.YtlgcfpdmklieiaaDoorR1
import Derived.Deep.WholeRow
namespace Go.Proofs.YtlgcfpdmklieiaaDoor
open Go.RowKit
set_option maxRecDepth 100000

attribute [local go_sem ↓] ex_ld25 ex_ld67 ex_ld73 ex_st25 ex_st67 ex_st73 ex_eq25 ex_ne25 ex_ix22
attribute [local go_sem] ptrB_at okPtr_at aggC_at agg16 agg11 agg12 isO_at toO_at idx0 idx1 idx2 idx3 okIdx_at isRow_new World.setRow_alloc_new

theorem cs_set_us (X : O) (i : Nat) (q : Int) (h : i < 4) : X.cs.set i (.int .i64 q) = (setO X false i q).cs := by
  match i, h with
  | 0, _ => rfl
  | 1, _ => rfl
  | 2, _ => rfl
  | 3, _ => rfl
theorem cs_set_him (X : O) (i : Nat) (q : Int) (h : i < 4) : X.cs.set (4 + i) (.int .i64 q) = (setO X true i q).cs := by
  match i, h with
  | 0, _ => rfl
  | 1, _ => rfl
  | 2, _ => rfl
  | 3, _ => rfl

theorem GM.setU {w W : World} {X : O} (h : GM w X W) (i : Nat) (q : Int) (hi : i < 4) : GM w (setO X false i q) (W.setCell ⟨w.heap.size, i, none⟩ (.int .i64 q)) := by
  obtain ⟨cs, h1, h2⟩ := h.res
  refine ⟨?_, ⟨cs, h1.far (by simp) _, h2⟩, bSet h.bel (Nat.le_refl _) _⟩
  rw [← cs_set_us X i q hi]
  exact h.opt.set i _
theorem GM.setH {w W : World} {X : O} (h : GM w X W) (i : Nat) (q : Int) (hi : i < 4) : GM w (setO X true i q) (W.setCell ⟨w.heap.size, 4 + i, none⟩ (.int .i64 q)) := by
  obtain ⟨cs, h1, h2⟩ := h.res
  refine ⟨?_, ⟨cs, h1.far (by simp) _, h2⟩, bSet h.bel (Nat.le_refl _) _⟩
  rw [← cs_set_him X i q hi]
  exact h.opt.set (4 + i) _
theorem GM.drewN {w W : World} {X : O} (h : GM w X W) (n : Nat) : GM w X (W.drewN n) := ⟨h.opt, h.res, bDrewN h.bel n⟩

theorem rnk_251 (X : O) (c : Int) (hk : plK c = false) (w : World) : Calls Tryd.prog 16 #[X.v, .int .i64 251, .int .i64 c] w (GotG w (X, nkF 251 c, 0)) := by
  have CP := keepd (rplace_any c)
  have e4 : plR c = 4 := by unfold plR; rw [hk]; rfl
  rw [e4] at CP
  clear e4 hk
  unfold nkF
  by_cases h6 : c = 6
  · subst h6
    go_enter Tryd.func16, Tryd.ntmps16
    go_upto_region 1 with fail
    generalize hW : (w.alloc (.cells X.cs.toArray 25)).alloc (.cells Z25.toArray 25) = W
    obtain ⟨h1, h2, h3, h4⟩ := two_new _ _ _ _ _ _ hW
    clear hW h4
    have G := keepd (GM.mk h1 ⟨_, h2, rfl⟩ h3)
    clear h1 h2 h3
    go_wp2_with fail
    with_reducible refine (CP.out _).mono ?_
    rintro e w1 ⟨rfl, hb⟩
    have G := keepd (G.out.call hb)
    clear hb CP
    obtain ⟨r1, k1, k2⟩ := G.out.f
    have HS := keepd (G.out.ans X)
    have HB := keepd (G.out.stO X).bel
    clear G
    go_wp2_with fail
    exact bodyPost_ret (results_c3 Tryd.results16 _ _ (w.heap.size + 1) X rfl HS.out) rfl ⟨_, rfl, .inl ⟨rfl, rfl⟩, HB.out⟩
  · have g6 : (c == 6) = false := by simp [h6]
    have g7 : (c != 6) = true := by simp [h6]
    rw [if_neg h6]
    clear h6
    go_enter Tryd.func16, Tryd.ntmps16
    go_upto_region 1 with fail
    generalize hW : (w.alloc (.cells X.cs.toArray 25)).alloc (.cells Z25.toArray 25) = W
    obtain ⟨h1, h2, h3, h4⟩ := two_new _ _ _ _ _ _ hW
    clear hW h4
    have G := keepd (GM.mk h1 ⟨_, h2, rfl⟩ h3)
    clear h1 h2 h3
    go_wp2_with fail
    with_reducible refine (CP.out _).mono ?_
    rintro e w1 ⟨rfl, hb⟩
    have G := keepd (G.out.call hb)
    clear hb CP
    have HR1 := keepd (And.intro G.out.f.1 G.out.f.2.1)
    have hn := bAlloc (Below.refl w1.heap.size w1) (.cells (itC 254 c).toArray 51)
    have On := One.new (Below.refl w1.heap.size w1) 254 c
    have hlt := G.out.lt
    have G := keepd (G.out.call hn)
    clear hn
    obtain ⟨r1, k1, k2⟩ := G.out.f
    have r1' : rowOf w1 w.heap.size = X.cs.toArray := HR1.out.1
    have k1' : isRow w1 25 w.heap.size 16 = true := HR1.out.2
    have HS := keepd (G.out.ans X)
    have HB := keepd (G.out.stO X).bel
    have HO := keepd ((On.row (b := w.heap.size + 1) hlt X.cs.toArray).base (base' := w.heap.size) (by omega))
    clear On hlt G
    go_wp2_with fail
    exact bodyPost_ret (results_c3 Tryd.results16 _ _ (w.heap.size + 1) X rfl HS.out) rfl ⟨_, rfl, HO.out, HB.out⟩

theorem rnk_252 (X : O) (c : Int) (hk : plK c = false) (w : World) : Calls Tryd.prog 16 #[X.v, .int .i64 252, .int .i64 c] w (GotG w (X, nkF 252 c, 0)) := by
  have CP := keepd (rplace_any c)
  have e4 : plR c = 4 := by unfold plR; rw [hk]; rfl
  rw [e4] at CP
  clear e4 hk
  unfold nkF
  by_cases h6 : c = 6
  · subst h6
    go_enter Tryd.func16, Tryd.ntmps16
    go_upto_region 1 with fail
    generalize hW : (w.alloc (.cells X.cs.toArray 25)).alloc (.cells Z25.toArray 25) = W
    obtain ⟨h1, h2, h3, h4⟩ := two_new _ _ _ _ _ _ hW
    clear hW h4
    have G := keepd (GM.mk h1 ⟨_, h2, rfl⟩ h3)
    clear h1 h2 h3
    go_wp2_with fail
    with_reducible refine (CP.out _).mono ?_
    rintro e w1 ⟨rfl, hb⟩
    have G := keepd (G.out.call hb)
    clear hb CP
    obtain ⟨r1, k1, k2⟩ := G.out.f
    have HS := keepd (G.out.ans X)
    have HB := keepd (G.out.stO X).bel
    clear G
    go_wp2_with fail
    exact bodyPost_ret (results_c3 Tryd.results16 _ _ (w.heap.size + 1) X rfl HS.out) rfl ⟨_, rfl, .inl ⟨rfl, rfl⟩, HB.out⟩
  · have g6 : (c == 6) = false := by simp [h6]
    have g7 : (c != 6) = true := by simp [h6]
    rw [if_neg h6]
    clear h6
    go_enter Tryd.func16, Tryd.ntmps16
    go_upto_region 1 with fail
    generalize hW : (w.alloc (.cells X.cs.toArray 25)).alloc (.cells Z25.toArray 25) = W
    obtain ⟨h1, h2, h3, h4⟩ := two_new _ _ _ _ _ _ hW
    clear hW h4
    have G := keepd (GM.mk h1 ⟨_, h2, rfl⟩ h3)
    clear h1 h2 h3
    go_wp2_with fail
    with_reducible refine (CP.out _).mono ?_
    rintro e w1 ⟨rfl, hb⟩
    have G := keepd (G.out.call hb)
    clear hb CP
    obtain ⟨r1, k1, k2⟩ := G.out.f
    have HS := keepd (G.out.ans X)
    have HB := keepd (G.out.stO X).bel
    clear G
    go_wp2_with fail
    exact bodyPost_ret (results_c3 Tryd.results16 _ _ (w.heap.size + 1) X rfl HS.out) rfl ⟨_, rfl, .inl ⟨rfl, rfl⟩, HB.out⟩

theorem rnk_253 (X : O) (c : Int) (hk : plK c = false) (w : World) : Calls Tryd.prog 16 #[X.v, .int .i64 253, .int .i64 c] w (GotG w (X, nkF 253 c, 0)) := by
  have CP := keepd (rplace_any c)
  have e4 : plR c = 4 := by unfold plR; rw [hk]; rfl
  rw [e4] at CP
  clear e4 hk
  unfold nkF
  by_cases h6 : c = 6
  · subst h6
    go_enter Tryd.func16, Tryd.ntmps16
    go_upto_region 1 with fail
    generalize hW : (w.alloc (.cells X.cs.toArray 25)).alloc (.cells Z25.toArray 25) = W
    obtain ⟨h1, h2, h3, h4⟩ := two_new _ _ _ _ _ _ hW
    clear hW h4
    have G := keepd (GM.mk h1 ⟨_, h2, rfl⟩ h3)
    clear h1 h2 h3
    go_wp2_with fail
    with_reducible refine (CP.out _).mono ?_
    rintro e w1 ⟨rfl, hb⟩
    have G := keepd (G.out.call hb)
    clear hb CP
    have HR1 := keepd (And.intro G.out.f.1 G.out.f.2.1)
    have hn := bAlloc (Below.refl w1.heap.size w1) (.cells (itC 251 6).toArray 51)
    have On := One.new (Below.refl w1.heap.size w1) 251 6
    have hlt := G.out.lt
    have G := keepd (G.out.call hn)
    clear hn
    obtain ⟨r1, k1, k2⟩ := G.out.f
    have r1' : rowOf w1 w.heap.size = X.cs.toArray := HR1.out.1
    have k1' : isRow w1 25 w.heap.size 16 = true := HR1.out.2
    have HS := keepd (G.out.ans X)
    have HB := keepd (G.out.stO X).bel
    have HO := keepd ((On.row (b := w.heap.size + 1) hlt X.cs.toArray).base (base' := w.heap.size) (by omega))
    clear On hlt G
    go_wp2_with fail
    exact bodyPost_ret (results_c3 Tryd.results16 _ _ (w.heap.size + 1) X rfl HS.out) rfl ⟨_, rfl, HO.out, HB.out⟩
  · have g6 : (c == 6) = false := by simp [h6]
    have g7 : (c != 6) = true := by simp [h6]
    rw [if_neg h6]
    clear h6
    go_enter Tryd.func16, Tryd.ntmps16
    go_upto_region 1 with fail
    generalize hW : (w.alloc (.cells X.cs.toArray 25)).alloc (.cells Z25.toArray 25) = W
    obtain ⟨h1, h2, h3, h4⟩ := two_new _ _ _ _ _ _ hW
    clear hW h4
    have G := keepd (GM.mk h1 ⟨_, h2, rfl⟩ h3)
    clear h1 h2 h3
    go_wp2_with fail
    with_reducible refine (CP.out _).mono ?_
    rintro e w1 ⟨rfl, hb⟩
    have G := keepd (G.out.call hb)
    clear hb CP
    have HR1 := keepd (And.intro G.out.f.1 G.out.f.2.1)
    have hn := bAlloc (Below.refl w1.heap.size w1) (.cells (itC 252 c).toArray 51)
    have On := One.new (Below.refl w1.heap.size w1) 252 c
    have hlt := G.out.lt
    have G := keepd (G.out.call hn)
    clear hn
    obtain ⟨r1, k1, k2⟩ := G.out.f
    have r1' : rowOf w1 w.heap.size = X.cs.toArray := HR1.out.1
    have k1' : isRow w1 25 w.heap.size 16 = true := HR1.out.2
    have HS := keepd (G.out.ans X)
    have HB := keepd (G.out.stO X).bel
    have HO := keepd ((On.row (b := w.heap.size + 1) hlt X.cs.toArray).base (base' := w.heap.size) (by omega))
    clear On hlt G
    go_wp2_with fail
    exact bodyPost_ret (results_c3 Tryd.results16 _ _ (w.heap.size + 1) X rfl HS.out) rfl ⟨_, rfl, HO.out, HB.out⟩

theorem rnk_254 (X : O) (c : Int) (hk : plK c = false) (w : World) : Calls Tryd.prog 16 #[X.v, .int .i64 254, .int .i64 c] w (GotG w (X, nkF 254 c, 0)) := by
  have CP := keepd (rplace_any c)
  have e4 : plR c = 4 := by unfold plR; rw [hk]; rfl
  rw [e4] at CP
  clear e4 hk
  unfold nkF
  by_cases h6 : c = 6
  · subst h6
    go_enter Tryd.func16, Tryd.ntmps16
    go_upto_region 1 with fail
    generalize hW : (w.alloc (.cells X.cs.toArray 25)).alloc (.cells Z25.toArray 25) = W
    obtain ⟨h1, h2, h3, h4⟩ := two_new _ _ _ _ _ _ hW
    clear hW h4
    have G := keepd (GM.mk h1 ⟨_, h2, rfl⟩ h3)
    clear h1 h2 h3
    go_wp2_with fail
    with_reducible refine (CP.out _).mono ?_
    rintro e w1 ⟨rfl, hb⟩
    have G := keepd (G.out.call hb)
    clear hb CP
    obtain ⟨r1, k1, k2⟩ := G.out.f
    have HS := keepd (G.out.ans X)
    have HB := keepd (G.out.stO X).bel
    clear G
    go_wp2_with fail
    exact bodyPost_ret (results_c3 Tryd.results16 _ _ (w.heap.size + 1) X rfl HS.out) rfl ⟨_, rfl, .inl ⟨rfl, rfl⟩, HB.out⟩
  · have g6 : (c == 6) = false := by simp [h6]
    have g7 : (c != 6) = true := by simp [h6]
    rw [if_neg h6]
    clear h6
    go_enter Tryd.func16, Tryd.ntmps16
    go_upto_region 1 with fail
    generalize hW : (w.alloc (.cells X.cs.toArray 25)).alloc (.cells Z25.toArray 25) = W
    obtain ⟨h1, h2, h3, h4⟩ := two_new _ _ _ _ _ _ hW
    clear hW h4
    have G := keepd (GM.mk h1 ⟨_, h2, rfl⟩ h3)
    clear h1 h2 h3
    go_wp2_with fail
    with_reducible refine (CP.out _).mono ?_
    rintro e w1 ⟨rfl, hb⟩
    have G := keepd (G.out.call hb)
    clear hb CP
    obtain ⟨r1, k1, k2⟩ := G.out.f
    have HS := keepd (G.out.ans X)
    have HB := keepd (G.out.stO X).bel
    clear G
    go_wp2_with fail
    exact bodyPost_ret (results_c3 Tryd.results16 _ _ (w.heap.size + 1) X rfl HS.out) rfl ⟨_, rfl, .inl ⟨rfl, rfl⟩, HB.out⟩

end Go.Proofs.YtlgcfpdmklieiaaDoor
