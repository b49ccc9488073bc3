/-
  The contract of Ask.
-/
import Derived.Test.YtlgcfpdmklieiaaDoorU8
namespace Go.Proofs.YtlgcfpdmklieiaaDoor
open Go.RowKit
set_option maxRecDepth 100000

attribute [local go_sem ↓] ex_ld25 ex_ld67 ex_ld73 ex_st25 ex_st67 ex_st73 ex_eq25 ex_ne25 ex_ix22
attribute [local go_sem] ptrB_at okPtr_at aggC_at agg16 agg11 agg12 isO_at toO_at idx0 idx1 idx2 idx3 okIdx_at

theorem LaidA.laid {w : World} (h : LaidA w) : Laid w := h.1

def pOk (p : Int) : Bool := decide (0 ≤ p ∧ p ≤ 3)

/-- What Ask answers. -/
def askF (X : O) (h : Bool) (p : Int) (on : Bool) : O × List (Int × Int) × Int :=
  if (okO X && pOk p) = false then (X, [], 1)
  else if (on && !(sideF X h).may.at p) = true then (X, [], 5)
  else (setO X h p (aF ((sideF X h).at_.at p) on).1, sayL (sideF X h).yes (sideF X h).no (codeI p) (aF ((sideF X h).at_.at p) on).2.1, (aF ((sideF X h).at_.at p) on).2.2)

theorem ask_bad (X : O) (h : Bool) (p : Int) (on : Bool) (hh : (okO X && pOk p) = false) (w : World) : Calls Tryd.prog 15 #[X.v, .bool h, .int .i64 p, .bool on] w (GotG w (X, [], 1)) := by
  have C0 := keepd (checkO_any X)
  obtain ⟨a, ha⟩ : ∃ a, okO X = a := ⟨_, rfl⟩
  rw [ha] at hh C0
  clear ha
  cases a
  · simp only [Bool.false_eq_true, if_false] at C0
    clear hh
    go_enter Tryd.func15, Tryd.ntmps15
    go_upto_region 1 with fail
    generalize hW : (w.alloc (.cells X.cs.toArray 25)).alloc (.cells Z25.toArray 25) = W
    obtain ⟨h1, h2, h3, h4⟩ := two_new _ _ _ _ _ _ hW
    clear hW h4
    have G := keepd (GM.mk h1 ⟨_, h2, rfl⟩ h3)
    clear h1 h2 h3
    obtain ⟨r1, k1, _⟩ := G.out.f
    go_wp2_with fail
    with_reducible refine (C0.out _).mono ?_
    rintro e w1 ⟨rfl, hb⟩
    have G := keepd (G.out.call hb)
    clear hb C0 r1 k1
    obtain ⟨r1, k1, k2⟩ := G.out.f
    have HS := keepd (G.out.ans X)
    have HB := keepd (G.out.stO X).bel
    clear G
    go_wp2_with fail
    exact bodyPost_ret (results_c3 Tryd.results15 _ _ (w.heap.size + 1) X rfl HS.out) rfl ⟨_, rfl, .inl ⟨rfl, rfl⟩, HB.out⟩
  · simp only [if_true] at C0
    rw [Bool.true_and] at hh
    unfold pOk at hh
    by_cases h0 : p < 0
    · have g1 : decide (p < 0) = true := by simp [h0]
      clear hh h0
      go_enter Tryd.func15, Tryd.ntmps15
      go_upto_region 1 with fail
      generalize hW : (w.alloc (.cells X.cs.toArray 25)).alloc (.cells Z25.toArray 25) = W
      obtain ⟨h1, h2, h3, h4⟩ := two_new _ _ _ _ _ _ hW
      clear hW h4
      have G := keepd (GM.mk h1 ⟨_, h2, rfl⟩ h3)
      clear h1 h2 h3
      obtain ⟨r1, k1, _⟩ := G.out.f
      go_wp2_with fail
      with_reducible refine (C0.out _).mono ?_
      rintro e w1 ⟨rfl, hb⟩
      have G := keepd (G.out.call hb)
      clear hb C0 r1 k1
      obtain ⟨r1, k1, k2⟩ := G.out.f
      have HS := keepd (G.out.ans X)
      have HB := keepd (G.out.stO X).bel
      clear G
      go_wp2_with fail
      exact bodyPost_ret (results_c3 Tryd.results15 _ _ (w.heap.size + 1) X rfl HS.out) rfl ⟨_, rfl, .inl ⟨rfl, rfl⟩, HB.out⟩
    · have g1 : decide (p < 0) = false := by simp; omega
      have g2 : decide (4 ≤ p) = true := by simp at hh; simp; omega
      clear hh h0
      go_enter Tryd.func15, Tryd.ntmps15
      go_upto_region 1 with fail
      generalize hW : (w.alloc (.cells X.cs.toArray 25)).alloc (.cells Z25.toArray 25) = W
      obtain ⟨h1, h2, h3, h4⟩ := two_new _ _ _ _ _ _ hW
      clear hW h4
      have G := keepd (GM.mk h1 ⟨_, h2, rfl⟩ h3)
      clear h1 h2 h3
      obtain ⟨r1, k1, _⟩ := G.out.f
      go_wp2_with fail
      with_reducible refine (C0.out _).mono ?_
      rintro e w1 ⟨rfl, hb⟩
      have G := keepd (G.out.call hb)
      clear hb C0 r1 k1
      obtain ⟨r1, k1, k2⟩ := G.out.f
      have HS := keepd (G.out.ans X)
      have HB := keepd (G.out.stO X).bel
      clear G
      go_wp2_with fail
      exact bodyPost_ret (results_c3 Tryd.results15 _ _ (w.heap.size + 1) X rfl HS.out) rfl ⟨_, rfl, .inl ⟨rfl, rfl⟩, HB.out⟩

theorem ask_not (X : O) (h : Bool) (p : Int) (hh : okO X = true) (hp : P4 p) (hm : (sideF X h).may.at p = false) (w : World) : Calls Tryd.prog 15 #[X.v, .bool h, .int .i64 p, .bool true] w (GotG w (X, [], 5)) := by
  have C0 := keepd (checkO_any X)
  have C4 := keepd (sideOf_any X h)
  have C7 := keepd (allowed_any (sideF X h) p hp)
  rw [hh] at C0
  rw [hm] at C7
  have g1 : decide (p < 0) = false := by unfold P4 at hp; simp; omega
  have g2 : decide (4 ≤ p) = false := by unfold P4 at hp; simp; omega
  clear hh hp hm
  generalize sideF X h = S at *
  simp only [if_true] at C0
  go_enter Tryd.func15, Tryd.ntmps15
  go_upto_region 1 with fail
  generalize hW : (w.alloc (.cells X.cs.toArray 25)).alloc (.cells Z25.toArray 25) = W
  obtain ⟨h1, h2, h3, h4⟩ := two_new _ _ _ _ _ _ hW
  clear hW h4
  have G := keepd (GM.mk h1 ⟨_, h2, rfl⟩ h3)
  clear h1 h2 h3
  obtain ⟨r1, k1, _⟩ := G.out.f
  go_wp2_with fail
  with_reducible refine (C0.out _).mono ?_
  rintro e w1 ⟨rfl, hb⟩
  have G := keepd (G.out.call hb)
  clear hb C0 r1 k1
  obtain ⟨r1, k1, _⟩ := G.out.f
  go_wp2_with fail
  with_reducible refine (C4.out _).mono ?_
  rintro e w5 ⟨rfl, hb⟩
  have G := keepd (G.out.call hb)
  clear hb C4 r1 k1
  go_upto_region 4 with fail
  generalize hW : w5.alloc (.cells (S.xs p).toArray 73) = W6
  have K := GK.new G.out (S.xs p) rfl
  rw [hW] at K
  clear hW
  generalize w5.heap.size = bx at *
  have HK := keepd K
  obtain ⟨r1, k1, k2, r3, k3, _⟩ := K.s
  clear K G
  go_wp2_with fail
  with_reducible refine (C7.out _).mono ?_
  rintro e w6 ⟨rfl, hb⟩
  have G := keepd (HK.out.gm.call hb)
  clear hb C7 r1 k1 k2 r3 k3 HK
  obtain ⟨r1, k1, k2⟩ := G.out.f
  have HS := keepd (G.out.ans X)
  have HB := keepd (G.out.stO X).bel
  clear G
  go_wp2_with fail
  exact bodyPost_ret (results_c3 Tryd.results15 _ _ (w.heap.size + 1) X rfl HS.out) rfl ⟨_, rfl, .inl ⟨rfl, rfl⟩, HB.out⟩

set_option maxHeartbeats 1000000 in
theorem ask_ok (X : O) (h : Bool) (p : Int) (on : Bool) (hh : okO X = true) (hp : P4 p) (hm : (on && !(sideF X h).may.at p) = false) (a b d : Int) (hz : aF ((sideF X h).at_.at p) on = (a, b, d)) (w : World) (hL : LaidA w) :
    Calls Tryd.prog 15 #[X.v, .bool h, .int .i64 p, .bool on] w (GotG w (setO X h p a, sayL (sideF X h).yes (sideF X h).no (codeI p) b, d)) := by
  have C0 := keepd (checkO_any X)
  have C4 := keepd (sideOf_any X h)
  have C5 := keepd (where_any (sideF X h) p hp)
  have C7 := keepd (allowed_any (sideF X h) p hp)
  have C8 := keepd (fun W (hW : LaidA W) => ask_at _ _ a b d hz W hW)
  have C9 := keepd (moved_any X h p hp a)
  have Ca := keepd (says_any (sideF X h) p hp b)
  have HL := keepd hL
  rw [hh] at C0
  have g1 : decide (p < 0) = false := by unfold P4 at hp; simp; omega
  have g2 : decide (4 ≤ p) = false := by unfold P4 at hp; simp; omega
  clear hh hp hL hz
  obtain ⟨Y, hY⟩ : ∃ Y, setO X h p a = Y := ⟨_, rfl⟩
  rw [hY] at C9 ⊢
  clear hY
  obtain ⟨L, hLL⟩ : ∃ L, sayL (sideF X h).yes (sideF X h).no (codeI p) b = L := ⟨_, rfl⟩
  rw [hLL] at Ca ⊢
  clear hLL
  generalize sideF X h = S at *
  generalize S.at_.at p = q at *
  generalize S.may.at p = m at *
  simp only [if_true] at C0
  go_enter Tryd.func15, Tryd.ntmps15
  go_upto_region 1 with fail
  generalize hW : (w.alloc (.cells X.cs.toArray 25)).alloc (.cells Z25.toArray 25) = W
  obtain ⟨h1, h2, h3, h4⟩ := two_new _ _ _ _ _ _ hW
  clear hW h4
  have G := keepd (GM.mk h1 ⟨_, h2, rfl⟩ h3)
  clear h1 h2 h3
  obtain ⟨r1, k1, _⟩ := G.out.f
  go_wp2_with fail
  with_reducible refine (C0.out _).mono ?_
  rintro e w1 ⟨rfl, hb⟩
  have G := keepd (G.out.call hb)
  clear hb C0 r1 k1
  obtain ⟨r1, k1, _⟩ := G.out.f
  go_wp2_with fail
  with_reducible refine (C4.out _).mono ?_
  rintro e w5 ⟨rfl, hb⟩
  have G := keepd (G.out.call hb)
  clear hb C4 r1 k1
  go_upto_region 4 with fail
  generalize hW : w5.alloc (.cells (S.xs p).toArray 73) = W6
  have K := GK.new G.out (S.xs p) rfl
  rw [hW] at K
  clear hW
  generalize w5.heap.size = bx at *
  have HK := keepd K
  clear K G
  go_cut [37] (fun s37 wx => s37 = .bool false ∧ Hid (GK w X bx (S.xs p) wx))
  case first =>
    cases on
    · clear C7
      go_wp2_with fail
      go_meet
      exact ⟨rfl, HK.out⟩
    · rw [Bool.true_and] at hm
      cases m
      · cases hm
      · clear hm
        obtain ⟨r1, k1, k2, r3, k3, _⟩ := HK.out.s
        go_wp2_with fail
        with_reducible refine (C7.out _).mono ?_
        rintro e w6 ⟨rfl, hb⟩
        have K := HK.out.call hb
        clear hb C7 r1 k1 k2 r3 k3 HK
        go_wp2_with fail
        go_meet
        exact ⟨rfl, K⟩
  case rest =>
    obtain ⟨rfl, HK7⟩ := hcut
    clear HK C7 hm
    obtain ⟨r1, k1, k2, r3, k3, _⟩ := HK7.out.s
    go_wp2_with fail
    with_reducible refine (C5.out _).mono ?_
    rintro e w7 ⟨rfl, hb⟩
    have HK7 := keepd (HK7.out.call hb)
    clear hb C5 r1 k1 k2 r3 k3
    go_wp2_with fail
    with_reducible refine (C8.out _ (HL.out.below HK7.out.gm.bel)).mono ?_
    rintro e w8 ⟨rfl, hb⟩
    have K := HK7.out.call hb
    clear hb C8 HK7
    obtain ⟨r1, k1, k2, r3, k3, _⟩ := K.s
    go_wp2_with fail
    go_region_held3 (fun W => rowOf W w.heap.size = X.cs.toArray ∧ isRow W 25 w.heap.size 16 = true ∧ isRow W 25 (w.heap.size + 1) 16 = true ∧ rowOf W bx = (S.xs p).toArray ∧ isRow W 73 bx 12 = true ∧ GK w X bx (S.xs p) W)
      ((refine GK.s ?_; repeat (first | assumption | refine GK.drew ?_ | refine GK.stO ?_ _)))
      (first
        | (go_at_call 34; (with_reducible refine (C9.out _).mono ?_); rintro e w8 ⟨rfl, hb⟩; have K8 := GK.call (by first | assumption | exact GK.drew (by assumption)) hb; (try have ho := One.below (by assumption) hb); clear hb)
        | (go_at_call 35; (with_reducible refine (Ca.out _ ((LaidA.laid HL.out).below (GK.gm (by first | assumption | exact GK.drew (by assumption))).bel)).mono ?_); rintro e w8 ⟨sl, rfl, hs, hb⟩; have K8 := GK.call (by first | assumption | exact GK.drew (by assumption)) hb; have ho := hs.base (base' := w.heap.size + 2) (GM.lt (GK.gm (by first | assumption | exact GK.drew (by assumption)))); clear hb hs))
    all_goals
      have HS := keepd (K8.gm.ans Y)
      have HO := keepd ((One.row (by assumption) (b := w.heap.size + 1) (by omega) Y.cs.toArray).base (base' := w.heap.size) (by omega))
      have HB := keepd (K8.gm.stO Y).bel
      clear K r1 k1 k2 r3 k3
      go_wp2_with fail
      exact bodyPost_ret (results_c3 Tryd.results15 _ _ (w.heap.size + 1) Y rfl HS.out) rfl ⟨_, rfl, HO.out, HB.out⟩

theorem P4_ok {p : Int} (h : pOk p = true) : P4 p := by
  unfold pOk at h
  unfold P4
  simp at h
  omega

/-- Ask: what is answered is askF. -/
theorem askO_any (X : O) (h : Bool) (p : Int) (on : Bool) (w : World) (hL : LaidA w) : Calls Tryd.prog 15 #[X.v, .bool h, .int .i64 p, .bool on] w (GotG w (askF X h p on)) := by
  unfold askF
  cases hh : (okO X && pOk p)
  · rw [if_pos rfl]
    exact ask_bad X h p on hh w
  · rw [if_neg (by simp)]
    rw [Bool.and_eq_true] at hh
    have hp := P4_ok hh.2
    cases hm : (on && !(sideF X h).may.at p)
    · rw [if_neg (by simp)]
      obtain ⟨⟨a, b, d⟩, hz⟩ : ∃ z, aF ((sideF X h).at_.at p) on = z := ⟨_, rfl⟩
      rw [hz]
      exact ask_ok X h p on hh.1 hp hm a b d hz w hL
    · rw [if_pos rfl]
      rw [Bool.and_eq_true, Bool.not_eq_true'] at hm
      obtain ⟨rfl, hm⟩ := hm
      exact ask_not X h p hh.1 hp hm w

end Go.Proofs.YtlgcfpdmklieiaaDoor
