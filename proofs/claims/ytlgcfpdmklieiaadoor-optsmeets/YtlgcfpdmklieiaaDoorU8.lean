/-
  The contract of Got: what is not kept, and what is.
-/
import Derived.Test.YtlgcfpdmklieiaaDoorU7
namespace Go.Proofs.YtlgcfpdmklieiaaDoor
open Go.RowKit
set_option maxRecDepth 100000

attribute [local go_sem ↓] ex_ld25 ex_ld67 ex_ld73 ex_st25 ex_st67 ex_st73 ex_eq25 ex_ne25 ex_ix22
attribute [local go_sem] ptrB_at okPtr_at aggC_at agg16 agg11 agg12 isO_at toO_at idx0 idx1 idx2 idx3 okIdx_at

/-- What lies in Got's memory: all options, the place of the answer. -/
structure GM (w : World) (X : O) (W : World) : Prop where
  opt : SR 25 W w.heap.size X.cs
  res : ∃ cs, SR 25 W (w.heap.size + 1) cs ∧ cs.length = 16
  bel : Below w.heap.size w W

theorem GM.lt {w W : World} {X : O} (h : GM w X W) : w.heap.size + 1 < W.heap.size := by
  obtain ⟨cs, h1, _⟩ := h.res
  exact h1.lt
theorem GM.call {w W W' : World} {X : O} (h : GM w X W) (hb : Below W.heap.size W W') : GM w X W' :=
  ⟨h.opt.call hb h.opt.lt, by obtain ⟨cs, h1, h2⟩ := h.res; exact ⟨cs, h1.call hb h1.lt, h2⟩, bCall h.bel hb⟩
theorem GM.drew {w W : World} {X : O} (h : GM w X W) : GM w X W.drew := ⟨h.opt, h.res, h.bel.drew⟩
theorem GM.st {w W : World} {X : O} (h : GM w X W) (cs : List Value) (hn : cs.length = 16) : GM w X (W.setRow (w.heap.size + 1) cs.toArray) := by
  obtain ⟨old, h1, h2⟩ := h.res
  exact ⟨(setRow_other W (w.heap.size + 1) w.heap.size _ (by omega)).trans h.opt, ⟨cs, h1.row cs, hn⟩, bRow h.bel (Nat.le_succ _) _⟩
theorem GM.stO {w W : World} {X : O} (h : GM w X W) (Y : O) : GM w X (W.setRow (w.heap.size + 1) Y.cs.toArray) := h.st Y.cs rfl
theorem GM.ans {w W : World} {X : O} (h : GM w X W) (Y : O) : SR 25 (W.setRow (w.heap.size + 1) Y.cs.toArray) (w.heap.size + 1) Y.cs := by
  obtain ⟨old, h1, h2⟩ := h.res
  exact h1.row Y.cs
theorem GM.f {w W : World} {X : O} (h : GM w X W) : rowOf W w.heap.size = X.cs.toArray ∧ isRow W 25 w.heap.size 16 = true ∧ isRow W 25 (w.heap.size + 1) 16 = true := by
  obtain ⟨cs, h1, h2⟩ := h.res
  exact ⟨(h.opt.facts 16 rfl).1, (h.opt.facts 16 rfl).2, (h1.facts 16 h2).2⟩
theorem GM.s {w W : World} {X : O} (h : GM w X W) : rowOf W w.heap.size = X.cs.toArray ∧ isRow W 25 w.heap.size 16 = true ∧ isRow W 25 (w.heap.size + 1) 16 = true ∧ GM w X W := ⟨h.f.1, h.f.2.1, h.f.2.2, h⟩

theorem One.row {w : World} {base b : Nat} {sl : Value} {L : List (Int × Int)} (h : One w base sl L) (hb : b < base) (cs : Array Value) : One (w.setRow b cs) base sl L := by
  rcases h with h | ⟨b', v, c, h1, h2, h3, h4⟩
  · exact .inl h
  · exact .inr ⟨b', v, c, h1, h2, h3, (setRow_other w b b' cs (by omega)).trans h4⟩
theorem One.drew {w : World} {base : Nat} {sl : Value} {L : List (Int × Int)} (h : One w.drew base sl L) : One w base sl L := h

theorem Laid.gm {w W : World} (hL : Laid w) (h : Below w.heap.size w W) : Laid W := hL.below h

/-- The way up to the place of the code. -/
theorem got_nk (X : O) (v c : Int) (h : (okO X && (vOk v && cOk c)) = true) (hk : plK c = false) (w : World) (hL : Laid w) : Calls Tryd.prog 14 #[X.v, .int .i64 v, .int .i64 c] w (GotG w (X, nkF v c, 0)) := by
  have C0 := keepd (checkO_any X)
  have C1 := keepd (saying_any v c)
  have C2 := keepd (checkI_any v c)
  have C3 := keepd (place_any c)
  have C4 := keepd (notKept_any v c)
  have HL := keepd hL
  rw [Bool.and_eq_true] at h
  rw [h.1] at C0
  rw [h.2] at C2
  rw [hk] at C3
  generalize plI c = p at *
  clear h hk hL
  simp only [if_true] at C0 C2
  go_enter Tryd.func14, Tryd.ntmps14
  go_upto_region 1 with fail
  generalize hW : (w.alloc (.cells X.cs.toArray 25)).alloc (.cells Z25.toArray 25) = W
  obtain ⟨h1, h2, h3, h4⟩ := two_new _ _ _ _ _ _ hW
  clear hW h4
  have G := keepd (GM.mk h1 ⟨_, h2, rfl⟩ h3)
  clear h1 h2 h3
  obtain ⟨r1, k1, _⟩ := G.out.f
  go_wp2_with fail
  with_reducible refine (C0.out _).mono ?_
  rintro e w1 ⟨rfl, hb⟩
  have G := keepd (G.out.call hb)
  clear hb C0 r1 k1
  go_wp2_with fail
  with_reducible refine (C1.out _).mono ?_
  rintro e w2 ⟨rfl, hb⟩
  have G := keepd (G.out.call hb)
  clear hb C1
  go_wp2_with fail
  with_reducible refine (C2.out _).mono ?_
  rintro e w3 ⟨rfl, hb⟩
  have G := keepd (G.out.call hb)
  clear hb C2
  go_wp2_with fail
  with_reducible refine (C3.out _ (HL.out.below G.out.bel)).mono ?_
  rintro e w4 ⟨rfl, rfl⟩
  clear C3
  go_wp2_with fail
  have G3 := G.out
  obtain ⟨r1, k1, k2⟩ := G.out.f
  have hlt := G3.lt
  go_region_held3 (fun W => rowOf W w.heap.size = X.cs.toArray ∧ isRow W 25 w.heap.size 16 = true ∧ isRow W 25 (w.heap.size + 1) 16 = true ∧ GM w X W)
    ((refine GM.s ?_; repeat (first | assumption | refine GM.drew ?_ | refine GM.stO ?_ _)))
    (first | (go_at_call 28; (with_reducible refine (C4.out _).mono ?_); rintro e w5 ⟨sl, rfl, ho, hb⟩; have G5 := (GM.drew G3).call hb))
  have HS := keepd (G5.ans X)
  have HO := keepd ((ho.row (b := w.heap.size + 1) hlt X.cs.toArray).base (base' := w.heap.size) (Nat.le_trans (by omega) hlt))
  have HB := keepd (G5.stO X).bel
  clear ho hb G3 G5 r1 k1 k2 hlt
  go_wp2_with fail
  exact bodyPost_ret (results_c3 Tryd.results14 _ _ (w.heap.size + 1) X rfl HS.out) rfl ⟨_, rfl, HO.out, HB.out⟩

/-- Besides: an option of a side. -/
structure GK (w : World) (X : O) (bx : Nat) (xs : List Value) (W : World) : Prop where
  gm : GM w X W
  opx : SR 73 W bx xs
  len : xs.length = 12
  ge : w.heap.size + 2 ≤ bx

theorem GK.call {w W W' : World} {X : O} {bx : Nat} {xs : List Value} (h : GK w X bx xs W) (hb : Below W.heap.size W W') : GK w X bx xs W' := ⟨h.gm.call hb, h.opx.call hb h.opx.lt, h.len, h.ge⟩
theorem GK.drew {w W : World} {X : O} {bx : Nat} {xs : List Value} (h : GK w X bx xs W) : GK w X bx xs W.drew := ⟨h.gm.drew, h.opx, h.len, h.ge⟩
theorem GK.stO {w W : World} {X : O} {bx : Nat} {xs : List Value} (h : GK w X bx xs W) (Y : O) : GK w X bx xs (W.setRow (w.heap.size + 1) Y.cs.toArray) :=
  ⟨h.gm.stO Y, (setRow_other W (w.heap.size + 1) bx _ (by have := h.ge; omega)).trans h.opx, h.len, h.ge⟩
theorem GK.new {w W : World} {X : O} (h : GM w X W) (xs : List Value) (hn : xs.length = 12) : GK w X W.heap.size xs (W.alloc (.cells xs.toArray 73)) :=
  ⟨h.call (bAlloc (Below.refl _ _) _), heap_alloc_new W _, hn, by have := h.lt; omega⟩
theorem GK.s {w W : World} {X : O} {bx : Nat} {xs : List Value} (h : GK w X bx xs W) : rowOf W w.heap.size = X.cs.toArray ∧ isRow W 25 w.heap.size 16 = true ∧ isRow W 25 (w.heap.size + 1) 16 = true ∧ rowOf W bx = xs.toArray ∧ isRow W 73 bx 12 = true ∧ GK w X bx xs W :=
  ⟨h.gm.f.1, h.gm.f.2.1, h.gm.f.2.2, (h.opx.facts 12 h.len).1, (h.opx.facts 12 h.len).2, h⟩

set_option maxHeartbeats 1000000 in
theorem got_kept (X : O) (v c : Int) (h : (okO X && (vOk v && cOk c)) = true) (hk : plK c = true) (a b d : Int) (hz : gF ((sideF X (ofHim v)).at_.at (plI c)) (isYes v) ((sideF X (ofHim v)).may.at (plI c)) = (a, b, d)) (w : World) (hL : Laid w) :
    Calls Tryd.prog 14 #[X.v, .int .i64 v, .int .i64 c] w (GotG w (setO X (ofHim v) (plI c) a, sayL (sideF X (ofHim v)).yes (sideF X (ofHim v)).no (codeI (plI c)) b, d)) := by
  have C0 := keepd (checkO_any X)
  have C1 := keepd (saying_any v c)
  have C2 := keepd (checkI_any v c)
  have C3 := keepd (place_any c)
  have hp := P4_pl c
  have C4 := keepd (speaksOf_any X v)
  have C5 := keepd (where_any (sideF X (ofHim v)) (plI c) hp)
  have C6 := keepd (isYes_any v)
  have C7 := keepd (allowed_any (sideF X (ofHim v)) (plI c) hp)
  have C8 := keepd (fun W (hW : Laid W) => got_at _ _ _ a b d hz W hW)
  have C9 := keepd (moved_any X (ofHim v) (plI c) hp a)
  have Ca := keepd (says_any (sideF X (ofHim v)) (plI c) hp b)
  have HL := keepd hL
  rw [Bool.and_eq_true] at h
  rw [h.1] at C0
  rw [h.2] at C2
  rw [hk] at C3
  clear h hk hL hz hp
  obtain ⟨Y, hY⟩ : ∃ Y, setO X (ofHim v) (plI c) a = Y := ⟨_, rfl⟩
  rw [hY] at C9 ⊢
  clear hY
  obtain ⟨L, hLL⟩ : ∃ L, sayL (sideF X (ofHim v)).yes (sideF X (ofHim v)).no (codeI (plI c)) b = L := ⟨_, rfl⟩
  rw [hLL] at Ca ⊢
  clear hLL
  generalize isYes v = y at *
  generalize sideF X (ofHim v) = S at *
  generalize plI c = p at *
  generalize S.at_.at p = q at *
  generalize S.may.at p = m at *
  simp only [if_true] at C0 C2
  go_enter Tryd.func14, Tryd.ntmps14
  go_upto_region 1 with fail
  generalize hW : (w.alloc (.cells X.cs.toArray 25)).alloc (.cells Z25.toArray 25) = W
  obtain ⟨h1, h2, h3, h4⟩ := two_new _ _ _ _ _ _ hW
  clear hW h4
  have G := keepd (GM.mk h1 ⟨_, h2, rfl⟩ h3)
  clear h1 h2 h3
  obtain ⟨r1, k1, _⟩ := G.out.f
  go_wp2_with fail
  with_reducible refine (C0.out _).mono ?_
  rintro e w1 ⟨rfl, hb⟩
  have G := keepd (G.out.call hb)
  clear hb C0 r1 k1
  go_wp2_with fail
  with_reducible refine (C1.out _).mono ?_
  rintro e w2 ⟨rfl, hb⟩
  have G := keepd (G.out.call hb)
  clear hb C1
  go_wp2_with fail
  with_reducible refine (C2.out _).mono ?_
  rintro e w3 ⟨rfl, hb⟩
  have G := keepd (G.out.call hb)
  clear hb C2
  go_wp2_with fail
  with_reducible refine (C3.out _ (HL.out.below G.out.bel)).mono ?_
  rintro e w4 ⟨rfl, rfl⟩
  clear C3
  obtain ⟨r1, k1, _⟩ := G.out.f
  go_wp2_with fail
  with_reducible refine (C4.out _).mono ?_
  rintro e w5 ⟨rfl, hb⟩
  have G := keepd (G.out.call hb)
  clear hb C4 r1 k1
  go_wp2_with fail
  generalize hW : w5.alloc (.cells (S.xs p).toArray 73) = W6
  have K := GK.new G.out (S.xs p) rfl
  rw [hW] at K
  clear hW
  generalize w5.heap.size = bx at *
  have HK := keepd K
  clear K
  go_cut [12, 13, 14] (fun s12 s13 s14 wx => s12 = .int .i64 a ∧ s13 = .int .i64 b ∧ s14 = .int .i64 d ∧ Hid (GK w X bx (S.xs p) wx))
  case first =>
    have K := HK.out
    obtain ⟨r1, k1, k2, r3, k3, _⟩ := K.s
    go_region_held3 (fun W => rowOf W w.heap.size = X.cs.toArray ∧ isRow W 25 w.heap.size 16 = true ∧ isRow W 25 (w.heap.size + 1) 16 = true ∧ rowOf W bx = (S.xs p).toArray ∧ isRow W 73 bx 12 = true ∧ GK w X bx (S.xs p) W)
      ((refine GK.s ?_; repeat (first | assumption | refine GK.drew ?_ | refine GK.stO ?_ _)))
      (first
        | (go_at_call 31; (with_reducible refine (C5.out _).mono ?_); rintro e w7 ⟨rfl, hb⟩; have K7 := GK.call (by first | assumption | exact GK.drew (by assumption)) hb; clear hb)
        | (go_at_call 32; (with_reducible refine (C6.out _).mono ?_); rintro e w7 ⟨rfl, rfl⟩)
        | (go_at_call 33; (with_reducible refine (C7.out _).mono ?_); rintro e w7 ⟨rfl, hb⟩; have K7 := GK.call (by first | assumption | exact GK.drew (by assumption)) hb; clear hb)
        | (go_at_call 30; (with_reducible refine (C8.out _ (HL.out.below (GK.gm (by first | assumption | exact GK.drew (by assumption))).bel)).mono ?_); rintro e w7 ⟨rfl, hb⟩; have K7 := GK.call (by first | assumption | exact GK.drew (by assumption)) hb; clear hb))
    all_goals go_wp2_with fail
    all_goals go_meet
    all_goals exact ⟨rfl, rfl, rfl, K7⟩
  case rest =>
    obtain ⟨rfl, rfl, rfl, HK7⟩ := hcut
    clear HK C5 C6 C7 C8
    go_wp2_with fail
    have K := HK7.out
    obtain ⟨r1, k1, k2, r3, k3, _⟩ := K.s
    go_region_held3 (fun W => rowOf W w.heap.size = X.cs.toArray ∧ isRow W 25 w.heap.size 16 = true ∧ isRow W 25 (w.heap.size + 1) 16 = true ∧ rowOf W bx = (S.xs p).toArray ∧ isRow W 73 bx 12 = true ∧ GK w X bx (S.xs p) W)
      ((refine GK.s ?_; repeat (first | assumption | refine GK.drew ?_ | refine GK.stO ?_ _)))
      (first
        | (go_at_call 34; (with_reducible refine (C9.out _).mono ?_); rintro e w8 ⟨rfl, hb⟩; have K8 := GK.call (by first | assumption | exact GK.drew (by assumption)) hb; (try have ho := One.below (by assumption) hb); clear hb)
        | (go_at_call 35; (with_reducible refine (Ca.out _ (HL.out.below (GK.gm (by first | assumption | exact GK.drew (by assumption))).bel)).mono ?_); rintro e w8 ⟨sl, rfl, hs, hb⟩; have K8 := GK.call (by first | assumption | exact GK.drew (by assumption)) hb; have ho := hs.base (base' := w.heap.size + 2) (GM.lt (GK.gm (by first | assumption | exact GK.drew (by assumption)))); clear hb hs))
    all_goals
      have HS := keepd (K8.gm.ans Y)
      have HO := keepd ((One.row (by assumption) (b := w.heap.size + 1) (by omega) Y.cs.toArray).base (base' := w.heap.size) (by omega))
      have HB := keepd (K8.gm.stO Y).bel
      clear K r1 k1 k2 r3 k3
      go_wp2_with fail
      exact bodyPost_ret (results_c3 Tryd.results14 _ _ (w.heap.size + 1) Y rfl HS.out) rfl ⟨_, rfl, HO.out, HB.out⟩

/-- Got: what is answered is gotF. -/
theorem gotO_any (X : O) (v c : Int) (w : World) (hL : Laid w) : Calls Tryd.prog 14 #[X.v, .int .i64 v, .int .i64 c] w (GotG w (gotF X v c)) := by
  unfold gotF
  cases h : (okO X && (vOk v && cOk c))
  · rw [if_pos rfl]
    exact got_bad X v c h w
  · rw [if_neg (by simp)]
    cases hk : plK c
    · rw [if_pos rfl]
      exact got_nk X v c h hk w hL
    · rw [if_neg (by simp)]
      obtain ⟨⟨a, b, d⟩, hz⟩ : ∃ z, gF ((sideF X (ofHim v)).at_.at (plI c)) (isYes v) ((sideF X (ofHim v)).may.at (plI c)) = z := ⟨_, rfl⟩
      rw [hz]
      exact got_kept X v c h hk a b d hz w hL

end Go.Proofs.YtlgcfpdmklieiaaDoor
