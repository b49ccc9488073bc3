/-
  The contract of Got.
-/
import Derived.Test.YtlgcfpdmklieiaaDoorU6
namespace Go.Proofs.YtlgcfpdmklieiaaDoor
open Go.RowKit
set_option maxRecDepth 100000

attribute [local go_sem ↓] ex_ld25 ex_ld67 ex_ld73 ex_st25 ex_st67 ex_st73 ex_eq25 ex_ne25 ex_ix22
attribute [local go_sem] ptrB_at okPtr_at aggC_at agg16 agg11 agg12 isO_at toO_at idx0 idx1 idx2 idx3 okIdx_at

/-- What Got answers. -/
def gotF (X : O) (v c : Int) : O × List (Int × Int) × Int :=
  if (okO X && (vOk v && cOk c)) = false then (X, [], 1)
  else if plK c = false then (X, nkF v c, 0)
  else (setO X (ofHim v) (plI c) (gF ((sideF X (ofHim v)).at_.at (plI c)) (isYes v) ((sideF X (ofHim v)).may.at (plI c))).1,
    sayL (sideF X (ofHim v)).yes (sideF X (ofHim v)).no (codeI (plI c)) (gF ((sideF X (ofHim v)).at_.at (plI c)) (isYes v) ((sideF X (ofHim v)).may.at (plI c))).2.1,
    (gF ((sideF X (ofHim v)).at_.at (plI c)) (isYes v) ((sideF X (ofHim v)).may.at (plI c))).2.2)

/-- Behind Got, and Ask: all options, one item at most, the error. -/
def GotG (w : World) (Z : O × List (Int × Int) × Int) (e : Ending) (w' : World) : Prop :=
  ∃ sl, e = .returned (.tuple #[Z.1.v, sl, .int .i64 Z.2.2]) ∧ One w' w.heap.size sl Z.2.1 ∧ Below w.heap.size w w'

theorem results_c3 {fn : Func} {p t u : Tmp} (h : fn.results = #[.cell p 25, .tmp t, .tmp u]) (tmps : Array Value) (w : World) (g : Nat) (X : O) (hp : tmps.getD p undef = .pointer (some ⟨g, 0, none⟩)) (hg : SR 25 w g X.cs) :
    (results fn tmps).run Tryd.prog w = .ok (.tuple #[X.v, tmps.getD t undef, tmps.getD u undef]) w := by
  have hp' : tmps[p]?.getD undef = .pointer (some ⟨g, 0, none⟩) := by simpa using hp
  simp [results, h, hp', asAddr, run_loadVar_row w g 25 25 _ (0, 0) _ hg Tryd.underlying25 rfl info25]

theorem P4_pl (c : Int) : P4 (plI c) := by
  unfold plI P4
  split
  · simp
  · split
    · simp
    · split <;> simp

theorem got_bad (X : O) (v c : Int) (h : (okO X && (vOk v && cOk c)) = false) (w : World) : Calls Tryd.prog 14 #[X.v, .int .i64 v, .int .i64 c] w (GotG w (X, [], 1)) := by
  have C0 := keepd (checkO_any X)
  have C1 := keepd (saying_any v c)
  have C2 := keepd (checkI_any v c)
  obtain ⟨a, ha⟩ : ∃ a, okO X = a := ⟨_, rfl⟩
  obtain ⟨b, hb⟩ : ∃ b, (vOk v && cOk c) = b := ⟨_, rfl⟩
  rw [ha, hb] at h
  rw [ha] at C0
  rw [hb] at C2
  clear ha hb
  cases a
  · simp only [Bool.false_eq_true, if_false] at C0
    clear h C1 C2
    go_enter Tryd.func14, Tryd.ntmps14
    go_upto_region 1 with fail
    generalize hW : (w.alloc (.cells X.cs.toArray 25)).alloc (.cells Z25.toArray 25) = W
    obtain ⟨h1, h2, h3, h4⟩ := two_new _ _ _ _ _ _ hW
    clear hW h4
    obtain ⟨r1, k1⟩ := h1.facts 16 rfl
    have H1 := keepd h1
    have H2 := keepd h2
    have H3 := keepd h3
    clear h1 h2 h3
    go_wp2_with fail
    with_reducible refine (C0.out _).mono ?_
    rintro e w1 ⟨rfl, hb⟩
    clear r1 k1
    have hs := H1.out.call hb H1.out.lt
    obtain ⟨r1, k1⟩ := hs.facts 16 rfl
    have ht := H2.out.call hb H2.out.lt
    obtain ⟨r2, k2⟩ := ht.facts 16 rfl
    have HS := keepd (ht.row X.cs)
    have HB := keepd (bRow (bCall H3.out hb) (b := w.heap.size + 1) (Nat.le_succ _) X.cs.toArray)
    clear hb hs ht H1 H2 H3 C0
    go_wp2_with fail
    exact bodyPost_ret (results_c3 Tryd.results14 _ _ (w.heap.size + 1) X rfl HS.out) rfl ⟨_, rfl, .inl ⟨rfl, rfl⟩, HB.out⟩
  · cases b
    · simp only [Bool.false_eq_true, if_false, if_true] at C0 C2
      clear h
      go_enter Tryd.func14, Tryd.ntmps14
      go_upto_region 1 with fail
      generalize hW : (w.alloc (.cells X.cs.toArray 25)).alloc (.cells Z25.toArray 25) = W
      obtain ⟨h1, h2, h3, h4⟩ := two_new _ _ _ _ _ _ hW
      clear hW h4
      obtain ⟨r1, k1⟩ := h1.facts 16 rfl
      have H1 := keepd h1
      have H2 := keepd h2
      have H3 := keepd h3
      clear h1 h2 h3
      go_wp2_with fail
      with_reducible refine (C0.out _).mono ?_
      rintro e w1 ⟨rfl, hb⟩
      clear r1 k1
      have H1 := keepd (H1.out.call hb H1.out.lt)
      have H2 := keepd (H2.out.call hb H2.out.lt)
      have H3 := keepd (bCall H3.out hb)
      clear hb C0
      go_wp2_with fail
      with_reducible refine (C1.out _).mono ?_
      rintro e w2 ⟨rfl, hb⟩
      have H1 := keepd (H1.out.call hb H1.out.lt)
      have H2 := keepd (H2.out.call hb H2.out.lt)
      have H3 := keepd (bCall H3.out hb)
      clear hb C1
      go_wp2_with fail
      with_reducible refine (C2.out _).mono ?_
      rintro e w3 ⟨rfl, hb⟩
      have hs := H1.out.call hb H1.out.lt
      obtain ⟨r1, k1⟩ := hs.facts 16 rfl
      have ht := H2.out.call hb H2.out.lt
      obtain ⟨r2, k2⟩ := ht.facts 16 rfl
      have HS := keepd (ht.row X.cs)
      have HB := keepd (bRow (bCall H3.out hb) (b := w.heap.size + 1) (Nat.le_succ _) X.cs.toArray)
      clear hb hs ht H1 H2 H3 C2
      go_wp2_with fail
      exact bodyPost_ret (results_c3 Tryd.results14 _ _ (w.heap.size + 1) X rfl HS.out) rfl ⟨_, rfl, .inl ⟨rfl, rfl⟩, HB.out⟩
    · cases h

end Go.Proofs.YtlgcfpdmklieiaaDoor
