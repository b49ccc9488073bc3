/-
  The contracts of the readers of triples, of a mask, of each kind. No conditions beyond those each theorem states.
-/
import Derived.Test.YtflmplnampgflaaP2
import Derived.Test.YtflmplnampgflaaS6
namespace Go.Proofs.Ytflmplnampgflaa
open Go.RowKit
set_option maxRecDepth 100000

attribute [local go_sem ↓] ex_ld23 ex_st23 ex_al23 ex_bu23 ex_eq23 ex_ne23 ex_ld26 ex_st26 ex_al26 ex_ld23o ex_st23o ex_bu26 ex_bu26k ex_bu26m ex_bu26l ex_bu26v ex_bu26w ex_eq29 ex_ne29
attribute [local go_sem] ptrB_at okPtr_at aggC_at agg32 agg36 isM_at eqV_m isRow_new isRow_new26 World.setRow_alloc_new ptr3_at okPtr3_at cutM_at putM_at isI_at isL_at bK_at bKM_at bKL_at bKVM_at bKV_at isV_at toV_at

/-- What a reader answers: a sub, or it gives up. -/
def GotS (w : World) : Option Sb → Ending → World → Prop
  | none, e, w' => e = .panicked boom ∧ Below w.heap.size w w'
  | some X, e, w' => ∃ A n c, e = .returned (sv X.k X.m X.v X.M (.slice A n c)) ∧ n = X.L.length ∧ RdT w' A X.L c ∧ Below w.heap.size w w'

theorem sc_nobool {k m v : Int} {M : Mk} {A : Option Addr} {n c : Nat} {j : Nat} {u : Bool} (h : (sc k m v M (.slice A n c))[j]? = some (.bool u)) : False := by
  have hm := List.mem_of_getElem? h
  unfold sc ms at hm
  simp [bv] at hm
/-- A row of triples lies in no sub's block. -/
theorem RdT.apart {w : World} {A : Option Addr} {L : List Tr} {c : Nat} (h : RdT w A L c) {g : Nat} {k m v : Int} {M : Mk} {A' : Option Addr} {n' c' : Nat} (hs : SB w g k m v M (.slice A' n' c')) {b off : Nat} (e : A = some ⟨b, off, none⟩) (hne : L ≠ []) : b ≠ g := by
  rintro rfl
  obtain ⟨b2, off2, e2, hlt, hce⟩ := h.2.2 hne
  rw [e] at e2
  injection e2 with e2
  injection e2 with e2 e3
  subst e2 e3
  obtain ⟨x, hx⟩ : ∃ x, L[0]? = some x := ⟨L[0]'(List.length_pos_iff.2 hne), List.getElem?_eq_getElem _⟩
  have := (hce 0 x hx).2.2.1
  rw [SR.cell hs] at this
  exact sc_nobool this
theorem RdT.row {w : World} {A : Option Addr} {L : List Tr} {c : Nat} (h : RdT w A L c) {g : Nat} {k m v : Int} {M : Mk} {A' : Option Addr} {n' c' : Nat} (hs : SB w g k m v M (.slice A' n' c')) (cs : Array Value) : RdT (w.setRow g cs) A L c := by
  refine ⟨h.1, h.2.1, fun hne => ?_⟩
  obtain ⟨b, off, e, hlt, hce⟩ := h.2.2 hne
  have hb := h.apart hs e hne
  have hc : ∀ o, (w.setRow g cs).cell? ⟨b, o, none⟩ = w.cell? ⟨b, o, none⟩ := fun o => by
    unfold World.cell?
    rw [setRow_other w g b cs hb]
  refine ⟨b, off, e, by simpa [World.setRow] using hlt, fun i x hi => ?_⟩
  obtain ⟨e0, e1, e2, e3, e4, e5⟩ := hce i x hi
  exact ⟨(hc _).trans e0, (hc _).trans e1, (hc _).trans e2, (hc _).trans e3, (hc _).trans e4, (hc _).trans e5⟩

theorem mode_any (A : Option Addr) (b : List UInt8) (n c : Nat) (w : World) (hn : n = b.length) (hr : Rd w w.heap.size A b c) : Calls Try.prog 42 #[.slice A n c] w (GotS w (modeR b)) := by
  by_cases h : n = 1
  · obtain ⟨u, hu⟩ := one_of (r := b) (by omega)
    refine (mode_yes A b u n c w h hu hr).mono ?_
    rintro e w2 ⟨rfl, hb⟩
    rw [hu]
    exact ⟨none, 0, 0, rfl, rfl, RdT.nil _, hb⟩
  · rw [modeR_no (by omega)]
    exact mode_no A n c w h

set_option maxHeartbeats 1000000 in
theorem trip_any (A : Option Addr) (b : List UInt8) (n c : Nat) (w : World) (hn : n = b.length) (hr : Rd w w.heap.size A b c) : Calls Try.prog 43 #[.slice A n c] w (GotS w (tripR b)) := by
  have HN := keepd hn
  have HR := keepd hr
  clear hn hr
  by_cases h : n ≤ 510
  · have g1 : decide ((n : Int) ≤ 510) = true := decide_eq_true (by omega)
    have HT : Hid (tripR b = (getL b).map fun L => ⟨3, 0, 0, zM, L⟩) := by
      show _ = _
      unfold tripR
      rw [if_pos (by rw [← HN.out]; exact h)]
    go_enter Try.func43, Try.ntmps43
    go_upto_region 1 with fail
    generalize hV : w.alloc (.cells (sc 0 0 0 zM (.slice none 0 0)).toArray 26) = V
    obtain ⟨h1, h2, h3⟩ := one_new _ _ _ _ hV
    obtain ⟨g, hg⟩ : ∃ g, w.heap.size = g := ⟨_, rfl⟩
    rw [hg] at h1
    rw [hg]
    have HG := keepd hg
    have H1 := keepd h1
    have HB := keepd h2
    clear hV hg h3 h1 h2
    go_wp2_with fail
    with_reducible refine (need_yes _).mono ?_
    rintro e V ⟨rfl, rfl⟩
    cases hq : getL b with
    | none =>
      rw [hq] at HT
      obtain ⟨p1, p2⟩ := got_no hq
      have C := keepd (tget_any A b n c [] 0 2 V HN.out (by omega) (HR.out.at_ HB.out) p1 rfl p2)
      clear p1 p2 hq g1 h
      go_wp2_with fail
      with_reducible refine C.out.mono ?_
      rintro e w3 ⟨A3, c3, rfl, _, hb3⟩
      have HB3 := keepd (bCall HB.out hb3)
      clear hb3
      go_wp2_with fail
      with_reducible refine (need_no _).mono ?_
      rintro e w3 ⟨rfl, rfl⟩
      go_wp2_with fail
      refine ⟨rfl, ?_⟩
      rw [HT.out]
      exact ⟨rfl, HB3.out⟩
    | some L =>
      rw [hq] at HT
      obtain ⟨p1, p2⟩ := got_yes hq
      obtain ⟨zl, hzl⟩ : ∃ zl, L.length = zl := ⟨_, rfl⟩
      have C := keepd (tget_any A b n c L zl 0 V HN.out (by omega) (HR.out.at_ HB.out) p1 hzl p2)
      have HZ := keepd hzl
      clear p1 p2 hq g1 h hzl
      go_wp2_with fail
      with_reducible refine C.out.mono ?_
      rintro e w3 ⟨A3, c3, rfl, hr3, hb3⟩
      have HB3 := keepd (bCall HB.out hb3)
      have HR3 := keepd hr3
      have H3 := keepd (SR.call H1.out hb3 H1.out.lt)
      clear hb3 hr3
      go_wp2_with fail
      with_reducible refine (need_yes _).mono ?_
      rintro e w3 ⟨rfl, rfl⟩
      obtain ⟨a4, a5⟩ := SB.facts H3.out
      go_wp2_with fail
      refine bodyPost_ret (results_s Try.results43 _ _ g _ _ _ _ _ rfl (SR.row H3.out _)) rfl ?_
      rw [HT.out]
      have hbr := bRow HB3.out (b := g) (by have := HG.out; omega) (sc 3 0 0 zM (.slice A3 zl c3)).toArray
      refine ⟨A3, zl, c3, rfl, HZ.out.symm, ?_, hbr⟩
      exact RdT.row HR3.out H3.out _
  · have g1 : decide ((n : Int) ≤ 510) = false := decide_eq_false (by omega)
    have HT : Hid (tripR b = none) := by
      show _ = _
      unfold tripR
      rw [if_neg (by rw [← HN.out]; exact h)]
    have HB := keepd (bAlloc (Below.refl w.heap.size w) (.cells (sc 0 0 0 zM nil_).toArray 26))
    go_enter Try.func43, Try.ntmps43
    go_wp2_with fail
    with_reducible refine (need_no _).mono ?_
    rintro e w2 ⟨rfl, rfl⟩
    go_wp2_with fail
    refine ⟨rfl, ?_⟩
    rw [HT.out]
    exact ⟨rfl, HB.out⟩

end Go.Proofs.Ytflmplnampgflaa
