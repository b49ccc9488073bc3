/-
  The law OptsAsks, walked.
-/
import Derived.Test.YtlgcfpdmklieiaaDoorV4
import Derived.Deep.WholeRow
namespace Go.Proofs.YtlgcfpdmklieiaaDoor
open Go.RowKit
set_option maxRecDepth 100000

attribute [local go_sem ↓] ex_ld25 ex_ld67 ex_ld73 ex_st25 ex_st67 ex_st73 ex_eq25 ex_ne25 ex_ix22
attribute [local go_sem] ptrB_at okPtr_at aggC_at agg16 agg11 agg12 isO_at toO_at idx0 idx1 idx2 idx3 okIdx_at isRow_new World.setRow_alloc_new

theorem asks_bad (X : O) (hm on : Bool) (p : Int) (A : Option Addr) (n cp : Nat) (hh : okO X = false) (w : World) (hL : LaidA w) : Calls Tryd.prog 7 #[X.v, .agg #[.bool hm, .bool on, .int .i64 p], .slice A n cp] w fun e w' => e = .returned (.bool true) ∧ Below w.heap.size w w' := by
  have CC := keepd (checkO_any X)
  have CA := keepd awake_any
  rw [hh] at CC
  simp only [Bool.false_eq_true, if_false] at CC
  have HL := keepd hL
  clear hL hh
  go_enter Tryd.func7, Tryd.ntmps7
  go_upto_region 1 with fail
  generalize hW : (w.alloc (.cells X.cs.toArray 25)).alloc (.cells (List.toArray [.bool hm, .bool on, .int .i64 p]) 29) = W
  obtain ⟨h1, h2, h3, _⟩ := two_new _ _ _ _ _ _ hW
  clear hW
  have HX := keepd h1
  have HK := keepd h2
  have HB := keepd h3
  obtain ⟨r1, k1⟩ := h1.facts 16 rfl
  clear h1 h2 h3
  go_wp2_with fail
  with_reducible refine (CC.out _).mono ?_
  rintro e w1 ⟨rfl, hb⟩
  have HB := keepd (bCall HB.out hb)
  have HX := keepd (HX.out.call hb HX.out.lt)
  have HK := keepd (HK.out.call hb HK.out.lt)
  clear hb CC r1 k1
  go_wp2_with fail
  with_reducible refine (CA.out _ ((LaidA.laid HL.out).below HB.out)).mono ?_
  rintro e w9 ⟨rfl, hb⟩
  have HB := keepd (bCall HB.out hb)
  clear hb CA
  go_wp2_with fail
  go_ret
  exact ⟨rfl, HB.out⟩

theorem cs_mu (X : O) (k : Nat) (h : k < 4) : X.cs[8 + k]? = some (.bool (X.mu.at k)) := by
  match k, h with
  | 0, _ => rfl
  | 1, _ => rfl
  | 2, _ => rfl
  | 3, _ => rfl
theorem cs_mh (X : O) (k : Nat) (h : k < 4) : X.cs[12 + k]? = some (.bool (X.mh.at k)) := by
  match k, h with
  | 0, _ => rfl
  | 1, _ => rfl
  | 2, _ => rfl
  | 3, _ => rfl
theorem cs_us' (X : O) (k : Nat) (h : k < 4) : X.cs[k]? = some (.int .i64 (X.us.at k)) := by
  match k, h with
  | 0, _ => rfl
  | 1, _ => rfl
  | 2, _ => rfl
  | 3, _ => rfl
theorem cs_him' (X : O) (k : Nat) (h : k < 4) : X.cs[4 + k]? = some (.int .i64 (X.him.at k)) := by
  match k, h with
  | 0, _ => rfl
  | 1, _ => rfl
  | 2, _ => rfl
  | 3, _ => rfl

theorem RdV.at_ {w w' : World} {A : Option Addr} {l : List (Int × Int)} {c : Nat} (h : RdV w A l c) (hb : Below w.heap.size w w') : RdV w' A l c := by
  refine ⟨h.1, h.2.1, fun hne => ?_⟩
  obtain ⟨b, off, rfl, hlt, hc⟩ := h.2.2 hne
  exact ⟨b, off, rfl, Nat.lt_of_lt_of_le hlt hb.size, fun i x hx => ⟨(hb.cell (p := ⟨b, _, none⟩) hlt).trans (hc i x hx).1, (hb.cell (p := ⟨b, _, none⟩) hlt).trans (hc i x hx).2⟩⟩

/-- What lies in the law's memory. -/
structure KM (w : World) (X Y : O) (hm on : Bool) (p : Int) (bY : Nat) (W : World) : Prop where
  x : SR 25 W w.heap.size X.cs
  k : SR 29 W (w.heap.size + 1) [.bool hm, .bool on, .int .i64 p]
  y : SR 25 W bY Y.cs
  ge : w.heap.size + 2 ≤ bY
  b : Below w.heap.size w W

section
variable {w W : World} {X Y : O} {hm on : Bool} {p : Int} {bY : Nat}
theorem KM.call (h : KM w X Y hm on p bY W) {W' : World} (hb : Below W.heap.size W W') : KM w X Y hm on p bY W' :=
  ⟨h.x.call hb h.x.lt, h.k.call hb h.k.lt, h.y.call hb h.y.lt, h.ge, bCall h.b hb⟩
theorem KM.drew (h : KM w X Y hm on p bY W) : KM w X Y hm on p bY W.drew := ⟨h.x, h.k, h.y, h.ge, h.b.drew⟩
theorem KM.drewN (h : KM w X Y hm on p bY W) (n : Nat) : KM w X Y hm on p bY (W.drewN n) := ⟨h.x, h.k, h.y, h.ge, bDrewN h.b n⟩
theorem KM.far (h : KM w X Y hm on p bY W) {q : Nat} (hq : bY < q) (cs : Array Value) : KM w X Y hm on p bY (W.setRow q cs) :=
  ⟨(setRow_other W q _ cs (by have := h.ge; omega)).trans h.x, (setRow_other W q _ cs (by have := h.ge; omega)).trans h.k, (setRow_other W q _ cs (by omega)).trans h.y, h.ge, bRow h.b (by have := h.ge; omega) cs⟩
theorem KM.st (h : KM w X Y hm on p bY W) (Z : O) : KM w X Z hm on p bY (W.setRow bY Z.cs.toArray) :=
  ⟨(setRow_other W bY _ _ (by have := h.ge; omega)).trans h.x, (setRow_other W bY _ _ (by have := h.ge; omega)).trans h.k, h.y.row Z.cs, h.ge, bRow h.b (by have := h.ge; omega) _⟩
end

set_option maxHeartbeats 4000000 in
theorem asks_not_f (X : O) (p : Int) (i : Nat) (hi : i < 4) (h3 : p % 4 = (i : Int)) (A : Option Addr) (n cp : Nat) (hh : okO X = true) (hmm : X.mu.at i = false) (z2 : askF X false i true = (X, [], 5)) (w : World) (hL : LaidA w) : Calls Tryd.prog 7 #[X.v, .agg #[.bool false, .bool true, .int .i64 p], .slice A n cp] w fun e w' => e = .returned (.bool true) ∧ Below w.heap.size w w' := by
  have CC := keepd (checkO_any X)
  have CA := keepd awake_any
  rw [hh] at CC
  simp only [if_true] at CC
  have e3 : bits .and .i64 p 3 = (i : Int) := by rw [i64_and3]; exact h3
  have CK := keepd (askO_any X false i true)
  rw [z2] at CK
  have HL := keepd hL
  clear hL hh h3 z2
  go_enter Tryd.func7, Tryd.ntmps7
  go_upto_region 1 with fail
  generalize hW : (w.alloc (.cells X.cs.toArray 25)).alloc (.cells (List.toArray [.bool false, .bool true, .int .i64 p]) 29) = W
  obtain ⟨h1, h2, h3, _⟩ := two_new _ _ _ _ _ _ hW
  clear hW
  have HX := keepd h1
  have HK := keepd h2
  have HB := keepd h3
  obtain ⟨r1, k1⟩ := h1.facts 16 rfl
  clear h1 h2 h3
  go_wp2_with fail
  with_reducible refine (CC.out _).mono ?_
  rintro e w1 ⟨rfl, hb⟩
  have HB := keepd (bCall HB.out hb)
  have HX := keepd (HX.out.call hb HX.out.lt)
  have HK := keepd (HK.out.call hb HK.out.lt)
  clear hb CC r1 k1
  have d0 := HK.out.cell 0
  have d1 := HK.out.cell 1
  have d2 := HK.out.cell 2
  simp only [List.getElem?_cons_succ, List.getElem?_cons_zero] at d0 d1 d2
  obtain ⟨r1, k1⟩ := HX.out.facts 16 rfl
  go_wp2_with fail
  with_reducible refine (CK.out _ (HL.out.below HB.out)).mono ?_
  rintro e w2 ⟨sm, rfl, ho, hb⟩
  have HB := keepd (bCall HB.out hb)
  have HX := keepd (HX.out.call hb HX.out.lt)
  have HK := keepd (HK.out.call hb HK.out.lt)
  have O1 := keepd ho
  clear ho hb CK d0 d1 d2 r1 k1
  go_upto_region 5 with fail
  generalize hW : w2.alloc (.cells X.cs.toArray 25) = W2
  obtain ⟨h1, hb, h3⟩ := one_new _ _ _ _ hW
  have M0 : Hid (KM w X X false true p w2.heap.size W2) := ⟨HX.out.call hb HX.out.lt, HK.out.call hb HK.out.lt, h1, by have := HK.out.lt; omega, bCall HB.out hb⟩
  generalize w2.heap.size = bY at *
  clear h1 hb h3 hW HX HK HB
  have x8 := (M0.out.x.cell (8 + i)).trans (cs_mu X i hi)
  have xc := (M0.out.x.cell (12 + i)).trans (cs_mh X i hi)
  have y0 := (M0.out.y.cell i).trans (cs_us' X i hi)
  have y4 := (M0.out.y.cell (4 + i)).trans (cs_him' X i hi)
  have d0 := M0.out.k.cell 0
  have d1 := M0.out.k.cell 1
  simp only [List.getElem?_cons_succ, List.getElem?_cons_zero] at d0 d1
  have b1 : (i : Int) < 4 := by omega
  have b2 : (0 : Int) ≤ i := by omega
  go_quiet (fail)
  have M0 := keepd (M0.out.drewN nq)
  clear x8 xc y0 y4 d0 d1
  generalize W2.drewN nq = W3 at *
  have x8 := (M0.out.x.cell (8 + i)).trans (cs_mu X i hi)
  have xc := (M0.out.x.cell (12 + i)).trans (cs_mh X i hi)
  have y0 := (M0.out.y.cell i).trans (cs_us' X i hi)
  have y4 := (M0.out.y.cell (4 + i)).trans (cs_him' X i hi)
  have d0 := M0.out.k.cell 0
  have d1 := M0.out.k.cell 1
  simp only [List.getElem?_cons_succ, List.getElem?_cons_zero] at d0 d1
  rcases O1.out with ⟨rfl, _⟩ | ⟨_, _, _, _, h, _⟩
  · obtain ⟨r1, k1⟩ := M0.out.x.facts 16 rfl
    obtain ⟨r2, k2⟩ := M0.out.y.facts 16 rfl
    have hs := sameO_self X
    go_wp2_with fail
    with_reducible refine (CA.out _ ((LaidA.laid HL.out).below M0.out.b)).mono ?_
    rintro e w9 ⟨rfl, hb⟩
    have HB := keepd (bCall M0.out.b hb)
    clear hb CA r1 k1 r2 k2 d0 d1
    go_wp2_with fail
    go_ret
    exact ⟨rfl, HB.out⟩
  · cases h

set_option maxHeartbeats 4000000 in
theorem asks_not_t (X : O) (p : Int) (i : Nat) (hi : i < 4) (h3 : p % 4 = (i : Int)) (A : Option Addr) (n cp : Nat) (hh : okO X = true) (hmm : X.mh.at i = false) (z2 : askF X true i true = (X, [], 5)) (w : World) (hL : LaidA w) : Calls Tryd.prog 7 #[X.v, .agg #[.bool true, .bool true, .int .i64 p], .slice A n cp] w fun e w' => e = .returned (.bool true) ∧ Below w.heap.size w w' := by
  have CC := keepd (checkO_any X)
  have CA := keepd awake_any
  rw [hh] at CC
  simp only [if_true] at CC
  have e3 : bits .and .i64 p 3 = (i : Int) := by rw [i64_and3]; exact h3
  have CK := keepd (askO_any X true i true)
  rw [z2] at CK
  have HL := keepd hL
  clear hL hh h3 z2
  go_enter Tryd.func7, Tryd.ntmps7
  go_upto_region 1 with fail
  generalize hW : (w.alloc (.cells X.cs.toArray 25)).alloc (.cells (List.toArray [.bool true, .bool true, .int .i64 p]) 29) = W
  obtain ⟨h1, h2, h3, _⟩ := two_new _ _ _ _ _ _ hW
  clear hW
  have HX := keepd h1
  have HK := keepd h2
  have HB := keepd h3
  obtain ⟨r1, k1⟩ := h1.facts 16 rfl
  clear h1 h2 h3
  go_wp2_with fail
  with_reducible refine (CC.out _).mono ?_
  rintro e w1 ⟨rfl, hb⟩
  have HB := keepd (bCall HB.out hb)
  have HX := keepd (HX.out.call hb HX.out.lt)
  have HK := keepd (HK.out.call hb HK.out.lt)
  clear hb CC r1 k1
  have d0 := HK.out.cell 0
  have d1 := HK.out.cell 1
  have d2 := HK.out.cell 2
  simp only [List.getElem?_cons_succ, List.getElem?_cons_zero] at d0 d1 d2
  obtain ⟨r1, k1⟩ := HX.out.facts 16 rfl
  go_wp2_with fail
  with_reducible refine (CK.out _ (HL.out.below HB.out)).mono ?_
  rintro e w2 ⟨sm, rfl, ho, hb⟩
  have HB := keepd (bCall HB.out hb)
  have HX := keepd (HX.out.call hb HX.out.lt)
  have HK := keepd (HK.out.call hb HK.out.lt)
  have O1 := keepd ho
  clear ho hb CK d0 d1 d2 r1 k1
  go_upto_region 5 with fail
  generalize hW : w2.alloc (.cells X.cs.toArray 25) = W2
  obtain ⟨h1, hb, h3⟩ := one_new _ _ _ _ hW
  have M0 : Hid (KM w X X true true p w2.heap.size W2) := ⟨HX.out.call hb HX.out.lt, HK.out.call hb HK.out.lt, h1, by have := HK.out.lt; omega, bCall HB.out hb⟩
  generalize w2.heap.size = bY at *
  clear h1 hb h3 hW HX HK HB
  have x8 := (M0.out.x.cell (8 + i)).trans (cs_mu X i hi)
  have xc := (M0.out.x.cell (12 + i)).trans (cs_mh X i hi)
  have y0 := (M0.out.y.cell i).trans (cs_us' X i hi)
  have y4 := (M0.out.y.cell (4 + i)).trans (cs_him' X i hi)
  have d0 := M0.out.k.cell 0
  have d1 := M0.out.k.cell 1
  simp only [List.getElem?_cons_succ, List.getElem?_cons_zero] at d0 d1
  have b1 : (i : Int) < 4 := by omega
  have b2 : (0 : Int) ≤ i := by omega
  go_quiet (fail)
  have M0 := keepd (M0.out.drewN nq)
  clear x8 xc y0 y4 d0 d1
  generalize W2.drewN nq = W3 at *
  have x8 := (M0.out.x.cell (8 + i)).trans (cs_mu X i hi)
  have xc := (M0.out.x.cell (12 + i)).trans (cs_mh X i hi)
  have y0 := (M0.out.y.cell i).trans (cs_us' X i hi)
  have y4 := (M0.out.y.cell (4 + i)).trans (cs_him' X i hi)
  have d0 := M0.out.k.cell 0
  have d1 := M0.out.k.cell 1
  simp only [List.getElem?_cons_succ, List.getElem?_cons_zero] at d0 d1
  go_wp2_with fail
  go_quiet (fail)
  have M0 := keepd (M0.out.drewN nq)
  clear x8 xc y0 y4 d0 d1
  generalize W3.drewN nq = W4 at *
  have d0 := M0.out.k.cell 0
  have d1 := M0.out.k.cell 1
  simp only [List.getElem?_cons_succ, List.getElem?_cons_zero] at d0 d1
  rcases O1.out with ⟨rfl, _⟩ | ⟨_, _, _, _, h, _⟩
  · obtain ⟨r1, k1⟩ := M0.out.x.facts 16 rfl
    obtain ⟨r2, k2⟩ := M0.out.y.facts 16 rfl
    have hs := sameO_self X
    go_wp2_with fail
    with_reducible refine (CA.out _ ((LaidA.laid HL.out).below M0.out.b)).mono ?_
    rintro e w9 ⟨rfl, hb⟩
    have HB := keepd (bCall M0.out.b hb)
    clear hb CA r1 k1 r2 k2 d0 d1
    go_wp2_with fail
    go_ret
    exact ⟨rfl, HB.out⟩
  · cases h

theorem KM.s5 {w W : World} {X Y : O} {hm on : Bool} {p : Int} {bY b o0 o1 : Nat} {v c : Int} (h : KM w X Y hm on p bY W) (hb : b < w.heap.size) (e0 : w.cell? ⟨b, o0, none⟩ = some (.int .i64 v)) (e1 : w.cell? ⟨b, o1, none⟩ = some (.int .i64 c)) :
    rowOf W bY = Y.cs.toArray ∧ isRow W 25 bY 16 = true ∧ W.cell? ⟨b, o0, none⟩ = some (.int .i64 v) ∧ W.cell? ⟨b, o1, none⟩ = some (.int .i64 c) ∧ KM w X Y hm on p bY W :=
  ⟨(h.y.facts 16 rfl).1, (h.y.facts 16 rfl).2, (h.b.cell (p := ⟨b, o0, none⟩) hb).trans e0, (h.b.cell (p := ⟨b, o1, none⟩) hb).trans e1, h⟩

theorem off2 {Z : O} (h : okO Z = true) (j : Nat) (hj : j < 4) : (Z.mu.at j = true ∨ (Z.mu.at j = false ∧ Z.us.at j = 0)) ∧ (Z.mh.at j = true ∨ (Z.mh.at j = false ∧ Z.him.at j = 0)) := by
  have hp : P4 (j : Int) := by unfold P4; omega
  have h1 := okF_at _ _ j hp (okO_side h false)
  have h2 := okF_at _ _ j hp (okO_side h true)
  constructor
  · cases e : Z.mu.at j
    · exact .inr ⟨rfl, ok1_off h1 e⟩
    · exact .inl rfl
  · cases e : Z.mh.at j
    · exact .inr ⟨rfl, ok1_off h2 e⟩
    · exact .inl rfl

end Go.Proofs.YtlgcfpdmklieiaaDoor
