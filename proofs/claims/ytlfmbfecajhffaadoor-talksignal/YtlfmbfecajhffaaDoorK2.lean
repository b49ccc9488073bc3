/-
  What is gathered: the method that adds, and what is held passed on. No conditions beyond those each theorem states.
-/
import Derived.Test.YtlfmbfecajhffaaDoorK1
import Derived.Test.YtlfmbfecajhffaaDoorA12
namespace Go.Proofs.YtlfmbfecajhffaaDoor
open Go.RowKit
set_option maxRecDepth 100000

attribute [local go_sem ↓] ex_ld25 ex_st25 ex_al25 ex_bu25 ex_ix25 ex_eq25 ex_ne25 ex_eq23 ex_ne23 ex_ld25o ex_st65 ex_al65 ex_bu65 ex_bu65s ex_ld25d
attribute [local go_sem] ptrB_at okPtr_at aggC_at agg62 agg69 isC_at isT_at eqV_t eqV_c isRow_new isRow_new65 World.setRow_alloc_new ptr4_at okPtr4_at cutT_at isI_at isS_at bW_at bWs_at ptrD_at okPtrD_at cutD_at

theorem own_ne {v : Value} {w : World} {base b8 : Nat} {l : List UInt8} (h : Own w base v l) (hb : b8 < base) : v.ownBlock ≠ some b8 := fun e => by have := (h.ge _ e).1; omega
theorem ne_new {v : Value} {w : World} {b : Nat} {l : List UInt8} (h : Own w b v l) : v.ownBlock ≠ some w.heap.size := fun e => by have := (h.ge _ e).2; omega
theorem ne_step {v v' : Value} {w : World} {b8 : Nat} (h : v.ownBlock ≠ some b8) (hb : b8 < w.heap.size) (hat : v'.ownBlock = v.ownBlock ∨ v'.ownBlock = some w.heap.size) : v'.ownBlock ≠ some b8 := by
  rcases hat with e | e
  · rw [e]; exact h
  · rw [e]; intro e2; injection e2; omega
theorem sr_grow {t : TypeId} {w w' : World} {b8 : Nat} {cs : List Value} {v : Value} (h : SR t w b8 cs) (hg : w.grownBy w' v.ownBlock) (hn : v.ownBlock ≠ some b8) : SR t w' b8 cs := (hg.block b8 h.lt (fun e => hn e.symm)).trans h
/-- What lies in a block without octets plays no part for octets. -/
theorem Rd.setNo {t : TypeId} {w w' : World} {A : Option Addr} {l : List UInt8} {c g : Nat} {cs : List Value} (h : Rd w w.heap.size A l c) (H : SR t w g cs) (hno : ∀ u ∈ cs, isU u = false) (hs : w.heap.size ≤ w'.heap.size) (hh : ∀ k, k ≠ g → w'.heap[k]? = w.heap[k]?) : Rd w' w'.heap.size A l c := by
  refine ⟨h.1, h.2.1, fun hl => ?_, fun ad had j u hu => ?_⟩
  · obtain ⟨ad, e, hb⟩ := h.2.2.1 hl
    exact ⟨ad, e, Nat.lt_of_lt_of_le hb hs⟩
  · by_cases hg : ad.block = g
    · exfalso
      obtain ⟨hj, _⟩ := List.getElem?_eq_some_iff.1 hu
      obtain ⟨b, off, e, _, hc⟩ := h.form hj
      rw [had] at e
      injection e with e
      subst e
      simp only at hg
      subst hg
      rw [H.cell] at hc
      have := hno _ (List.mem_of_getElem? hc)
      cases this
    · rw [World.cell?_of_block (w := w) (by rw [blk_add]; exact hh _ hg)]
      exact h.2.2.2 ad had j u hu
/-- What is gathered, in the block g: owned, and made behind g. -/
def GA (w : World) (g : Nat) (l : List UInt8) : Prop := ∃ v, SR 73 w g [v] ∧ Own w g v l ∧ v.ownBlock ≠ some g
theorem GA.new (w : World) : GA (w.alloc (.cells #[.slice none 0 0] 73)) w.heap.size [] := ⟨_, heap_alloc_new w _, Own.nil _ _, by simp [Value.ownBlock]⟩
theorem GA.lt {w : World} {g : Nat} {l : List UInt8} (h : GA w g l) : g < w.heap.size := by
  obtain ⟨v, h1, _⟩ := h
  exact h1.lt
theorem GA.call {w w' : World} {g : Nat} {l : List UInt8} (h : GA w g l) (hb : Below w.heap.size w w') : GA w' g l := by
  obtain ⟨v, h1, h2, h3⟩ := h
  exact ⟨v, SR.call h1 hb h1.lt, h2.below hb, h3⟩
theorem GA.drew {w : World} {g : Nat} {l : List UInt8} (h : GA w g l) : GA w.drew g l := h
theorem GA.rd {w : World} {g : Nat} {l : List UInt8} (h : GA w g l) : ∃ A c, SR 73 w g [.slice A l.length c] ∧ Rd w w.heap.size A l c ∧ Own w g (.slice A l.length c) l := by
  obtain ⟨v, h1, h2, h3⟩ := h
  obtain ⟨A, c, rfl, hr⟩ := h2.rd
  exact ⟨A, c, h1, hr, h2⟩
/-- What an add, and what is passed on, leaves. -/
def GotGA (w : World) (g : Nat) (l : List UInt8) (e : Ending) (w' : World) : Prop := e = .returned (.tuple #[]) ∧ GA w' g l ∧ Below g w w'
set_option maxHeartbeats 1000000 in
theorem add_any (g : Nat) (l : List UInt8) (A : Option Addr) (l' : List UInt8) (n c : Nat) (w : World) (hg : GA w g l) (hn : n = l'.length) (hr : Rd w w.heap.size A l' c) (hlen : l.length + l'.length ≤ 1000000) :
    Calls Tryd.prog 29 #[.pointer (some ⟨g, 0, none⟩), .slice A n c] w (GotGA w g (l ++ l')) := by
  obtain ⟨v, h1, h2, h3⟩ := hg
  have k0 := h1.cell 0
  have k1 := h1.frozen 0
  have k2 := h1.lt
  simp only [List.getElem?_cons_zero] at k0
  have H1 := keepd h1
  have H2 := keepd h2
  have H3 := keepd h3
  have HR := keepd hr
  have HN := keepd hn
  have HL := keepd hlen
  clear h1 h2 h3 hr hn hlen
  go_enter Tryd.func29, Tryd.ntmps29
  go_wp2_with (at_builtin; refine wpList_app _ rfl (.tmp 8) (.tmp 9) rfl g v l rfl H2.out _ A n c l' rfl HN.out HR.out HL.out ?_ ?_)
  · exact Nat.le_of_lt k2
  intro v2 w2 ho2 hg2 hat2
  obtain ⟨A9, c9, rfl, _⟩ := ho2.rd
  generalize (l ++ l').length = n9 at *
  have HS2 := keepd (sr_grow H1.out hg2 H3.out)
  have HO2 := keepd ho2
  have HNE2 := keepd (ne_step H3.out k2 hat2)
  have HB2 : Hid (Below g w w2) := grown_below H2.out hg2 (Nat.le_of_lt k2)
  clear k0 k1 ho2 hg2 hat2
  have k0 := HS2.out.cell 0
  have k1 := HS2.out.frozen 0
  have k3 := HS2.out.lt
  simp only [List.getElem?_cons_zero] at k0
  go_wp2_with fail
  go_end0
  exact ⟨rfl, ⟨_, HS2.out.set 0 _, HO2.out.setOne HNE2.out _, HNE2.out⟩, HB2.out.setCell (p := ⟨g, 0, none⟩) (Nat.le_refl _) _⟩

theorem tabtk_new (w : World) (X : Tb) (a b x y h : Value) (V : World) (hV : (w.alloc (.cells (cs X).toArray 25)).alloc (.cells #[a, b, x, y, h] 34) = V) : Hid (TB V w.heap.size X) ∧ Hid (SR 34 V (w.heap.size + 1) [a, b, x, y, h]) ∧ Hid (Below w.heap.size w V) := by
  subst hV
  have := SR.new 34 (w.alloc (.cells (cs X).toArray 25)) [a, b, x, y, h]
  rw [World.size_alloc] at this
  exact ⟨SR.alloc (SR.new 25 w _) _, this, bAlloc (bAlloc (Below.refl _ _) _) _⟩
set_option maxHeartbeats 1000000 in
theorem passHeld_any (X : Tb) (hX : TbO X) (A : Option Addr) (l : List UInt8) (n c : Nat) (z : Int) (ov li h : Bool) (g : Nat) (lg L : List UInt8) (m : Nat) (w : World) (hg : GA w g lg) (hn : n = l.length) (hr : Rd w w.heap.size A l c) (hL : keysG X l z ov li = L) (hm : L.length = m) (hlen : lg.length + L.length ≤ 1000000) :
    Calls Tryd.prog 28 #[tv X, .agg #[.slice A n c, .int .i64 z, .bool ov, .bool li, .bool h], .func (.func 29) #[.pointer (some ⟨g, 0, none⟩)] #[]] w (GotGA w g (lg ++ (if h then L else []))) := by
  have HG := keepd hg
  have HM := keepd hm
  have HL := keepd hlen
  have CK := keepd fun (W : World) (hb : Below w.heap.size w W) => keys_go X hX A l n c z ov li W hn (hr.at_ hb) L m hL hm
  clear hX hn hr hL hm hlen hg
  go_enter Tryd.func28, Tryd.ntmps28
  go_upto_region 1 with fail
  generalize hV : (w.alloc (.cells (cs X).toArray 25)).alloc (.cells #[.slice A n c, .int .i64 z, .bool ov, .bool li, .bool h] 34) = V
  obtain ⟨HT, HS, HB⟩ := tabtk_new _ _ _ _ _ _ _ _ hV
  obtain ⟨k0, k1, k2, k3, k4, _, _, _, _, _, kt⟩ := tk_facts HS.out
  obtain ⟨q0, q1⟩ := TB.facts HT.out
  clear hV
  have HLT := keepd (Nat.le_of_lt HG.out.lt)
  cases h
  case false =>
    go_wp2_with fail
    go_end0
    refine ⟨rfl, ?_, HB.out.mono HLT.out⟩
    have := HG.out.call HB.out
    simpa using this
  case true =>
    go_wp2_with fail
    with_reducible refine (CK.out _ HB.out).mono ?_
    rintro e w2 ⟨⟨A2, c2, rfl, ho2⟩, hb2⟩
    have HB2 := keepd (bCall HB.out hb2)
    have CA := keepd (add_any g lg A2 L m c2 w2 (HG.out.call HB2.out) HM.out.symm ho2.rdOf HL.out)
    clear ho2 hb2 CK
    go_wp2_with fail
    with_reducible refine CA.out.mono ?_
    rintro e w3 ⟨rfl, hg3, hb3⟩
    have HG3 := keepd hg3
    have HB3 := keepd ((HB2.out.mono HLT.out).trans hb3)
    go_wp2_with fail
    go_end0
    exact ⟨rfl, by simpa using HG3.out, HB3.out⟩

theorem tcheck_ok (A : Option Addr) (n c : Nat) (z : Int) (ov li h : Bool) (w : World) (hm : mayV n z = true) :
    Calls Tryd.prog 14 #[.agg #[.slice A n c, .int .i64 z, .bool ov, .bool li, .bool h]] w fun e w' => e = .returned (.int .i64 0) ∧ Below w.heap.size w w' := tcheck_any A n c z ov li h true w hm
theorem tcheck_bad (A : Option Addr) (n c : Nat) (z : Int) (ov li h : Bool) (w : World) (hm : mayV n z = false) :
    Calls Tryd.prog 14 #[.agg #[.slice A n c, .int .i64 z, .bool ov, .bool li, .bool h]] w fun e w' => e = .returned (.int .i64 1) ∧ Below w.heap.size w w' := tcheck_any A n c z ov li h false w hm

end Go.Proofs.YtlfmbfecajhffaaDoor
