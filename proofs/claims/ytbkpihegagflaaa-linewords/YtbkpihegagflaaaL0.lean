/-
  What the laws begin with: a class of worlds for regions whose calls make new memory; a line cut down to what is looked at. No conditions beyond those each theorem states.
-/
import Derived.Test.YtbkpihegagflaaaT14
namespace Go.Proofs.Ytbkpihegagflaaa
open Go.RowKit
set_option maxRecDepth 100000

/-- The worlds that have w's memory. -/
structure Gr (w : World) where
  W : World
  h : Below w.heap.size w W
instance (w : World) : Nonempty (Gr w) := ⟨⟨w, Below.refl _ _⟩⟩
theorem Gr.call {w : World} {f : Nat} {args : Array Value} {v : Value} {x : Gr w} (h : Calls Try.prog f args x.W fun e w' => e = .returned v ∧ Below x.W.heap.size x.W w') :
    Calls Try.prog f args x.W fun e w' => e = .returned v ∧ ∃ y : Gr w, w' = y.W :=
  h.mono fun _ w' ⟨he, hb⟩ => ⟨he, ⟨w', bCall x.h hb⟩, rfl⟩
theorem Gr.same {w : World} {f : Nat} {args : Array Value} {v : Value} {x : Gr w} (h : Calls Try.prog f args x.W fun e w' => e = .returned v ∧ w' = x.W) :
    Calls Try.prog f args x.W fun e w' => e = .returned v ∧ ∃ y : Gr w, w' = y.W :=
  h.mono fun _ _ ⟨he, hb⟩ => ⟨he, x, hb⟩
theorem SR.gr {V : World} {g : Nat} {a b : Value} (h : SR 24 V g [a, b]) : (∀ x : Gr V, x.W.cell? ⟨g, 0, none⟩ = some a) ∧ (∀ x : Gr V, x.W.cell? ⟨g, 1, none⟩ = some b) :=
  ⟨fun x => (SR.call h x.h h.lt).cell 0, fun x => (SR.call h x.h h.lt).cell 1⟩

theorem wp_region_gr {id : Nat} {Q : Exit → Act → World → Prop} {a : Act} {V : World} {l : List Oper} (hm : Try.prog.follows .mixedOrders = true) (hB : Region.lexB .any l.toArray = true)
    (h : wpQuiet Try.prog l.toArray (fun w' => ∃ x : Gr V, w' = x.W) (fun a' => ∀ x : Gr V, Q .normal a' x.W) l a) : (Code.region id l.toArray true).wp Try.prog Q a V := by
  refine wp_region_quiet (C := fun w' => ∃ x : Gr V, w' = x.W) hm hB ⟨⟨{ V with drawn := V.drawn + 1 }, (Below.refl V.heap.size V).drew⟩, rfl⟩ ?_
  have e : (fun a' => ∀ w', (∃ x : Gr V, w' = x.W) → Q .normal a' w') = fun a' => ∀ x : Gr V, Q .normal a' x.W := by
    funext a'
    exact propext ⟨fun h x => h _ ⟨x, rfl⟩, fun h w' ⟨x, hx⟩ => hx ▸ h x⟩
  rw [e]
  exact h

theorem gr_want {K : Act → Prop} {a : Act} {V : World} {o : Oper} {ops : Array Oper} (hw : Region.wanted o (yielded ops a.tmps) = true) (h : ∃ v, (∀ x : Gr V, o.quietAt Try.prog a (fun w' => ∃ y : Gr V, w' = y.W) x.W v) ∧ K (a.put o.dst v)) :
    if Region.wanted o (yielded ops a.tmps) then o.quiet Try.prog a (fun w' => ∃ y : Gr V, w' = y.W) K else K (a.put o.dst undef) := by
  rw [if_pos hw]
  obtain ⟨v, h1, h2⟩ := h
  exact ⟨v, fun w' ⟨x, hx⟩ => hx ▸ h1 x, h2⟩
theorem gr_skip {K : Act → Prop} {a : Act} {V : World} {o : Oper} {ops : Array Oper} (hw : Region.wanted o (yielded ops a.tmps) = false) (h : K (a.put o.dst undef)) :
    if Region.wanted o (yielded ops a.tmps) then o.quiet Try.prog a (fun w' => ∃ y : Gr V, w' = y.W) K else K (a.put o.dst undef) := by
  rw [if_neg (by rw [hw]; decide)]
  exact h

theorem Rd.few {w : World} {B : Nat} {A : Option Addr} {l : List UInt8} {c : Nat} (h : Rd w B A l c) : Rd w B A (fewL l) c := by
  unfold fewL
  split
  · exact h.take 200
  · exact h
theorem Rd.cellk {w : World} {B b off c k : Nat} {l : List UInt8} (h : Rd w B (some ⟨b, off, none⟩) l c) (hk : k < l.length) : w.cell? ⟨b, off + k, none⟩ = some (.int .u8 ((l.getD k 0).toNat : Int)) := by
  have := h.2.2.2 _ rfl k l[k] (List.getElem?_eq_getElem hk)
  rw [Addr.add_lit] at this
  rw [getD_at hk]
  exact this
/-- The address of a slice that holds something. -/
theorem Rd.addr {w : World} {B c : Nat} {A : Option Addr} {l : List UInt8} (h : Rd w B A l c) (hk : 0 < l.length) : ∃ b off, A = some ⟨b, off, none⟩ ∧ b < B := by
  obtain ⟨b, off, hA, hb, _⟩ := h.form hk
  exact ⟨b, off, hA, hb⟩

theorem key_new (w : World) (x y k0 k1 k2 : Value) (V : World) (hV : (w.alloc (.cells #[x, y] 24)).alloc (.cells #[k0, k1, k2] 26) = V) : Hid (SR 24 V w.heap.size [x, y]) ∧ Hid (SR 26 V (w.heap.size + 1) [k0, k1, k2]) ∧ Hid (Below w.heap.size w V) := by
  subst hV
  refine ⟨row_alloc (heap_alloc_new w _), ?_, bAlloc (bAlloc (Below.refl _ _) _) _⟩
  have := heap_alloc_new (w.alloc (.cells #[x, y] 24)) (.cells #[k0, k1, k2] 26)
  rw [World.size_alloc] at this
  exact this
theorem key_far {w1 V : World} {b g : Nat} {ks : List Value} {x y : Value} (h : SR 26 w1 b ks) (hne : b ≠ g) (hV : (w1.setCell ⟨g, 0, none⟩ x).setCell ⟨g, 1, none⟩ y = V) : SR 26 V b ks := by
  subst hV
  exact (h.far (p := ⟨g, 0, none⟩) hne x).far (p := ⟨g, 1, none⟩) hne y

/-- The line's block behind the store of what Few answered. -/
theorem few_set {w w1 : World} {g : Nat} {x y x' y' : Value} (hg : w.heap.size ≤ g) (h : SR 24 w1 g [x, y]) (hb : Below w.heap.size w w1) (V : World) (hV : (w1.setCell ⟨g, 0, none⟩ x').setCell ⟨g, 1, none⟩ y' = V) :
    Hid (SR 24 V g [x', y']) ∧ Hid (Below w.heap.size w V) := by
  subst hV
  exact ⟨(h.set 0 x').set 1 y', set2_below hb hg _ _⟩

end Go.Proofs.Ytbkpihegagflaaa
