/-
  A class of worlds for regions whose calls make new memory; the contract of Same. No conditions beyond those each theorem states.
-/
import Derived.Test.YtflmplnampgflaaO4
namespace Go.Proofs.Ytflmplnampgflaa
open Go.RowKit
set_option maxRecDepth 100000

attribute [local go_sem ↓] ex_ld23 ex_st23 ex_al23 ex_bu23 ex_eq23 ex_ne23 ex_ld26 ex_st26 ex_al26 ex_ld23o ex_st23o ex_bu26 ex_bu26k ex_bu26m ex_bu26l ex_bu26v ex_bu26w ex_eq29 ex_ne29
attribute [local go_sem] ptrB_at okPtr_at aggC_at agg32 agg36 isM_at eqV_m isRow_new isRow_new26 World.setRow_alloc_new ptr3_at okPtr3_at cutM_at putM_at isI_at isL_at bK_at bKM_at bKL_at bKVM_at bKV_at isV_at toV_at

/-- The worlds that have w's memory. -/
structure Gr (w : World) where
  W : World
  h : Below w.heap.size w W
instance (w : World) : Nonempty (Gr w) := ⟨⟨w, Below.refl _ _⟩⟩
theorem Gr.call {w : World} {f : Nat} {args : Array Value} {v : Value} {x : Gr w} (h : Calls Try.prog f args x.W fun e w' => e = .returned v ∧ Below x.W.heap.size x.W w') :
    Calls Try.prog f args x.W fun e w' => e = .returned v ∧ ∃ y : Gr w, w' = y.W :=
  h.mono fun _ w' ⟨he, hb⟩ => ⟨he, ⟨w', bCall x.h hb⟩, rfl⟩
theorem Gr.same {w : World} {f : Nat} {args : Array Value} {v : Value} {x : Gr w} (h : Calls Try.prog f args x.W fun e w' => e = .returned v ∧ w' = x.W) :
    Calls Try.prog f args x.W fun e w' => e = .returned v ∧ ∃ y : Gr w, w' = y.W :=
  h.mono fun _ _ ⟨he, hb⟩ => ⟨he, x, hb⟩
theorem Gr.rdT {w : World} {A : Option Addr} {L : List Tr} {c : Nat} (h : RdT w A L c) (x : Gr w) : RdT x.W A L c := h.at_ x.h
theorem SB.gr {V : World} {b : Nat} {k m v : Int} {M : Mk} {l : Value} (h : SB V b k m v M l) : (∀ x : Gr V, x.W.cell? ⟨b, 0, none⟩ = some (.int .i64 k)) ∧ (∀ x : Gr V, x.W.cell? ⟨b, 1, none⟩ = some (.int .i64 m)) ∧ (∀ x : Gr V, x.W.cell? ⟨b, 2, none⟩ = some (.int .i64 v)) ∧
    (∀ x : Gr V, x.W.cell? ⟨b, 35, none⟩ = some l) ∧ (∀ x : Gr V, rowOf x.W b = (sc k m v M l).toArray) ∧ (∀ x : Gr V, isRow x.W 26 b 36 = true) := by
  have hx : ∀ x : Gr V, SB x.W b k m v M l := fun x => SR.call h x.h h.lt
  exact ⟨fun x => (hx x).cells.1, fun x => (hx x).cells.2.1, fun x => (hx x).cells.2.2.1, fun x => (hx x).cells.2.2.2, fun x => (hx x).facts.1, fun x => (hx x).facts.2⟩

theorem wp_region_gr {id : Nat} {Q : Exit → Act → World → Prop} {a : Act} {V : World} {l : List Oper} (hm : Try.prog.follows .mixedOrders = true) (hB : Region.lexB .any l.toArray = true)
    (h : wpQuiet Try.prog l.toArray (fun w' => ∃ x : Gr V, w' = x.W) (fun a' => ∀ x : Gr V, Q .normal a' x.W) l a) : (Code.region id l.toArray true).wp Try.prog Q a V := by
  refine wp_region_quiet (C := fun w' => ∃ x : Gr V, w' = x.W) hm hB ⟨⟨{ V with drawn := V.drawn + 1 }, (Below.refl V.heap.size V).drew⟩, rfl⟩ ?_
  have e : (fun a' => ∀ w', (∃ x : Gr V, w' = x.W) → Q .normal a' w') = fun a' => ∀ x : Gr V, Q .normal a' x.W := by
    funext a'
    exact propext ⟨fun h x => h _ ⟨x, rfl⟩, fun h w' ⟨x, hx⟩ => hx ▸ h x⟩
  rw [e]
  exact h

theorem gr_want {K : Act → Prop} {a : Act} {V : World} {o : Oper} {ops : Array Oper} (hw : Region.wanted o (yielded ops a.tmps) = true) (h : ∃ v, (∀ x : Gr V, o.quietAt Try.prog a (fun w' => ∃ y : Gr V, w' = y.W) x.W v) ∧ K (a.put o.dst v)) :
    if Region.wanted o (yielded ops a.tmps) then o.quiet Try.prog a (fun w' => ∃ y : Gr V, w' = y.W) K else K (a.put o.dst undef) := by
  rw [if_pos hw]
  obtain ⟨v, h1, h2⟩ := h
  exact ⟨v, fun w' ⟨x, hx⟩ => hx ▸ h1 x, h2⟩
theorem gr_skip {K : Act → Prop} {a : Act} {V : World} {o : Oper} {ops : Array Oper} (hw : Region.wanted o (yielded ops a.tmps) = false) (h : K (a.put o.dst undef)) :
    if Region.wanted o (yielded ops a.tmps) then o.quiet Try.prog a (fun w' => ∃ y : Gr V, w' = y.W) K else K (a.put o.dst undef) := by
  rw [if_neg (by rw [hw]; decide)]
  exact h

/-- Are all parts the same? -/
def sameS (k m v : Int) (M : Mk) (L : List Tr) (k' m' v' : Int) (M' : Mk) (L' : List Tr) : Bool := k == k' && (m == m' && (v == v' && (decide (M = M') && decide (L = L'))))

set_option maxHeartbeats 1000000 in
theorem ssame_any (k m v : Int) (M : Mk) (A : Option Addr) (L : List Tr) (n c : Nat) (k' m' v' : Int) (M' : Mk) (A' : Option Addr) (L' : List Tr) (n' c' : Nat) (r : Bool) (w : World)
    (hn : n = L.length) (hn' : n' = L'.length) (h : RdT w A L c) (h' : RdT w A' L' c') (hr : sameS k m v M L k' m' v' M' L' = r) :
    Calls Try.prog 16 #[sv k m v M (.slice A n c), sv k' m' v' M' (.slice A' n' c')] w fun e w' => e = .returned (.bool r) ∧ Below w.heap.size w w' := by
  have HN := keepd hn
  have HN' := keepd hn'
  have H := keepd h
  have H' := keepd h'
  have HR := keepd hr
  clear hn hn' h h' hr
  go_enter Try.func16, Try.ntmps16
  go_upto_region 1 with fail
  generalize hV : (w.alloc (.cells (sc k m v M (.slice A n c)).toArray 26)).alloc (.cells (sc k' m' v' M' (.slice A' n' c')).toArray 26) = V
  obtain ⟨h1, h2, h3, h4⟩ := two_new _ _ _ _ _ _ hV
  obtain ⟨g, hg⟩ : ∃ g, w.heap.size = g := ⟨_, rfl⟩
  rw [hg] at h1
  obtain ⟨g', hg'⟩ : ∃ g', w.heap.size + 1 = g' := ⟨_, rfl⟩
  rw [hg'] at h2
  obtain ⟨a0, a1, a2, a3⟩ := SB.cells h1
  obtain ⟨b0, b1, b2, b3⟩ := SB.cells h2
  obtain ⟨a4, a5⟩ := SB.facts h1
  obtain ⟨b4, b5⟩ := SB.facts h2
  have HB := keepd h3
  have C := keepd (equal_any A A' L L' n n' c c' (decide (L = L')) V HN.out HN'.out (H.out.at_ h3) (H'.out.at_ h3) rfl)
  clear H H' h1 h2 h3 h4 hV
  rw [hg', hg]
  clear hg hg'
  cases q1 : (k == k')
  case false =>
    go_wp2_with fail
    go_ret
    exact ⟨by rw [← HR.out]; simp [sameS, q1], HB.out⟩
  cases q2 : (m == m')
  case false =>
    go_wp2_with fail
    go_ret
    exact ⟨by rw [← HR.out]; simp [sameS, q1, q2], HB.out⟩
  cases q3 : (v == v')
  case false =>
    go_wp2_with fail
    go_ret
    exact ⟨by rw [← HR.out]; simp [sameS, q1, q2, q3], HB.out⟩
  cases q4 : decide (M = M')
  case false =>
    go_wp2_with fail
    go_ret
    exact ⟨by rw [← HR.out]; simp [sameS, q1, q2, q3, q4], HB.out⟩
  go_wp2_with fail
  with_reducible refine C.out.mono ?_
  rintro e w2 ⟨rfl, hb⟩
  have HB2 := keepd (HB.out.trans (hb.mono HB.out.size))
  clear hb C
  go_wp2_with fail
  go_ret
  exact ⟨by rw [← HR.out]; simp [sameS, q1, q2, q3, q4], HB2.out⟩

end Go.Proofs.Ytflmplnampgflaa
