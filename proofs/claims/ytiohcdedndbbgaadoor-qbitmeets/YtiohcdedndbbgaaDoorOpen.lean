/-
  Arguments opened; the variables that the rows list, laid in a world: what the condition says of the two tables' cells.
-/
import Derived.Test.YtiohcdedndbbgaaDoorWords
import Derived.ProofKit
import Derived.OpenShut
import Derived.Lib.SmallJoins
import Derived.Lib.LaidTab
import Derived.Deep.Slices
import Derived.Deep.Strs
import Derived.LaidMore
import Derived.Lay
import Derived.Stop.Joined
namespace Go.Proofs.YtiohcdedndbbgaaDoor
open Go.ChangeShapes Go.WideShapes Go.ChangeAt Go.RowKit Go.Joins Go.Deep

theorem own : ownKnob Tryd.prog.godebug = none := by kernel_rfl
theorem laidOut : laidOutB Tryd.prog = true := by kernel_rfl

/-- An argument reads behind the call as it read before. -/
theorem again {H : Type} {enc : TypeId × Value → H} {W W' : World} {t : TypeId} {v : Value} {d : DataW H} {p : List MemPlace} (hr : Tryd.prog.readableRec t = true) (ht : t < Tryd.prog.types.size)
    (k : DataW.Trod enc Tryd.prog W 0 (fun _ => true) true t v d p) (bel : Below W.heap.size W W') : DataW.Trod enc Tryd.prog W' 0 (fun b => decide (b < W.heap.size)) true t v d p :=
  Below.trod laidOut hr ht k bel (by obtain ⟨m, hm⟩ := k; exact DataW.trod_lt m _ _ _ hm)

/-- What the rows list. -/
def laidL : List (String × DataW Unit) := [("linnet/qbit.heard", Rows.laid_linnet_qbit_heard), ("linnet/qbit.asked", Rows.laid_linnet_qbit_asked)]

theorem laid_met (os : Os) (args : Array Value) : laidMetH Tryd.prog laidL ((World.laidAll Tryd.prog os laidL).forCall (fun _ _ => 0) ⟨#[], args, []⟩).memory := by
  rw [MakeChecks.laidMetH_plain _ _ _ (by kernel_rfl)]
  exact laidMet_laidAll _ (by kernel_rfl) (by kernel_rfl)

/-- A row of a table as a datum. -/
def turnD {H : Type} (x : Six) : DataW H := .agg [.agg [.lit (.int .i64 x.1), .lit (.int .i64 x.2.1), .lit (.int .i64 x.2.2.1)], .agg [.lit (.int .i64 x.2.2.2.1), .lit (.int .i64 x.2.2.2.2.1), .lit (.int .i64 x.2.2.2.2.2)]]

theorem heard_eq : (Rows.laid_linnet_qbit_heard : DataW Unit) = .agg (heardR.map turnD) := rfl
theorem asked_eq : (Rows.laid_linnet_qbit_asked : DataW Unit) = .agg (askedR.map turnD) := rfl

theorem cells48 : Tryd.prog.cellsOf 48 = 3 := by kernel_rfl
theorem cells50 : Tryd.prog.cellsOf 50 = 6 := by kernel_rfl
theorem cells51 : Tryd.prog.cellsOf 51 = 36 := by kernel_rfl
theorem cells3 : Tryd.prog.cellsOf 3 = 1 := by kernel_rfl
theorem cells22 : Tryd.prog.cellsOf 22 = 1 := by kernel_rfl

section
variable {H : Type} {enc : TypeId × Value → H} {W : World} {base : Nat} {sp : Nat → Bool} {held : Bool}

theorem lit_of {fuel : Nat} {t : TypeId} {cs : List Value} {z : Int} {p : List MemPlace} (ht : Tryd.prog.underlying t = some (.int .i64)) (h : DataW.trod enc Tryd.prog W base sp held fuel t cs = some (.lit (.int .i64 z), p)) : cs = [.int .i64 z] := by
  obtain ⟨n, e, e2, _⟩ := DataW.trod_int ht h
  injection e2 with e2 _
  injection e2 with e2
  injection e2 with _ e2
  rw [e, e2]

theorem move_of {fuel : Nat} {cs : List Value} {x y z : Int} {p : List MemPlace} (h : DataW.trod enc Tryd.prog W base sp held fuel 48 cs = some (.agg [.lit (.int .i64 x), .lit (.int .i64 y), .lit (.int .i64 z)], p)) :
    cs = [.int .i64 x, .int .i64 y, .int .i64 z] := by
  obtain ⟨⟨y0, p0⟩, ⟨y1, p1⟩, ⟨y2, p2⟩, n, e, hl, h0, h1, h2⟩ := trod_struct3 Tryd.underlying48 h
  simp only [Prod.mk.injEq, DataW.agg.injEq, List.cons.injEq, and_true] at e
  obtain ⟨⟨rfl, rfl, rfl⟩, _⟩ := e
  rw [cells48] at hl
  match cs, hl with
  | [u0, u1, u2], _ =>
    have e0 := lit_of Tryd.underlying3 h0
    have e1 := lit_of Tryd.underlying3 h1
    have e2 := lit_of Tryd.underlying22 h2
    simp only [cells3, cells22, List.drop_zero, List.take_succ_cons, List.take_zero, List.drop_succ_cons] at e0 e1 e2
    injection e0 with e0
    injection e1 with e1
    injection e2 with e2
    rw [e0, e1, e2]

theorem turn_of {fuel : Nat} {cs : List Value} {x : Six} {p : List MemPlace} (h : DataW.trod enc Tryd.prog W base sp held fuel 50 cs = some (turnD x, p)) :
    cs = [.int .i64 x.1, .int .i64 x.2.1, .int .i64 x.2.2.1, .int .i64 x.2.2.2.1, .int .i64 x.2.2.2.2.1, .int .i64 x.2.2.2.2.2] := by
  obtain ⟨⟨y0, p0⟩, ⟨y1, p1⟩, n, e, hl, h0, h1⟩ := trod_struct2 Tryd.underlying50 h
  simp only [turnD, Prod.mk.injEq, DataW.agg.injEq, List.cons.injEq, and_true] at e
  obtain ⟨⟨rfl, rfl⟩, _⟩ := e
  rw [cells50] at hl
  match cs, hl with
  | [u0, u1, u2, u3, u4, u5], _ =>
    have e0 := move_of h0
    have e1 := move_of h1
    simp only [cells48, List.drop_zero, List.take_succ_cons, List.take_zero, List.drop_succ_cons] at e0 e1
    simp only [List.cons.injEq, and_true] at e0 e1
    obtain ⟨rfl, rfl, rfl⟩ := e0
    obtain ⟨rfl, rfl, rfl⟩ := e1
    rfl

theorem tab_of {fuel : Nat} {cs : List Value} {r : List Six} {p : List MemPlace} (h : DataW.trod enc Tryd.prog W base sp held fuel 51 cs = some (.agg (r.map turnD), p)) :
    ∀ i x, r[i]? = some x → (cs.drop (i * 6)).take 6 = [.int .i64 x.1, .int .i64 x.2.1, .int .i64 x.2.2.1, .int .i64 x.2.2.2.1, .int .i64 x.2.2.2.2.1, .int .i64 x.2.2.2.2.2] := by
  cases fuel with
  | zero => simp [DataW.trod] at h
  | succ fuel =>
    simp only [DataW.trod, Tryd.underlying51, cells50, cells51] at h
    split at h
    · obtain ⟨xs, hm, hx⟩ := Option.map_eq_some_iff.1 h
      have hxs : xs.map (·.1) = r.map turnD := by
        have := congrArg Prod.fst hx
        simpa using this
      have hxl : xs.length = 6 := by simpa using Lib.mapM_length hm
      intro i x hi
      have hi6 : i < 6 := by
        have := congrArg List.length hxs
        simp only [List.length_map] at this
        have := (List.getElem?_eq_some_iff.1 hi).1
        omega
      obtain ⟨b, hb, hf⟩ := Lib.mapM_at hm i i (by simp [hi6])
      have h2 : (xs.map (·.1))[i]? = some b.1 := by simp [hb]
      rw [hxs] at h2
      simp only [List.getElem?_map, hi, Option.map_some, Option.some.injEq] at h2
      obtain ⟨b1, b2⟩ := b
      simp only at h2
      subst h2
      exact turn_of hf
    · cases h
end

theorem tabAt_of {W : World} {name : String} {g : Nat} {cs : Array Value} {r : List Six} (hg : Tryd.prog.globalNamed name = some g) (hv : W.var? Tryd.prog name = some cs)
    (h : ∀ i x, r[i]? = some x → (cs.toList.drop (i * 6)).take 6 = [.int .i64 x.1, .int .i64 x.2.1, .int .i64 x.2.2.1, .int .i64 x.2.2.2.1, .int .i64 x.2.2.2.2.1, .int .i64 x.2.2.2.2.2]) : TabAt W g r := by
  intro i x hx
  have hc := h i x hx
  have at_ : ∀ j v, [Value.int .i64 x.1, .int .i64 x.2.1, .int .i64 x.2.2.1, .int .i64 x.2.2.2.1, .int .i64 x.2.2.2.2.1, .int .i64 x.2.2.2.2.2][j]? = some v → W.cell? ⟨g, i * 6 + j, none⟩ = some v := by
    intro j v hj
    rw [World.var?_cell hg hv, ← hj, ← hc, List.getElem?_take]
    split
    · simp
    · rename_i hlt
      rw [List.getElem?_eq_none (by simp; omega)] at hj
      cases hj
  exact ⟨at_ 0 _ rfl, at_ 1 _ rfl, at_ 2 _ rfl, at_ 3 _ rfl, at_ 4 _ rfl, at_ 5 _ rfl⟩

theorem gHeard : Tryd.prog.globalNamed "linnet/qbit.heard" = some 0 := by kernel_rfl
theorem gAsked : Tryd.prog.globalNamed "linnet/qbit.asked" = some 1 := by kernel_rfl
theorem tHeard : (Tryd.prog.globals[0]?).map (·.type) = some 51 := by kernel_rfl
theorem tAsked : (Tryd.prog.globals[1]?).map (·.type) = some 51 := by kernel_rfl

/-- The rows' condition gives both tables. -/
theorem laid_of {W : World} (h : laidMetH Tryd.prog laidL W) : Laid W := by
  rw [MakeChecks.laidMetH_plain _ _ _ (by kernel_rfl)] at h
  obtain ⟨ps, ⟨g, t, cs, fuel, p, q, hg, ht, hvar, hd, ⟨g', t', cs', fuel', p', q', hg', ht', hvar', hd', _, _⟩, _⟩, _⟩ := h
  obtain rfl := Option.some.inj (gHeard.symm.trans hg)
  obtain rfl := Option.some.inj (tHeard.symm.trans ht)
  obtain rfl := Option.some.inj (gAsked.symm.trans hg')
  obtain rfl := Option.some.inj (tAsked.symm.trans ht')
  rw [heard_eq] at hd
  rw [asked_eq] at hd'
  have k0 := tabAt_of gHeard hvar (tab_of hd)
  have k1 := tabAt_of gAsked hvar' (tab_of hd')
  exact ⟨k0, k1, World.block_lt_of_cell? W _ (k1 0 _ rfl).1⟩

end Go.Proofs.YtiohcdedndbbgaaDoor
