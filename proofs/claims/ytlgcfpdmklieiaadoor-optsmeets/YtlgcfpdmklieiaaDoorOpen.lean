/-
  Arguments opened; the variables that the rows list, laid in a world: what the condition says of the two tables' cells.
-/
import Derived.Test.YtlgcfpdmklieiaaDoorV2
import Derived.ProofKit
import Derived.OpenShut
import Derived.Lib.SmallJoins
import Derived.Lib.LaidTab
import Derived.Deep.Slices
import Derived.Deep.Strs
import Derived.LaidMore
import Derived.Lay
import Derived.Stop.Joined
namespace Go.Proofs.YtlgcfpdmklieiaaDoor
open Go.ChangeShapes Go.WideShapes Go.ChangeAt Go.RowKit Go.Joins Go.Deep

theorem own : ownKnob Tryd.prog.godebug = none := by kernel_rfl
theorem laidOut : laidOutB Tryd.prog = true := by kernel_rfl

/-- An argument reads behind the call as it read before. -/
theorem again {H : Type} {enc : TypeId × Value → H} {W W' : World} {t : TypeId} {v : Value} {d : DataW H} {p : List MemPlace} (hr : Tryd.prog.readableRec t = true) (ht : t < Tryd.prog.types.size)
    (k : DataW.Trod enc Tryd.prog W 0 (fun _ => true) true t v d p) (bel : Below W.heap.size W W') : DataW.Trod enc Tryd.prog W' 0 (fun b => decide (b < W.heap.size)) true t v d p :=
  Below.trod laidOut hr ht k bel (by obtain ⟨m, hm⟩ := k; exact DataW.trod_lt m _ _ _ hm)

/-- What the rows list: four of them all three variables, one of them two. -/
def laidL : List (String × DataW Unit) := [("linnet/qbit.heard", Rows.laid_linnet_qbit_heard), ("linnet/qbit.asked", Rows.laid_linnet_qbit_asked), ("linnet/opts.codes", Rows.laid_linnet_opts_codes)]
def laidM : List (String × DataW Unit) := [("linnet/qbit.heard", Rows.laid_linnet_qbit_heard), ("linnet/opts.codes", Rows.laid_linnet_opts_codes)]

theorem laid_met (os : Os) (args : Array Value) : laidMetH Tryd.prog laidL ((World.laidAll Tryd.prog os laidL).forCall (fun _ _ => 0) ⟨#[], args, []⟩).memory := by
  rw [MakeChecks.laidMetH_plain _ _ _ (by kernel_rfl)]
  exact laidMet_laidAll _ (by kernel_rfl) (by kernel_rfl)
theorem laid_metM (os : Os) (args : Array Value) : laidMetH Tryd.prog laidM ((World.laidAll Tryd.prog os laidM).forCall (fun _ _ => 0) ⟨#[], args, []⟩).memory := by
  rw [MakeChecks.laidMetH_plain _ _ _ (by kernel_rfl)]
  exact laidMet_laidAll _ (by kernel_rfl) (by kernel_rfl)

/-- A row of a table as a datum. -/
def turnD {H : Type} (x : Six) : DataW H := .agg [.agg [.lit (.int .i64 x.1), .lit (.int .i64 x.2.1), .lit (.int .i64 x.2.2.1)], .agg [.lit (.int .i64 x.2.2.2.1), .lit (.int .i64 x.2.2.2.2.1), .lit (.int .i64 x.2.2.2.2.2)]]

theorem heard_eq : (Rows.laid_linnet_qbit_heard : DataW Unit) = .agg (heardR.map turnD) := rfl
theorem asked_eq : (Rows.laid_linnet_qbit_asked : DataW Unit) = .agg (askedR.map turnD) := rfl

theorem cells48 : Tryd.prog.cellsOf 90 = 3 := by kernel_rfl
theorem cells50 : Tryd.prog.cellsOf 92 = 6 := by kernel_rfl
theorem cells51 : Tryd.prog.cellsOf 93 = 36 := by kernel_rfl
theorem cells33 : Tryd.prog.cellsOf 33 = 1 := by kernel_rfl

section
variable {H : Type} {enc : TypeId × Value → H} {W : World} {base : Nat} {sp : Nat → Bool} {held : Bool}

theorem lit_of {fuel : Nat} {t : TypeId} {cs : List Value} {z : Int} {p : List MemPlace} (ht : Tryd.prog.underlying t = some (.int .i64)) (h : DataW.trod enc Tryd.prog W base sp held fuel t cs = some (.lit (.int .i64 z), p)) : cs = [.int .i64 z] := by
  obtain ⟨n, e, e2, _⟩ := DataW.trod_int ht h
  injection e2 with e2 _
  injection e2 with e2
  injection e2 with _ e2
  rw [e, e2]

theorem cells22 : Tryd.prog.cellsOf 22 = 4 := by kernel_rfl
theorem cells23 : Tryd.prog.cellsOf 23 = 4 := by kernel_rfl

/-- Four numbers, opened. -/
theorem arr22 {fuel : Nat} {cs : List Value} {d : DataW H} {p : List MemPlace} (h : DataW.trod enc Tryd.prog W base sp held fuel 22 cs = some (d, p)) :
    ∃ c0 c1 c2 c3 y0 y1 y2 y3 n, cs = [c0, c1, c2, c3] ∧ d = .agg [y0, y1, y2, y3] ∧ (∃ q, DataW.trod enc Tryd.prog W base sp held n 3 [c0] = some (y0, q)) ∧ (∃ q, DataW.trod enc Tryd.prog W base sp held n 3 [c1] = some (y1, q)) ∧ (∃ q, DataW.trod enc Tryd.prog W base sp held n 3 [c2] = some (y2, q)) ∧ (∃ q, DataW.trod enc Tryd.prog W base sp held n 3 [c3] = some (y3, q)) := by
  cases fuel with
  | zero => simp [DataW.trod] at h
  | succ fuel =>
    simp only [DataW.trod, Tryd.underlying22, cells3, cells22] at h
    split at h
    · rename_i hlen
      obtain ⟨xs, hm, hx⟩ := Option.map_eq_some_iff.1 h
      have hl : cs.length = 4 := by simpa using hlen
      match cs, hl with
      | [c0, c1, c2, c3], _ =>
        have hxl : xs.length = 4 := by simpa using Lib.mapM_length hm
        match xs, hxl with
        | [z0, z1, z2, z3], _ =>
          simp only [Prod.mk.injEq] at hx
          refine ⟨c0, c1, c2, c3, z0.1, z1.1, z2.1, z3.1, fuel, rfl, by rw [← hx.1]; simp, ?_, ?_, ?_, ?_⟩
          · obtain ⟨b, hb, hf⟩ := Lib.mapM_at hm 0 0 rfl
            simp only [List.getElem?_cons_zero, Option.some.injEq] at hb
            subst hb
            exact ⟨_, by simpa using hf⟩
          · obtain ⟨b, hb, hf⟩ := Lib.mapM_at hm 1 1 rfl
            simp only [List.getElem?_cons_succ, List.getElem?_cons_zero, Option.some.injEq] at hb
            subst hb
            exact ⟨_, by simpa using hf⟩
          · obtain ⟨b, hb, hf⟩ := Lib.mapM_at hm 2 2 rfl
            simp only [List.getElem?_cons_succ, List.getElem?_cons_zero, Option.some.injEq] at hb
            subst hb
            exact ⟨_, by simpa using hf⟩
          · obtain ⟨b, hb, hf⟩ := Lib.mapM_at hm 3 3 rfl
            simp only [List.getElem?_cons_succ, List.getElem?_cons_zero, Option.some.injEq] at hb
            subst hb
            exact ⟨_, by simpa using hf⟩
    · cases h

theorem four_ints {fuel : Nat} {cs : List Value} {d : DataW H × List MemPlace} (h : DataW.trod enc Tryd.prog W base sp held fuel 22 cs = some d) : ∃ x : Four Int, cs = [.int .i64 x.a, .int .i64 x.b, .int .i64 x.c, .int .i64 x.d] := by
  obtain ⟨c0, c1, c2, c3, y0, y1, y2, y3, n, rfl, _, ⟨_, h0⟩, ⟨_, h1⟩, ⟨_, h2⟩, ⟨_, h3⟩⟩ := arr22 (d := d.1) (p := d.2) h
  obtain ⟨a, e0, _⟩ := DataW.trod_int Tryd.underlying3 h0
  obtain ⟨b, e1, _⟩ := DataW.trod_int Tryd.underlying3 h1
  obtain ⟨c, e2, _⟩ := DataW.trod_int Tryd.underlying3 h2
  obtain ⟨e, e3, _⟩ := DataW.trod_int Tryd.underlying3 h3
  simp only [List.cons.injEq, and_true] at e0 e1 e2 e3
  exact ⟨⟨a, b, c, e⟩, by rw [e0, e1, e2, e3]⟩

theorem arr23 {fuel : Nat} {cs : List Value} {d : DataW H} {p : List MemPlace} (h : DataW.trod enc Tryd.prog W base sp held fuel 23 cs = some (d, p)) : ∃ x : Four Bool, cs = [.bool x.a, .bool x.b, .bool x.c, .bool x.d] := by
  cases fuel with
  | zero => simp [DataW.trod] at h
  | succ fuel =>
    simp only [DataW.trod, Tryd.underlying23, cells4, cells23] at h
    split at h
    · rename_i hlen
      obtain ⟨xs, hm, hx⟩ := Option.map_eq_some_iff.1 h
      have hl : cs.length = 4 := by simpa using hlen
      match cs, hl with
      | [c0, c1, c2, c3], _ =>
        obtain ⟨b0, _, f0⟩ := Lib.mapM_at hm 0 0 rfl
        obtain ⟨b1, _, f1⟩ := Lib.mapM_at hm 1 1 rfl
        obtain ⟨b2, _, f2⟩ := Lib.mapM_at hm 2 2 rfl
        obtain ⟨b3, _, f3⟩ := Lib.mapM_at hm 3 3 rfl
        obtain ⟨a, e0, _⟩ := DataW.trod_bool Tryd.underlying4 f0
        obtain ⟨b, e1, _⟩ := DataW.trod_bool Tryd.underlying4 f1
        obtain ⟨c, e2, _⟩ := DataW.trod_bool Tryd.underlying4 f2
        obtain ⟨e, e3, _⟩ := DataW.trod_bool Tryd.underlying4 f3
        simp at e0 e1 e2 e3
        exact ⟨⟨a, b, c, e⟩, by rw [e0, e1, e2, e3]⟩
    · cases h

theorem codes_of {fuel : Nat} {cs : List Value} {p : List MemPlace} (h : DataW.trod enc Tryd.prog W base sp held fuel 22 cs = some (.agg [.lit (.int .i64 0), .lit (.int .i64 1), .lit (.int .i64 3), .lit (.int .i64 34)], p)) :
    cs = [.int .i64 0, .int .i64 1, .int .i64 3, .int .i64 34] := by
  obtain ⟨c0, c1, c2, c3, y0, y1, y2, y3, n, rfl, e, ⟨_, h0⟩, ⟨_, h1⟩, ⟨_, h2⟩, ⟨_, h3⟩⟩ := arr22 h
  simp only [DataW.agg.injEq, List.cons.injEq, and_true] at e
  obtain ⟨rfl, rfl, rfl, rfl⟩ := e
  have e0 := lit_of Tryd.underlying3 h0
  have e1 := lit_of Tryd.underlying3 h1
  have e2 := lit_of Tryd.underlying3 h2
  have e3 := lit_of Tryd.underlying3 h3
  simp only [List.cons.injEq, and_true] at e0 e1 e2 e3
  rw [e0, e1, e2, e3]

theorem move_of {fuel : Nat} {cs : List Value} {x y z : Int} {p : List MemPlace} (h : DataW.trod enc Tryd.prog W base sp held fuel 90 cs = some (.agg [.lit (.int .i64 x), .lit (.int .i64 y), .lit (.int .i64 z)], p)) :
    cs = [.int .i64 x, .int .i64 y, .int .i64 z] := by
  obtain ⟨⟨y0, p0⟩, ⟨y1, p1⟩, ⟨y2, p2⟩, n, e, hl, h0, h1, h2⟩ := trod_struct3 Tryd.underlying90 h
  simp only [Prod.mk.injEq, DataW.agg.injEq, List.cons.injEq, and_true] at e
  obtain ⟨⟨rfl, rfl, rfl⟩, _⟩ := e
  rw [cells48] at hl
  match cs, hl with
  | [u0, u1, u2], _ =>
    have e0 := lit_of Tryd.underlying3 h0
    have e1 := lit_of Tryd.underlying3 h1
    have e2 := lit_of Tryd.underlying33 h2
    simp only [cells3, cells33, List.drop_zero, List.take_succ_cons, List.take_zero, List.drop_succ_cons] at e0 e1 e2
    injection e0 with e0
    injection e1 with e1
    injection e2 with e2
    rw [e0, e1, e2]

theorem turn_of {fuel : Nat} {cs : List Value} {x : Six} {p : List MemPlace} (h : DataW.trod enc Tryd.prog W base sp held fuel 92 cs = some (turnD x, p)) :
    cs = [.int .i64 x.1, .int .i64 x.2.1, .int .i64 x.2.2.1, .int .i64 x.2.2.2.1, .int .i64 x.2.2.2.2.1, .int .i64 x.2.2.2.2.2] := by
  obtain ⟨⟨y0, p0⟩, ⟨y1, p1⟩, n, e, hl, h0, h1⟩ := trod_struct2 Tryd.underlying92 h
  simp only [turnD, Prod.mk.injEq, DataW.agg.injEq, List.cons.injEq, and_true] at e
  obtain ⟨⟨rfl, rfl⟩, _⟩ := e
  rw [cells50] at hl
  match cs, hl with
  | [u0, u1, u2, u3, u4, u5], _ =>
    have e0 := move_of h0
    have e1 := move_of h1
    simp only [cells48, List.drop_zero, List.take_succ_cons, List.take_zero, List.drop_succ_cons] at e0 e1
    simp only [List.cons.injEq, and_true] at e0 e1
    obtain ⟨rfl, rfl, rfl⟩ := e0
    obtain ⟨rfl, rfl, rfl⟩ := e1
    rfl

theorem tab_of {fuel : Nat} {cs : List Value} {r : List Six} {p : List MemPlace} (h : DataW.trod enc Tryd.prog W base sp held fuel 93 cs = some (.agg (r.map turnD), p)) :
    ∀ i x, r[i]? = some x → (cs.drop (i * 6)).take 6 = [.int .i64 x.1, .int .i64 x.2.1, .int .i64 x.2.2.1, .int .i64 x.2.2.2.1, .int .i64 x.2.2.2.2.1, .int .i64 x.2.2.2.2.2] := by
  cases fuel with
  | zero => simp [DataW.trod] at h
  | succ fuel =>
    simp only [DataW.trod, Tryd.underlying93, cells50, cells51] at h
    split at h
    · obtain ⟨xs, hm, hx⟩ := Option.map_eq_some_iff.1 h
      have hxs : xs.map (·.1) = r.map turnD := by
        have := congrArg Prod.fst hx
        simpa using this
      have hxl : xs.length = 6 := by simpa using Lib.mapM_length hm
      intro i x hi
      have hi6 : i < 6 := by
        have := congrArg List.length hxs
        simp only [List.length_map] at this
        have := (List.getElem?_eq_some_iff.1 hi).1
        omega
      obtain ⟨b, hb, hf⟩ := Lib.mapM_at hm i i (by simp [hi6])
      have h2 : (xs.map (·.1))[i]? = some b.1 := by simp [hb]
      rw [hxs] at h2
      simp only [List.getElem?_map, hi, Option.map_some, Option.some.injEq] at h2
      obtain ⟨b1, b2⟩ := b
      simp only at h2
      subst h2
      exact turn_of hf
    · cases h
end

theorem tabAt_of {W : World} {name : String} {g : Nat} {cs : Array Value} {r : List Six} (hg : Tryd.prog.globalNamed name = some g) (hv : W.var? Tryd.prog name = some cs)
    (h : ∀ i x, r[i]? = some x → (cs.toList.drop (i * 6)).take 6 = [.int .i64 x.1, .int .i64 x.2.1, .int .i64 x.2.2.1, .int .i64 x.2.2.2.1, .int .i64 x.2.2.2.2.1, .int .i64 x.2.2.2.2.2]) : TabAt W g r := by
  intro i x hx
  have hc := h i x hx
  have at_ : ∀ j v, [Value.int .i64 x.1, .int .i64 x.2.1, .int .i64 x.2.2.1, .int .i64 x.2.2.2.1, .int .i64 x.2.2.2.2.1, .int .i64 x.2.2.2.2.2][j]? = some v → W.cell? ⟨g, i * 6 + j, none⟩ = some v := by
    intro j v hj
    rw [World.var?_cell hg hv, ← hj, ← hc, List.getElem?_take]
    split
    · simp
    · rename_i hlt
      rw [List.getElem?_eq_none (by simp; omega)] at hj
      cases hj
  exact ⟨at_ 0 _ rfl, at_ 1 _ rfl, at_ 2 _ rfl, at_ 3 _ rfl, at_ 4 _ rfl, at_ 5 _ rfl⟩

theorem gHeard : Tryd.prog.globalNamed "linnet/qbit.heard" = some 2 := by kernel_rfl
theorem gAsked : Tryd.prog.globalNamed "linnet/qbit.asked" = some 1 := by kernel_rfl
theorem gCodes : Tryd.prog.globalNamed "linnet/opts.codes" = some 0 := by kernel_rfl
theorem tHeard : (Tryd.prog.globals[2]?).map (·.type) = some 93 := by kernel_rfl
theorem tAsked : (Tryd.prog.globals[1]?).map (·.type) = some 93 := by kernel_rfl
theorem tCodes : (Tryd.prog.globals[0]?).map (·.type) = some 22 := by kernel_rfl

theorem codesAt_of {W : World} {cs : Array Value} (hv : W.var? Tryd.prog "linnet/opts.codes" = some cs) (h : cs.toList = [.int .i64 0, .int .i64 1, .int .i64 3, .int .i64 34]) : CodesAt W := by
  refine ⟨?_, ?_, ?_, ?_⟩
  all_goals
    rw [World.var?_cell gCodes hv, ← Array.getElem?_toList, h]
    rfl

theorem codes_eq : (Rows.laid_linnet_opts_codes : DataW Unit) = .agg [.lit (.int .i64 0), .lit (.int .i64 1), .lit (.int .i64 3), .lit (.int .i64 34)] := rfl

/-- The rows' condition gives the tables. -/
theorem laid_of {W : World} (h : laidMetH Tryd.prog laidL W) : LaidA W := by
  rw [MakeChecks.laidMetH_plain _ _ _ (by kernel_rfl)] at h
  obtain ⟨ps, ⟨g, t, cs, fuel, p, q, hg, ht, hvar, hd, ⟨g', t', cs', fuel', p', q', hg', ht', hvar', hd', ⟨g2, t2, cs2, fuel2, p2, q2, hg2, ht2, hvar2, hd2, _, _⟩, _⟩, _⟩, _⟩ := h
  obtain rfl := Option.some.inj (gHeard.symm.trans hg)
  obtain rfl := Option.some.inj (tHeard.symm.trans ht)
  obtain rfl := Option.some.inj (gAsked.symm.trans hg')
  obtain rfl := Option.some.inj (tAsked.symm.trans ht')
  obtain rfl := Option.some.inj (gCodes.symm.trans hg2)
  obtain rfl := Option.some.inj (tCodes.symm.trans ht2)
  rw [heard_eq] at hd
  rw [asked_eq] at hd'
  rw [codes_eq] at hd2
  have k0 := tabAt_of gHeard hvar (tab_of hd)
  have k1 := tabAt_of gAsked hvar' (tab_of hd')
  have k2 := codesAt_of hvar2 (codes_of hd2)
  exact ⟨⟨k0, k2, World.block_lt_of_cell? W _ (k0 0 _ rfl).1⟩, k1⟩

theorem laid_ofM {W : World} (h : laidMetH Tryd.prog laidM W) : Laid W := by
  rw [MakeChecks.laidMetH_plain _ _ _ (by kernel_rfl)] at h
  obtain ⟨ps, ⟨g, t, cs, fuel, p, q, hg, ht, hvar, hd, ⟨g2, t2, cs2, fuel2, p2, q2, hg2, ht2, hvar2, hd2, _, _⟩, _⟩, _⟩ := h
  obtain rfl := Option.some.inj (gHeard.symm.trans hg)
  obtain rfl := Option.some.inj (tHeard.symm.trans ht)
  obtain rfl := Option.some.inj (gCodes.symm.trans hg2)
  obtain rfl := Option.some.inj (tCodes.symm.trans ht2)
  rw [heard_eq] at hd
  rw [codes_eq] at hd2
  have k0 := tabAt_of gHeard hvar (tab_of hd)
  have k2 := codesAt_of hvar2 (codes_of hd2)
  exact ⟨k0, k2, World.block_lt_of_cell? W _ (k0 0 _ rfl).1⟩

theorem cells25 : Tryd.prog.cellsOf 25 = 16 := by kernel_rfl
theorem cells27 : Tryd.prog.cellsOf 27 = 2 := by kernel_rfl
theorem cells29 : Tryd.prog.cellsOf 29 = 3 := by kernel_rfl

section
variable {H : Type} {enc : TypeId × Value → H} {W : World} {base : Nat} {spare : Nat → Bool} {held : Bool}

/-- All options of an end that came in. -/
theorem openO {v : Value} {d : DataW H} {p : List MemPlace} (hv : Value.okWide Tryd.prog W .any base 25 v) (h : DataW.Trod enc Tryd.prog W 0 spare held 25 v d p) : ∃ X : O, v = X.v := by
  obtain ⟨cs, rfl, hsz⟩ := okWide_struct Tryd.underlying25 hv
  obtain ⟨fuel, hf⟩ := h
  obtain ⟨y0, y1, y2, y3, n, _, _, h0, h1, h2, h3⟩ := trod_struct4 Tryd.underlying25 hf
  simp only [Value.cells, cells22, cells23] at h0 h1 h2 h3
  obtain ⟨a, e0⟩ := four_ints h0
  obtain ⟨b, e1⟩ := four_ints h1
  obtain ⟨c, e2⟩ := arr23 (d := y2.1) (p := y2.2) h2
  obtain ⟨e, e3⟩ := arr23 (d := y3.1) (p := y3.2) h3
  obtain ⟨l⟩ := cs
  have hl : l.length = 16 := hsz.trans cells25
  refine ⟨⟨a, b, c, e⟩, ?_⟩
  have : l = (l.drop 0).take 4 ++ ((l.drop 4).take 4 ++ ((l.drop 8).take 4 ++ (l.drop 12).take 4)) := by
    match l, hl with
    | [_, _, _, _, _, _, _, _, _, _, _, _, _, _, _, _], _ => rfl
  simp only [] at e0 e1 e2 e3
  rw [e0, e1, e2, e3] at this
  rw [this]
  rfl

/-- A verb and a code that came in. -/
theorem openV {v : Value} {d : DataW H} {p : List MemPlace} (hv : Value.okWide Tryd.prog W .any base 27 v) (h : DataW.Trod enc Tryd.prog W 0 spare held 27 v d p) : ∃ a b : Int, v = .agg #[.int .i64 a, .int .i64 b] := by
  obtain ⟨c0, c1, y0, y1, m, rfl, _, _, hy0, hy1⟩ := open_agg2 Tryd.underlying27 (by kernel_rfl) cells27 hv h
  obtain ⟨a, e0, _⟩ := DataW.trod_int Tryd.underlying3 hy0
  obtain ⟨b, e1, _⟩ := DataW.trod_int Tryd.underlying3 hy1
  simp only [List.cons.injEq, and_true] at e0 e1
  exact ⟨a, b, by rw [e0, e1]⟩

/-- An asking that came in. -/
theorem openK {v : Value} {d : DataW H} {p : List MemPlace} (hv : Value.okWide Tryd.prog W .any base 29 v) (h : DataW.Trod enc Tryd.prog W 0 spare held 29 v d p) : ∃ (a b : Bool) (c : Int), v = .agg #[.bool a, .bool b, .int .i64 c] := by
  obtain ⟨c0, c1, c2, y0, y1, y2, m, rfl, _, _, hy0, hy1, hy2⟩ := open_agg3 Tryd.underlying29 (by kernel_rfl) cells29 hv h
  obtain ⟨a, e0, _⟩ := DataW.trod_bool Tryd.underlying4 hy0
  obtain ⟨b, e1, _⟩ := DataW.trod_bool Tryd.underlying4 hy1
  obtain ⟨c, e2, _⟩ := DataW.trod_int Tryd.underlying3 hy2
  simp only [List.cons.injEq, and_true] at e0 e1 e2
  exact ⟨a, b, c, by rw [e0, e1, e2]⟩
end

end Go.Proofs.YtlgcfpdmklieiaaDoor
