/-
  Arguments opened: a triple, a row of triples; the table of commands, laid in a world.
-/
import Derived.Test.YtemmdknnmhdhkaaDoorOpen
import Derived.Test.YtemmdknnmhdhkaaDoorT3
import Derived.Lib.LaidTab
import Derived.Deep.Slices
import Derived.Deep.Strs
import Derived.LaidMore
import Derived.Lay
import Derived.Stop.Joined
namespace Go.Proofs.YtemmdknnmhdhkaaDoor
open Go.ChangeShapes Go.WideShapes Go.ChangeAt Go.RowKit Go.Joins Go.Deep

theorem cells29 : Tryd.prog.cellsOf 29 = 6 := by kernel_rfl
theorem cells3 : Tryd.prog.cellsOf 3 = 1 := by kernel_rfl
theorem cells4 : Tryd.prog.cellsOf 4 = 1 := by kernel_rfl
theorem cells50 : Tryd.prog.cellsOf 50 = 10 := by kernel_rfl

theorem u8_bounds {x : Int} (h : (Lit.int .u8 x).wf = true) : 0 ≤ x ∧ x ≤ 255 := by
  simpa [Lit.wf, IntKind.min, IntKind.max, IntKind.signed, IntKind.bits] using h

/-- What the rows list. -/
def laidL : List (String × DataW Unit) := [("linnet/slc.commands", Rows.laid_linnet_slc_commands)]

theorem laid_met (os : Os) (args : Array Value) : laidMetH Tryd.prog laidL ((World.laidAll Tryd.prog os laidL).forCall (fun _ _ => 0) ⟨#[], args, []⟩).memory := by
  rw [MakeChecks.laidMetH_plain _ _ _ (by kernel_rfl)]
  exact laidMet_laidAll _ (by kernel_rfl) (by kernel_rfl)

section
variable {H : Type} {enc : TypeId × Value → H} {W : World} {base : Nat} {sp : Nat → Bool} {held : Bool}

theorem lit_of {fuel : Nat} {t : TypeId} {cs : List Value} {z : Int} {p : List MemPlace} (ht : Tryd.prog.underlying t = some (.int .i64)) (h : DataW.trod enc Tryd.prog W base sp held fuel t cs = some (.lit (.int .i64 z), p)) : cs = [.int .i64 z] := by
  obtain ⟨n, e, e2, _⟩ := DataW.trod_int ht h
  injection e2 with e2 _
  injection e2 with e2
  injection e2 with _ e2
  rw [e, e2]

/-- The table, opened. -/
theorem tab_of {fuel : Nat} {cs : List Value} {r : List Int} {p : List MemPlace} (h : DataW.trod enc Tryd.prog W base sp held fuel 50 cs = some (.agg (r.map fun z => (DataW.lit (.int .i64 z) : DataW H)), p)) :
    ∀ (i : Nat) (x : Int), r[i]? = some x → cs[i]? = some (Value.int .i64 x) := by
  obtain ⟨xs, k, _, hx, hl, hn, hi⟩ := DataW.trod_array Tryd.underlying50 h
  intro i x hr
  simp only [Prod.mk.injEq, DataW.agg.injEq] at hx
  have hlen : r.length = xs.length := by
    have := congrArg List.length hx.1
    simpa using this
  have hi1 : i < xs.length := by
    have := (List.getElem?_eq_some_iff.1 hr).1
    omega
  have h1 := hi i (by omega)
  rw [cells3, Nat.mul_one, List.getElem?_eq_getElem hi1] at h1
  have h2 : (r.map fun z => (DataW.lit (.int .i64 z) : DataW H))[i]? = some (xs[i].1) := by
    rw [hx.1]
    simp [hi1]
  simp only [List.getElem?_map, hr, Option.map_some, Option.some.injEq] at h2
  have h3 : DataW.trod enc Tryd.prog W base sp held k 3 ((cs.drop i).take 1) = some (.lit (.int .i64 x), xs[i].2) := by
    rw [h1, h2]
  have e := lit_of Tryd.underlying3 h3
  have : ((cs.drop i).take 1)[0]? = some (.int .i64 x) := by rw [e]; rfl
  rw [List.getElem?_take] at this
  simpa using this

/-- A struct of six fields. -/
theorem trod_struct6 {t : TypeId} {f0 f1 f2 f3 f4 f5 : Field} {fuel : Nat} {cs : List Value} {x : DataW H × List MemPlace} (ht : Tryd.prog.underlying t = some (.struct #[f0, f1, f2, f3, f4, f5])) (h : DataW.trod enc Tryd.prog W base sp held fuel t cs = some x) :
    ∃ y0 y1 y2 y3 y4 y5 n, cs.length = Tryd.prog.cellsOf t ∧ DataW.trod enc Tryd.prog W base sp held n f0.type ((cs.drop f0.offset).take (Tryd.prog.cellsOf f0.type)) = some y0 ∧
      DataW.trod enc Tryd.prog W base sp held n f1.type ((cs.drop f1.offset).take (Tryd.prog.cellsOf f1.type)) = some y1 ∧ DataW.trod enc Tryd.prog W base sp held n f2.type ((cs.drop f2.offset).take (Tryd.prog.cellsOf f2.type)) = some y2 ∧
      DataW.trod enc Tryd.prog W base sp held n f3.type ((cs.drop f3.offset).take (Tryd.prog.cellsOf f3.type)) = some y3 ∧ DataW.trod enc Tryd.prog W base sp held n f4.type ((cs.drop f4.offset).take (Tryd.prog.cellsOf f4.type)) = some y4 ∧
      DataW.trod enc Tryd.prog W base sp held n f5.type ((cs.drop f5.offset).take (Tryd.prog.cellsOf f5.type)) = some y5 := by
  obtain ⟨xs, n, _, rfl, hl, hlen, hf⟩ := DataW.trod_struct ht h
  match xs, hlen with
  | [y0, y1, y2, y3, y4, y5], _ => exact ⟨y0, y1, y2, y3, y4, y5, n, hl, by simpa using hf 0 f0 rfl, by simpa using hf 1 f1 rfl, by simpa using hf 2 f2 rfl, by simpa using hf 3 f3 rfl, by simpa using hf 4 f4 rfl, by simpa using hf 5 f5 rfl⟩

/-- A triple's cells. -/
theorem trip_of {fuel : Nat} {cs : List Value} {x : DataW H × List MemPlace} (h : DataW.trod enc Tryd.prog W base sp held fuel 29 cs = some x) : ∃ X : Tr, cs = X.cells := by
  obtain ⟨y0, y1, y2, y3, y4, y5, n, hl, h0, h1, h2, h3, h4, h5⟩ := trod_struct6 Tryd.underlying29 h
  rw [cells29] at hl
  match cs, hl with
  | [u0, u1, u2, u3, u4, u5], _ =>
      simp only [cells3, cells4, cells5, List.drop_zero, List.take_succ_cons, List.take_zero, List.drop_succ_cons] at h0 h1 h2 h3 h4 h5
      obtain ⟨z0, e0, _⟩ := DataW.trod_int Tryd.underlying3 h0
      obtain ⟨z1, e1, _⟩ := DataW.trod_int Tryd.underlying3 h1
      obtain ⟨z2, e2, _⟩ := DataW.trod_bool Tryd.underlying4 h2
      obtain ⟨z3, e3, _⟩ := DataW.trod_bool Tryd.underlying4 h3
      obtain ⟨z4, e4, _⟩ := DataW.trod_bool Tryd.underlying4 h4
      obtain ⟨z5, e5, _, hz⟩ := DataW.trod_int Tryd.underlying5 h5
      simp only [List.cons.injEq, and_true] at e0 e1 e2 e3 e4 e5
      subst e0 e1 e2 e3 e4 e5
      have hb := u8_bounds hz
      exact ⟨⟨z0, z1, z2, z3, z4, u8 z5⟩, by simp only [Tr.cells]; rw [u8_back hb.1 hb.2]⟩

/-- A triple that came in. -/
theorem openTr {v : Value} {d : DataW H} {p : List MemPlace} (hv : Value.okWide Tryd.prog W .any base 29 v) (h : DataW.Trod enc Tryd.prog W 0 sp held 29 v d p) :
    ∃ X : Tr, v = .agg #[.int .i64 X.f, .int .i64 X.lv, .bool X.a, .bool X.i, .bool X.o, .int .u8 (X.v.toNat : Int)] := by
  obtain ⟨cs, rfl, hsz⟩ := okWide_struct Tryd.underlying29 hv
  obtain ⟨fuel, hf⟩ := h
  obtain ⟨X, hX⟩ := trip_of hf
  obtain ⟨l⟩ := cs
  simp only [Value.cells] at hX
  refine ⟨X, ?_⟩
  rw [hX]
  rfl

/-- A row of triples that came in. -/
theorem openTs {v : Value} {d : DataW H} {p : List MemPlace} (hv : Value.okWide Tryd.prog W .any base 22 v) (h : DataW.Trod enc Tryd.prog W 0 sp held 22 v d p) :
    ∃ (L : List Tr) (A : Option Addr) (c : Nat), v = .slice A L.length c ∧ RdT W A L c := by
  obtain ⟨a0, len0, cap0, rfl⟩ := okWide_slice Tryd.underlying22 hv
  obtain ⟨fuel, hf⟩ := h
  rcases open_slice Tryd.underlying22 (by simpa [Value.cells] using hf) with ⟨hcs, _⟩ | ⟨a, len, cap, m, n, D, Pl, hcs, _, hl, hm, hmm, _, hi⟩
  · simp only [List.cons.injEq, and_true] at hcs
    rw [hcs]
    exact ⟨[], none, 0, rfl, RdT.nil W⟩
  · simp only [List.cons.injEq, and_true] at hcs
    rw [hcs]
    have hlen : len ≤ m := by rw [hmm]; split <;> omega
    have each : ∀ i : Fin len, ∃ x : Tr, ∀ j u, x.cells[j]? = some u → W.cell? (a.add (i.1 * 6 + j)) = some u := by
      intro i
      obtain ⟨cs', hc, ht⟩ := hi i.1 (by omega)
      rw [cells29] at hc
      obtain ⟨_, hcl, hat⟩ := World.cells?_some hc
      obtain ⟨X, hX⟩ := trip_of ht
      refine ⟨X, fun j u hu => ?_⟩
      have hj : j < 6 := by
        have := (List.getElem?_eq_some_iff.1 hu).1
        simpa [Tr.cells] using this
      have t0 := hat j hj
      rw [add_add, hX] at t0
      rw [t0]
      exact hu
    obtain ⟨f, hF⟩ : ∃ f : Fin len → Tr, ∀ i : Fin len, ∀ j u, (f i).cells[j]? = some u → W.cell? (a.add (i.1 * 6 + j)) = some u :=
      ⟨fun i => Classical.choose (each i), fun i => Classical.choose_spec (each i)⟩
    clear each
    refine ⟨List.ofFn f, some a, cap, by simp, by simpa using hl, hm, fun hne => ?_⟩
    have h0 : 0 < len := by
      rcases Nat.eq_zero_or_pos len with h0 | h0
      · subst h0; simp at hne
      · exact h0
    obtain ⟨b, off, spot⟩ := a
    have hc0 := hF ⟨0, h0⟩ 0 _ rfl
    have hsp : spot = none := by
      have := World.cell?_spot hc0
      simpa [Addr.add] using this
    subst hsp
    refine ⟨b, off, rfl, ?_, fun i x hx => ?_⟩
    · have := World.block_lt_of_cell? W _ hc0
      rwa [blk_add] at this
    · have hi2 : i < len := by
        have := (List.getElem?_eq_some_iff.1 hx).1
        simpa using this
      have ex : x = f ⟨i, hi2⟩ := by
        rw [List.getElem?_ofFn] at hx
        simpa [hi2] using hx.symm
      subst ex
      have s : ∀ j u, (f ⟨i, hi2⟩).cells[j]? = some u → W.cell? ⟨b, off + i * 6 + j, none⟩ = some u := fun j u hu => by
        have := hF ⟨i, hi2⟩ j u hu
        rw [Addr.add_lit] at this
        rw [show off + i * 6 + j = off + (i * 6 + j) by omega]
        exact this
      exact ⟨s 0 _ rfl, s 1 _ rfl, s 2 _ rfl, s 3 _ rfl, s 4 _ rfl, s 5 _ rfl⟩

/-- An octet that came in. -/
theorem oct_val {x : Int} (h : (Lit.int .u8 x).wf = true) : ∃ u : UInt8, x = (u.toNat : Int) := by
  have hb := u8_bounds h
  exact ⟨u8 x, (u8_back hb.1 hb.2).symm⟩
end

theorem gCmd : Tryd.prog.globalNamed "linnet/slc.commands" = some 0 := by kernel_rfl
theorem tCmd : (Tryd.prog.globals[0]?).map (·.type) = some 50 := by kernel_rfl
theorem cmd_eq : (Rows.laid_linnet_slc_commands : DataW Unit) = .agg (cmdR.map fun z => .lit (.int .i64 z)) := rfl

/-- The rows' condition gives the table. -/
theorem laid_of {W : World} (h : laidMetH Tryd.prog laidL W) : Laid W := by
  rw [MakeChecks.laidMetH_plain _ _ _ (by kernel_rfl)] at h
  obtain ⟨ps, ⟨g, t, cs, fuel, p, q, hg, ht, hvar, hd, _, _⟩, _⟩ := h
  obtain rfl := Option.some.inj (gCmd.symm.trans hg)
  obtain rfl := Option.some.inj (tCmd.symm.trans ht)
  rw [cmd_eq] at hd
  have k := tab_of hd
  have k0 : ∀ i x, cmdR[i]? = some x → W.cell? ⟨0, i, none⟩ = some (.int .i64 x) := fun i x hx => by
    rw [World.var?_cell gCmd hvar, ← Array.getElem?_toList]
    exact k i x hx
  exact ⟨k0, World.block_lt_of_cell? W _ (k0 0 _ rfl)⟩

end Go.Proofs.YtemmdknnmhdhkaaDoor
