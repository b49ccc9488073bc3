/-
  Arguments opened: a table, a state, a way; the standard table's keys, laid in a world. No conditions beyond those each theorem states.
-/
import Derived.Test.YtecihodifgjkoaaDoorOpen
import Derived.Test.YtecihodifgjkoaaDoorW1
import Derived.Lib.LaidTab
import Derived.Deep.Slices
import Derived.Deep.Strs
import Derived.LaidMore
import Derived.Lay
import Derived.Stop.Joined
namespace Go.Proofs.YtecihodifgjkoaaDoor
open Go.ChangeShapes Go.WideShapes Go.ChangeAt Go.RowKit Go.Joins Go.Deep
set_option maxRecDepth 100000

theorem cells3 : Tryd.prog.cellsOf 3 = 1 := by kernel_rfl
theorem cells25 : Tryd.prog.cellsOf 25 = 62 := by kernel_rfl

theorem u8_bounds {x : Int} (h : (Lit.int .u8 x).wf = true) : 0 ≤ x ∧ x ≤ 255 := by
  simpa [Lit.wf, IntKind.min, IntKind.max, IntKind.signed, IntKind.bits] using h

/-- What the rows list. -/
def laidL : List (String × DataW Unit) := [("linnet/table.standardKeys", Rows.laid_linnet_table_standardKeys)]

theorem laid_met (os : Os) (args : Array Value) : laidMetH Tryd.prog laidL ((World.laidAll Tryd.prog os laidL).forCall (fun _ _ => 0) ⟨#[], args, []⟩).memory := by
  rw [MakeChecks.laidMetH_plain _ _ _ (by kernel_rfl)]
  exact laidMet_laidAll _ (by kernel_rfl) (by kernel_rfl)

theorem okWide_array {P : Program} {w : World} {r : Reach} {base : Nat} {t : TypeId} {v : Value} {n : Nat} {e : TypeId} (ht : P.underlying t = some (.array n e)) (h : Value.okWide P w r base t v) : ∃ cs, v = .agg cs ∧ cs.size = P.cellsOf t := by
  simp only [Value.okWide, ht] at h
  obtain ⟨cs, h1, h2, _⟩ := h
  exact ⟨cs, h1, h2⟩

section
variable {H : Type} {enc : TypeId × Value → H} {W : World} {base : Nat} {sp : Nat → Bool} {held : Bool}

theorem lit_of {fuel : Nat} {t : TypeId} {cs : List Value} {z : Int} {p : List MemPlace} (ht : Tryd.prog.underlying t = some (.int .u8)) (h : DataW.trod enc Tryd.prog W base sp held fuel t cs = some (.lit (.int .u8 z), p)) : cs = [.int .u8 z] := by
  obtain ⟨n, e, e2, _⟩ := DataW.trod_int ht h
  injection e2 with e2 _
  injection e2 with e2
  injection e2 with _ e2
  rw [e, e2]

/-- The keys, opened. -/
theorem tab_of {fuel : Nat} {cs : List Value} {r : List Int} {p : List MemPlace} (h : DataW.trod enc Tryd.prog W base sp held fuel 77 cs = some (.agg (r.map fun z => (DataW.lit (.int .u8 z) : DataW H)), p)) :
    ∀ (i : Nat) (x : Int), r[i]? = some x → cs[i]? = some (Value.int .u8 x) := by
  obtain ⟨xs, k, _, hx, hl, hn, hi⟩ := DataW.trod_array Tryd.underlying77 h
  intro i x hr
  simp only [Prod.mk.injEq, DataW.agg.injEq] at hx
  have hlen : r.length = xs.length := by
    have := congrArg List.length hx.1
    simpa using this
  have hi1 : i < xs.length := by
    have := (List.getElem?_eq_some_iff.1 hr).1
    omega
  have h1 := hi i (by omega)
  rw [cells5, Nat.mul_one, List.getElem?_eq_getElem hi1] at h1
  have h2 : (r.map fun z => (DataW.lit (.int .u8 z) : DataW H))[i]? = some (xs[i].1) := by
    rw [hx.1]
    simp [hi1]
  simp only [List.getElem?_map, hr, Option.map_some, Option.some.injEq] at h2
  have h3 : DataW.trod enc Tryd.prog W base sp held k 5 ((cs.drop i).take 1) = some (.lit (.int .u8 x), xs[i].2) := by
    rw [h1, h2]
  have e := lit_of Tryd.underlying5 h3
  have : ((cs.drop i).take 1)[0]? = some (.int .u8 x) := by rw [e]; rfl
  rw [List.getElem?_take] at this
  simpa using this

/-- A struct of two fields. -/
theorem trod_struct2 {t : TypeId} {f0 f1 : Field} {fuel : Nat} {cs : List Value} {x : DataW H × List MemPlace} (ht : Tryd.prog.underlying t = some (.struct #[f0, f1])) (h : DataW.trod enc Tryd.prog W base sp held fuel t cs = some x) :
    ∃ y0 y1 n, cs.length = Tryd.prog.cellsOf t ∧ DataW.trod enc Tryd.prog W base sp held n f0.type ((cs.drop f0.offset).take (Tryd.prog.cellsOf f0.type)) = some y0 ∧
      DataW.trod enc Tryd.prog W base sp held n f1.type ((cs.drop f1.offset).take (Tryd.prog.cellsOf f1.type)) = some y1 := by
  obtain ⟨xs, n, _, rfl, hl, hlen, hf⟩ := DataW.trod_struct ht h
  match xs, hlen with
  | [y0, y1], _ => exact ⟨y0, y1, n, hl, by simpa using hf 0 f0 rfl, by simpa using hf 1 f1 rfl⟩

/-- A cell's two parts. -/
theorem cell_of {fuel : Nat} {cs : List Value} {x : DataW H × List MemPlace} (h : DataW.trod enc Tryd.prog W base sp held fuel 23 cs = some x) : ∃ c : Cl, cs = [.int .i64 c.lv, .int .u8 c.v] ∧ 0 ≤ c.v ∧ c.v ≤ 255 := by
  obtain ⟨y0, y1, n, hl, h0, h1⟩ := trod_struct2 Tryd.underlying23 h
  rw [cells23] at hl
  match cs, hl with
  | [u0, u1], _ =>
      simp only [cells3, cells5, List.drop_zero, List.take_succ_cons, List.take_zero, List.drop_succ_cons] at h0 h1
      obtain ⟨z0, e0, _⟩ := DataW.trod_int Tryd.underlying3 h0
      obtain ⟨z1, e1, _, hz⟩ := DataW.trod_int Tryd.underlying5 h1
      simp only [List.cons.injEq, and_true] at e0 e1
      subst e0 e1
      have hb := u8_bounds hz
      exact ⟨⟨z0, z1⟩, rfl, hb.1, hb.2⟩

/-- A table's cells. -/
theorem tab_in {fuel : Nat} {l : List Value} {x : DataW H × List MemPlace} (hf : DataW.trod enc Tryd.prog W base sp held fuel 25 l = some x) : ∃ X : Tb, l = cs X ∧ ∀ i, 0 ≤ (X i).v ∧ (X i).v ≤ 255 := by
  obtain ⟨xs, k, _, _, hl, hn, hi⟩ := DataW.trod_array Tryd.underlying25 hf
  rw [cells25] at hl
  rw [cells23] at hi
  have each : ∀ i : Fin 31, ∃ c : Cl, (l.drop (i.1 * 2)).take 2 = [.int .i64 c.lv, .int .u8 c.v] ∧ 0 ≤ c.v ∧ c.v ≤ 255 := by
    intro i
    have hi2 := hi i.1 i.2
    rw [List.getElem?_eq_getElem (by rw [hn]; exact i.2)] at hi2
    exact cell_of hi2
  obtain ⟨f, hF⟩ : ∃ f : Fin 31 → Cl, ∀ i : Fin 31, (l.drop (i.1 * 2)).take 2 = [.int .i64 (f i).lv, .int .u8 (f i).v] ∧ 0 ≤ (f i).v ∧ (f i).v ≤ 255 :=
    ⟨fun i => Classical.choose (each i), fun i => Classical.choose_spec (each i)⟩
  refine ⟨fun i => if h : i < 31 then f ⟨i, h⟩ else ⟨0, 0⟩, ?_, fun i => ?_⟩
  · refine list_ext62 hl (fun i hi => ?_) (fun i hi => ?_)
    · have := congrArg (·[0]?) (hF ⟨i, hi⟩).1
      simp only [List.getElem?_take, List.getElem?_drop] at this
      simpa [hi] using this
    · have := congrArg (·[1]?) (hF ⟨i, hi⟩).1
      simp only [List.getElem?_take, List.getElem?_drop] at this
      simpa [hi] using this
  · by_cases h : i < 31
    · simp only [h, dif_pos]
      exact (hF ⟨i, h⟩).2
    · simp [h]
/-- A table that came in. -/
theorem openTab {v : Value} {d : DataW H} {p : List MemPlace} (hv : Value.okWide Tryd.prog W .any base 25 v) (h : DataW.Trod enc Tryd.prog W 0 sp held 25 v d p) : ∃ X : Tb, v = tv X ∧ ∀ i, 0 ≤ (X i).v ∧ (X i).v ≤ 255 := by
  obtain ⟨cs0, rfl, hsz⟩ := okWide_array Tryd.underlying25 hv
  obtain ⟨fuel, hf⟩ := h
  obtain ⟨l⟩ := cs0
  simp only [Value.cells] at hf
  obtain ⟨X, h1, h2⟩ := tab_in hf
  exact ⟨X, congrArg (fun l => Value.agg (List.toArray l)) h1, h2⟩
/-- A struct of 3 fields. -/
theorem trod_struct3 {t : TypeId} {f0 f1 f2 : Field} {fuel : Nat} {cs : List Value} {x : DataW H × List MemPlace} (ht : Tryd.prog.underlying t = some (.struct #[f0, f1, f2])) (h : DataW.trod enc Tryd.prog W base sp held fuel t cs = some x) :
    ∃ y0 y1 y2 n, cs.length = Tryd.prog.cellsOf t ∧ DataW.trod enc Tryd.prog W base sp held n f0.type ((cs.drop f0.offset).take (Tryd.prog.cellsOf f0.type)) = some y0 ∧
      DataW.trod enc Tryd.prog W base sp held n f1.type ((cs.drop f1.offset).take (Tryd.prog.cellsOf f1.type)) = some y1 ∧
      DataW.trod enc Tryd.prog W base sp held n f2.type ((cs.drop f2.offset).take (Tryd.prog.cellsOf f2.type)) = some y2 := by
  obtain ⟨xs, n, _, rfl, hl, hlen, hf⟩ := DataW.trod_struct ht h
  match xs, hlen with
  | [y0, y1, y2], _ => exact ⟨y0, y1, y2, n, hl, by simpa using hf 0 f0 rfl, by simpa using hf 1 f1 rfl, by simpa using hf 2 f2 rfl⟩
theorem cells26 : Tryd.prog.cellsOf 26 = 1 := by kernel_rfl
theorem cells4 : Tryd.prog.cellsOf 4 = 1 := by kernel_rfl
theorem cells28 : Tryd.prog.cellsOf 28 = 2 := by kernel_rfl
theorem cells30 : Tryd.prog.cellsOf 30 = 4 := by kernel_rfl
theorem cells38 : Tryd.prog.cellsOf 38 = 64 := by kernel_rfl
theorem oct_val {x : Int} (h : (Lit.int .u8 x).wf = true) : ∃ u : UInt8, x = (u.toNat : Int) := by
  refine ⟨oct x, ?_⟩
  have := bv_oct h
  unfold bv at this
  injection this
/-- A state's cells. -/
theorem state_in {fuel : Nat} {l : List Value} {x : DataW H × List MemPlace} (hf : DataW.trod enc Tryd.prog W 0 sp held fuel 30 l = some x) :
    ∃ (A : Option Addr) (b : List UInt8) (c : Nat) (z : Int) (ov li : Bool), l = [.slice A b.length c, .int .i64 z, .bool ov, .bool li] ∧ Rd W W.heap.size A b c := by
  obtain ⟨y0, y1, y2, n, hl, h0, h1, h2⟩ := trod_struct3 Tryd.underlying30 hf
  rw [cells30] at hl
  match l, hl with
  | [u0, u1, u2, u3], _ =>
      simp only [cells28, cells4, List.drop_zero, List.take_succ_cons, List.take_zero, List.drop_succ_cons] at h0 h1 h2
      obtain ⟨w0, w1, n2, _, g0, g1⟩ := trod_struct2 Tryd.underlying28 h0
      simp only [cells26, cells3, List.drop_zero, List.take_succ_cons, List.take_zero, List.drop_succ_cons] at g0 g1
      obtain ⟨A, b, c, e0, hr⟩ := openB g0
      obtain ⟨z1, e1, _⟩ := DataW.trod_int Tryd.underlying3 g1
      obtain ⟨o1, e2, _⟩ := DataW.trod_bool Tryd.underlying4 h1
      obtain ⟨o2, e3, _⟩ := DataW.trod_bool Tryd.underlying4 h2
      simp only [List.cons.injEq, and_true] at e1 e2 e3
      subst e0 e1 e2 e3
      exact ⟨A, b, c, z1, o1, o2, rfl, hr⟩
/-- A state that came in. -/
theorem openState {v : Value} {d : DataW H} {p : List MemPlace} (hv : Value.okWide Tryd.prog W .any base 30 v) (h : DataW.Trod enc Tryd.prog W 0 sp held 30 v d p) :
    ∃ (A : Option Addr) (b : List UInt8) (c : Nat) (z : Int) (ov li : Bool), v = .agg #[.slice A b.length c, .int .i64 z, .bool ov, .bool li] ∧ Rd W W.heap.size A b c := by
  obtain ⟨cs0, rfl, hsz⟩ := okWide_struct Tryd.underlying30 hv
  obtain ⟨fuel, hf⟩ := h
  obtain ⟨l⟩ := cs0
  simp only [Value.cells] at hf
  obtain ⟨A, b, c, z, ov, li, h1, h2⟩ := state_in hf
  exact ⟨A, b, c, z, ov, li, congrArg (fun l => Value.agg (List.toArray l)) h1, h2⟩
/-- A way that came in. -/
theorem openWay {v : Value} {d : DataW H} {p : List MemPlace} (hv : Value.okWide Tryd.prog W .any base 38 v) (h : DataW.Trod enc Tryd.prog W 0 sp held 38 v d p) :
    ∃ (X : Tb) (room : Int) (A : Option Addr) (b : List UInt8) (c : Nat), v = .agg (wy X room A b.length c).toArray ∧ Rd W W.heap.size A b c ∧ ∀ i, 0 ≤ (X i).v ∧ (X i).v ≤ 255 := by
  obtain ⟨cs0, rfl, hsz⟩ := okWide_struct Tryd.underlying38 hv
  obtain ⟨fuel, hf⟩ := h
  obtain ⟨l⟩ := cs0
  simp only [Value.cells] at hf
  obtain ⟨y0, y1, y2, n, hl, h0, h1, h2⟩ := trod_struct3 Tryd.underlying38 hf
  rw [cells38] at hl
  simp only [cells25, cells3, cells26] at h0 h1 h2
  obtain ⟨X, e0, hxb⟩ := tab_in h0
  obtain ⟨z, e1, _⟩ := DataW.trod_int Tryd.underlying3 h1
  obtain ⟨u, hu⟩ : ∃ u, (l.drop 63).take 1 = [u] := List.length_eq_one_iff.1 (by simp [hl])
  rw [hu] at h2
  obtain ⟨A, b, c, e2, hr⟩ := openB h2
  refine ⟨X, z, A, b, c, ?_, hr, hxb⟩
  have : l = wy X z A b.length c := by
    unfold wy
    have f0 : l.take 62 = cs X := by simpa using e0
    have f1 : (l.drop 62).take 1 = [.int .i64 z] := e1
    have f2 : (l.drop 63).take 1 = [.slice A b.length c] := by rw [hu, e2]
    rw [← f0]
    have f3 : l.drop 62 = (l.drop 62).take 1 ++ (l.drop 63) := by
      have := (List.take_append_drop 1 (l.drop 62)).symm
      rw [List.drop_drop] at this
      exact this
    have f4 : (l.drop 63) = (l.drop 63).take 1 := by rw [List.take_of_length_le (by rw [List.length_drop]; omega)]
    calc l = l.take 62 ++ l.drop 62 := (List.take_append_drop 62 l).symm
      _ = l.take 62 ++ ((l.drop 62).take 1 ++ (l.drop 63).take 1) := by rw [← f4, ← f3]
      _ = _ := by rw [f1, f2]; rfl
  exact congrArg (fun l => Value.agg (List.toArray l)) this
end

theorem gCmd : Tryd.prog.globalNamed "linnet/table.standardKeys" = some 0 := by kernel_rfl
theorem tCmd : (Tryd.prog.globals[0]?).map (·.type) = some 77 := by kernel_rfl
theorem cmd_eq : (Rows.laid_linnet_table_standardKeys : DataW Unit) = .agg (stdR.map fun z => .lit (.int .u8 z)) := rfl

/-- The rows' condition gives the keys. -/
theorem laid_of {W : World} (h : laidMetH Tryd.prog laidL W) : Laid W := by
  rw [MakeChecks.laidMetH_plain _ _ _ (by kernel_rfl)] at h
  obtain ⟨ps, ⟨g, t, cs, fuel, p, q, hg, ht, hvar, hd, _, _⟩, _⟩ := h
  obtain rfl := Option.some.inj (gCmd.symm.trans hg)
  obtain rfl := Option.some.inj (tCmd.symm.trans ht)
  rw [cmd_eq] at hd
  have k := tab_of hd
  have k0 : ∀ i x, stdR[i]? = some x → W.cell? ⟨0, i, none⟩ = some (.int .u8 x) := fun i x hx => by
    rw [World.var?_cell gCmd hvar, ← Array.getElem?_toList]
    exact k i x hx
  exact ⟨k0, World.block_lt_of_cell? W _ (k0 0 _ rfl)⟩

end Go.Proofs.YtecihodifgjkoaaDoor
