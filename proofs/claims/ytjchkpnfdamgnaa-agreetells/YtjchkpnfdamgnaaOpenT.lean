/-
  Arguments opened: prefs, a table, a triple.
-/
import Derived.Test.YtjchkpnfdamgnaaOpen
import Derived.Test.YtjchkpnfdamgnaaT4
import Derived.Deep.Slices
import Derived.Deep.Strs
import Derived.LaidMore
import Derived.Stop.Joined
namespace Go.Proofs.Ytjchkpnfdamgnaa
open Go.ChangeShapes Go.WideShapes Go.ChangeAt Go.RowKit Go.Joins Go.Deep

theorem cells3 : Try.prog.cellsOf 3 = 1 := by kernel_rfl
theorem cells4 : Try.prog.cellsOf 4 = 1 := by kernel_rfl
theorem cells23 : Try.prog.cellsOf 23 = 2 := by kernel_rfl
theorem cells25 : Try.prog.cellsOf 25 = 62 := by kernel_rfl
theorem cells31 : Try.prog.cellsOf 31 = 62 := by kernel_rfl
theorem cells27 : Try.prog.cellsOf 27 = 6 := by kernel_rfl

theorem u8_bounds {x : Int} (h : (Lit.int .u8 x).wf = true) : 0 ≤ x ∧ x ≤ 255 := by
  simpa [Lit.wf, IntKind.min, IntKind.max, IntKind.signed, IntKind.bits] using h

theorem okWide_array {P : Program} {w : World} {r : Reach} {base : Nat} {t : TypeId} {v : Value} {n : Nat} {e : TypeId} (ht : P.underlying t = some (.array n e)) (h : Value.okWide P w r base t v) : ∃ cs, v = .agg cs ∧ cs.size = P.cellsOf t := by
  simp only [Value.okWide, ht] at h
  obtain ⟨cs, h1, h2, _⟩ := h
  exact ⟨cs, h1, h2⟩

section
variable {H : Type} {enc : TypeId × Value → H} {W : World} {base : Nat} {sp : Nat → Bool} {held : Bool}

/-- A struct of two fields. -/
theorem trod_struct2 {t : TypeId} {f0 f1 : Field} {fuel : Nat} {cs : List Value} {x : DataW H × List MemPlace} (ht : Try.prog.underlying t = some (.struct #[f0, f1])) (h : DataW.trod enc Try.prog W base sp held fuel t cs = some x) :
    ∃ y0 y1 n, cs.length = Try.prog.cellsOf t ∧ DataW.trod enc Try.prog W base sp held n f0.type ((cs.drop f0.offset).take (Try.prog.cellsOf f0.type)) = some y0 ∧
      DataW.trod enc Try.prog W base sp held n f1.type ((cs.drop f1.offset).take (Try.prog.cellsOf f1.type)) = some y1 := by
  obtain ⟨xs, n, _, rfl, hl, hlen, hf⟩ := DataW.trod_struct ht h
  match xs, hlen with
  | [y0, y1], _ => exact ⟨y0, y1, n, hl, by simpa using hf 0 f0 rfl, by simpa using hf 1 f1 rfl⟩

/-- A struct of six fields. -/
theorem trod_struct6 {t : TypeId} {f0 f1 f2 f3 f4 f5 : Field} {fuel : Nat} {cs : List Value} {x : DataW H × List MemPlace} (ht : Try.prog.underlying t = some (.struct #[f0, f1, f2, f3, f4, f5])) (h : DataW.trod enc Try.prog W base sp held fuel t cs = some x) :
    ∃ y0 y1 y2 y3 y4 y5 n, cs.length = Try.prog.cellsOf t ∧ DataW.trod enc Try.prog W base sp held n f0.type ((cs.drop f0.offset).take (Try.prog.cellsOf f0.type)) = some y0 ∧
      DataW.trod enc Try.prog W base sp held n f1.type ((cs.drop f1.offset).take (Try.prog.cellsOf f1.type)) = some y1 ∧ DataW.trod enc Try.prog W base sp held n f2.type ((cs.drop f2.offset).take (Try.prog.cellsOf f2.type)) = some y2 ∧
      DataW.trod enc Try.prog W base sp held n f3.type ((cs.drop f3.offset).take (Try.prog.cellsOf f3.type)) = some y3 ∧ DataW.trod enc Try.prog W base sp held n f4.type ((cs.drop f4.offset).take (Try.prog.cellsOf f4.type)) = some y4 ∧
      DataW.trod enc Try.prog W base sp held n f5.type ((cs.drop f5.offset).take (Try.prog.cellsOf f5.type)) = some y5 := by
  obtain ⟨xs, n, _, rfl, hl, hlen, hf⟩ := DataW.trod_struct ht h
  match xs, hlen with
  | [y0, y1, y2, y3, y4, y5], _ => exact ⟨y0, y1, y2, y3, y4, y5, n, hl, by simpa using hf 0 f0 rfl, by simpa using hf 1 f1 rfl, by simpa using hf 2 f2 rfl, by simpa using hf 3 f3 rfl, by simpa using hf 4 f4 rfl, by simpa using hf 5 f5 rfl⟩

/-- A cell's two parts. -/
theorem cell_of {fuel : Nat} {cs : List Value} {x : DataW H × List MemPlace} (h : DataW.trod enc Try.prog W base sp held fuel 29 cs = some x) : ∃ c : Cl, cs = [.int .i64 c.lv, .int .u8 c.v] ∧ 0 ≤ c.v ∧ c.v ≤ 255 := by
  obtain ⟨y0, y1, n, hl, h0, h1⟩ := trod_struct2 Try.underlying29 h
  rw [cells29] at hl
  match cs, hl with
  | [u0, u1], _ =>
      simp only [cells3, cells5, List.drop_zero, List.take_succ_cons, List.take_zero, List.drop_succ_cons] at h0 h1
      obtain ⟨z0, e0, _⟩ := DataW.trod_int Try.underlying3 h0
      obtain ⟨z1, e1, _, hz⟩ := DataW.trod_int Try.underlying5 h1
      simp only [List.cons.injEq, and_true] at e0 e1
      subst e0 e1
      have hb := u8_bounds hz
      exact ⟨⟨z0, z1⟩, rfl, hb.1, hb.2⟩

/-- A table that came in. -/
theorem openTab {v : Value} {d : DataW H} {p : List MemPlace} (hv : Value.okWide Try.prog W .any base 31 v) (h : DataW.Trod enc Try.prog W 0 sp held 31 v d p) : ∃ X : Tb, v = tv X ∧ ∀ i, 0 ≤ (X i).v ∧ (X i).v ≤ 255 := by
  obtain ⟨cs0, rfl, hsz⟩ := okWide_array Try.underlying31 hv
  obtain ⟨fuel, hf⟩ := h
  obtain ⟨l⟩ := cs0
  simp only [Value.cells] at hf
  obtain ⟨xs, k, _, _, hl, hn, hi⟩ := DataW.trod_array Try.underlying31 hf
  rw [cells31] at hl
  rw [cells29] at hi
  have each : ∀ i : Fin 31, ∃ c : Cl, (l.drop (i.1 * 2)).take 2 = [.int .i64 c.lv, .int .u8 c.v] ∧ 0 ≤ c.v ∧ c.v ≤ 255 := by
    intro i
    have hi2 := hi i.1 i.2
    rw [List.getElem?_eq_getElem (by rw [hn]; exact i.2)] at hi2
    exact cell_of hi2
  obtain ⟨f, hF⟩ : ∃ f : Fin 31 → Cl, ∀ i : Fin 31, (l.drop (i.1 * 2)).take 2 = [.int .i64 (f i).lv, .int .u8 (f i).v] ∧ 0 ≤ (f i).v ∧ (f i).v ≤ 255 :=
    ⟨fun i => Classical.choose (each i), fun i => Classical.choose_spec (each i)⟩
  refine ⟨fun i => if h : i < 31 then f ⟨i, h⟩ else ⟨0, 0⟩, ?_, fun i => ?_⟩
  · have : l = cs (fun i => if h : i < 31 then f ⟨i, h⟩ else ⟨0, 0⟩) := by
      refine list_ext62 hl (fun i hi => ?_) (fun i hi => ?_)
      · have := congrArg (·[0]?) (hF ⟨i, hi⟩).1
        simp only [List.getElem?_take, List.getElem?_drop] at this
        simpa [hi] using this
      · have := congrArg (·[1]?) (hF ⟨i, hi⟩).1
        simp only [List.getElem?_take, List.getElem?_drop] at this
        simpa [hi] using this
    exact congrArg (fun l => Value.agg (List.toArray l)) this
  · by_cases h : i < 31
    · simp only [h, dif_pos]
      exact (hF ⟨i, h⟩).2
    · simp [h]

/-- A cell's two parts. -/
theorem pref_of {fuel : Nat} {cs : List Value} {x : DataW H × List MemPlace} (h : DataW.trod enc Try.prog W base sp held fuel 23 cs = some x) : ∃ c : Cl, cs = [.int .i64 c.lv, .int .u8 c.v] ∧ 0 ≤ c.v ∧ c.v ≤ 255 := by
  obtain ⟨y0, y1, n, hl, h0, h1⟩ := trod_struct2 Try.underlying23 h
  rw [cells23] at hl
  match cs, hl with
  | [u0, u1], _ =>
      simp only [cells3, cells5, List.drop_zero, List.take_succ_cons, List.take_zero, List.drop_succ_cons] at h0 h1
      obtain ⟨z0, e0, _⟩ := DataW.trod_int Try.underlying3 h0
      obtain ⟨z1, e1, _, hz⟩ := DataW.trod_int Try.underlying5 h1
      simp only [List.cons.injEq, and_true] at e0 e1
      subst e0 e1
      have hb := u8_bounds hz
      exact ⟨⟨z0, z1⟩, rfl, hb.1, hb.2⟩

/-- A table that came in. -/
theorem openPref {v : Value} {d : DataW H} {p : List MemPlace} (hv : Value.okWide Try.prog W .any base 25 v) (h : DataW.Trod enc Try.prog W 0 sp held 25 v d p) : ∃ X : Tb, v = tv X ∧ ∀ i, 0 ≤ (X i).v ∧ (X i).v ≤ 255 := by
  obtain ⟨cs0, rfl, hsz⟩ := okWide_array Try.underlying25 hv
  obtain ⟨fuel, hf⟩ := h
  obtain ⟨l⟩ := cs0
  simp only [Value.cells] at hf
  obtain ⟨xs, k, _, _, hl, hn, hi⟩ := DataW.trod_array Try.underlying25 hf
  rw [cells25] at hl
  rw [cells23] at hi
  have each : ∀ i : Fin 31, ∃ c : Cl, (l.drop (i.1 * 2)).take 2 = [.int .i64 c.lv, .int .u8 c.v] ∧ 0 ≤ c.v ∧ c.v ≤ 255 := by
    intro i
    have hi2 := hi i.1 i.2
    rw [List.getElem?_eq_getElem (by rw [hn]; exact i.2)] at hi2
    exact pref_of hi2
  obtain ⟨f, hF⟩ : ∃ f : Fin 31 → Cl, ∀ i : Fin 31, (l.drop (i.1 * 2)).take 2 = [.int .i64 (f i).lv, .int .u8 (f i).v] ∧ 0 ≤ (f i).v ∧ (f i).v ≤ 255 :=
    ⟨fun i => Classical.choose (each i), fun i => Classical.choose_spec (each i)⟩
  refine ⟨fun i => if h : i < 31 then f ⟨i, h⟩ else ⟨0, 0⟩, ?_, fun i => ?_⟩
  · have : l = cs (fun i => if h : i < 31 then f ⟨i, h⟩ else ⟨0, 0⟩) := by
      refine list_ext62 hl (fun i hi => ?_) (fun i hi => ?_)
      · have := congrArg (·[0]?) (hF ⟨i, hi⟩).1
        simp only [List.getElem?_take, List.getElem?_drop] at this
        simpa [hi] using this
      · have := congrArg (·[1]?) (hF ⟨i, hi⟩).1
        simp only [List.getElem?_take, List.getElem?_drop] at this
        simpa [hi] using this
    exact congrArg (fun l => Value.agg (List.toArray l)) this
  · by_cases h : i < 31
    · simp only [h, dif_pos]
      exact (hF ⟨i, h⟩).2
    · simp [h]


/-- A triple's cells. -/
theorem trip_of {fuel : Nat} {cs : List Value} {x : DataW H × List MemPlace} (h : DataW.trod enc Try.prog W base sp held fuel 27 cs = some x) : ∃ X : Tr, cs = X.cells := by
  obtain ⟨y0, y1, y2, y3, y4, y5, n, hl, h0, h1, h2, h3, h4, h5⟩ := trod_struct6 Try.underlying27 h
  rw [cells27] at hl
  match cs, hl with
  | [u0, u1, u2, u3, u4, u5], _ =>
      simp only [cells3, cells4, cells5, List.drop_zero, List.take_succ_cons, List.take_zero, List.drop_succ_cons] at h0 h1 h2 h3 h4 h5
      obtain ⟨z0, e0, _⟩ := DataW.trod_int Try.underlying3 h0
      obtain ⟨z1, e1, _⟩ := DataW.trod_int Try.underlying3 h1
      obtain ⟨z2, e2, _⟩ := DataW.trod_bool Try.underlying4 h2
      obtain ⟨z3, e3, _⟩ := DataW.trod_bool Try.underlying4 h3
      obtain ⟨z4, e4, _⟩ := DataW.trod_bool Try.underlying4 h4
      obtain ⟨z5, e5, _⟩ := DataW.trod_int Try.underlying5 h5
      simp only [List.cons.injEq, and_true] at e0 e1 e2 e3 e4 e5
      subst e0 e1 e2 e3 e4 e5
      exact ⟨⟨z0, z1, z2, z3, z4, z5⟩, rfl⟩

/-- A triple that came in. -/
theorem openTr {v : Value} {d : DataW H} {p : List MemPlace} (hv : Value.okWide Try.prog W .any base 27 v) (h : DataW.Trod enc Try.prog W 0 sp held 27 v d p) : ∃ X : Tr, v = vt X := by
  obtain ⟨cs, rfl, hsz⟩ := okWide_struct Try.underlying27 hv
  obtain ⟨fuel, hf⟩ := h
  obtain ⟨X, hX⟩ := trip_of hf
  obtain ⟨l⟩ := cs
  simp only [Value.cells] at hX
  refine ⟨X, ?_⟩
  rw [hX]
  rfl
end

end Go.Proofs.Ytjchkpnfdamgnaa
