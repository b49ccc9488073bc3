/-
  Arguments opened: a mask, a change, an octet.
-/
import Derived.Test.YtopomoghkedbkaaOpen
import Derived.Test.YtopomoghkedbkaaT1
import Derived.Deep.Slices
import Derived.Deep.Strs
import Derived.LaidMore
import Derived.Stop.Joined
namespace Go.Proofs.Ytopomoghkedbkaa
open Go.ChangeShapes Go.WideShapes Go.ChangeAt Go.RowKit Go.Joins Go.Deep

theorem cells4 : Try.prog.cellsOf 4 = 1 := by kernel_rfl
theorem cells23 : Try.prog.cellsOf 23 = 32 := by kernel_rfl
theorem cells25 : Try.prog.cellsOf 25 = 2 := by kernel_rfl

theorem u8_bounds {x : Int} (h : (Lit.int .u8 x).wf = true) : 0 ≤ x ∧ x ≤ 255 := by
  simpa [Lit.wf, IntKind.min, IntKind.max, IntKind.signed, IntKind.bits] using h

theorem u8_nat {x : Int} (h : (Lit.int .u8 x).wf = true) : ∃ n : Nat, x = (n : Int) ∧ n < 256 := by
  have := u8_bounds h
  exact ⟨x.toNat, by omega, by omega⟩

theorem okWide_array {P : Program} {w : World} {r : Reach} {base : Nat} {t : TypeId} {v : Value} {n : Nat} {e : TypeId} (ht : P.underlying t = some (.array n e)) (h : Value.okWide P w r base t v) : ∃ cs, v = .agg cs ∧ cs.size = P.cellsOf t := by
  simp only [Value.okWide, ht] at h
  obtain ⟨cs, h1, h2, _⟩ := h
  exact ⟨cs, h1, h2⟩

section
variable {H : Type} {enc : TypeId × Value → H} {W : World} {base : Nat} {sp : Nat → Bool} {held : Bool}

/-- A struct of two fields. -/
theorem trod_struct2 {t : TypeId} {f0 f1 : Field} {fuel : Nat} {cs : List Value} {x : DataW H × List MemPlace} (ht : Try.prog.underlying t = some (.struct #[f0, f1])) (h : DataW.trod enc Try.prog W base sp held fuel t cs = some x) :
    ∃ y0 y1 n, cs.length = Try.prog.cellsOf t ∧ DataW.trod enc Try.prog W base sp held n f0.type ((cs.drop f0.offset).take (Try.prog.cellsOf f0.type)) = some y0 ∧
      DataW.trod enc Try.prog W base sp held n f1.type ((cs.drop f1.offset).take (Try.prog.cellsOf f1.type)) = some y1 := by
  obtain ⟨xs, n, _, rfl, hl, hlen, hf⟩ := DataW.trod_struct ht h
  match xs, hlen with
  | [y0, y1], _ => exact ⟨y0, y1, n, hl, by simpa using hf 0 f0 rfl, by simpa using hf 1 f1 rfl⟩

/-- A mask that came in. -/
theorem openMask {v : Value} {d : DataW H} {p : List MemPlace} (hv : Value.okWide Try.prog W .any base 23 v) (h : DataW.Trod enc Try.prog W 0 sp held 23 v d p) : ∃ X : Mk, v = mv X := by
  obtain ⟨cs0, rfl, hsz⟩ := okWide_array Try.underlying23 hv
  obtain ⟨fuel, hf⟩ := h
  obtain ⟨l⟩ := cs0
  simp only [Value.cells] at hf
  obtain ⟨xs, k, _, _, hl, hn, hi⟩ := DataW.trod_array Try.underlying23 hf
  rw [cells23] at hl
  rw [cells5] at hi
  have each : ∀ i : Fin 32, ∃ u : UInt8, l[i.1]? = some (bv u) := by
    intro i
    have hi2 := hi i.1 i.2
    rw [List.getElem?_eq_getElem (by rw [hn]; exact i.2), Nat.mul_one] at hi2
    obtain ⟨z, e, _, hz⟩ := DataW.trod_int Try.underlying5 hi2
    refine ⟨oct z, ?_⟩
    have := congrArg (·[0]?) e
    simp only [List.getElem?_take, List.getElem?_drop] at this
    rw [← bv_oct hz]
    simpa using this
  obtain ⟨f, hF⟩ : ∃ f : Fin 32 → UInt8, ∀ i : Fin 32, l[i.1]? = some (bv (f i)) :=
    ⟨fun i => Classical.choose (each i), fun i => Classical.choose_spec (each i)⟩
  refine ⟨⟨List.ofFn f, by simp⟩, ?_⟩
  have : l = (List.ofFn f).map bv := by
    apply List.ext_getElem?
    intro i
    by_cases h : i < 32
    · rw [hF ⟨i, h⟩, List.getElem?_map, List.getElem?_ofFn, dif_pos h]
      rfl
    · rw [List.getElem?_eq_none (by omega), List.getElem?_eq_none (by simp; omega)]
  exact congrArg (fun l => Value.agg (List.toArray l)) this

/-- A change that came in. -/
theorem openCh {v : Value} {d : DataW H} {p : List MemPlace} (hv : Value.okWide Try.prog W .any base 25 v) (h : DataW.Trod enc Try.prog W 0 sp held 25 v d p) : ∃ (n : Nat) (on : Bool), v = .agg #[.int .u8 (n : Int), .bool on] ∧ n < 256 := by
  obtain ⟨cs0, rfl, hsz⟩ := okWide_struct Try.underlying25 hv
  obtain ⟨fuel, hf⟩ := h
  obtain ⟨l⟩ := cs0
  simp only [Value.cells] at hf
  obtain ⟨y0, y1, n, hl, h0, h1⟩ := trod_struct2 Try.underlying25 hf
  rw [cells25] at hl
  match l, hl with
  | [u0, u1], _ =>
      simp only [cells4, cells5, List.drop_zero, List.take_succ_cons, List.take_zero, List.drop_succ_cons] at h0 h1
      obtain ⟨z0, e0, _, hz⟩ := DataW.trod_int Try.underlying5 h0
      obtain ⟨z1, e1, _⟩ := DataW.trod_bool Try.underlying4 h1
      simp only [List.cons.injEq, and_true] at e0 e1
      subst e0 e1
      obtain ⟨m, rfl, hm⟩ := u8_nat hz
      exact ⟨m, z1, rfl, hm⟩
end

end Go.Proofs.Ytopomoghkedbkaa
