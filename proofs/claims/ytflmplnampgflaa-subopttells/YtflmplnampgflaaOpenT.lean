/-
  Arguments opened: a sub, a row of triples, a mask, an octet.
-/
import Derived.Test.YtflmplnampgflaaOpen
import Derived.Test.YtflmplnampgflaaO1
import Derived.Deep.Slices
import Derived.Deep.Strs
import Derived.LaidMore
import Derived.Stop.Joined
namespace Go.Proofs.Ytflmplnampgflaa
open Go.ChangeShapes Go.WideShapes Go.ChangeAt Go.RowKit Go.Joins Go.Deep

theorem cells60 : Try.prog.cellsOf 60 = 6 := by kernel_rfl
theorem cells3 : Try.prog.cellsOf 3 = 1 := by kernel_rfl
theorem cells4 : Try.prog.cellsOf 4 = 1 := by kernel_rfl
theorem cells23 : Try.prog.cellsOf 23 = 32 := by kernel_rfl
theorem cells24 : Try.prog.cellsOf 24 = 1 := by kernel_rfl
theorem cells26 : Try.prog.cellsOf 26 = 36 := by kernel_rfl

theorem u8_bounds {x : Int} (h : (Lit.int .u8 x).wf = true) : 0 ≤ x ∧ x ≤ 255 := by
  simpa [Lit.wf, IntKind.min, IntKind.max, IntKind.signed, IntKind.bits] using h
theorem oct_val {x : Int} (h : (Lit.int .u8 x).wf = true) : ∃ u : UInt8, x = (u.toNat : Int) := by
  have hb := u8_bounds h
  exact ⟨u8 x, (u8_back hb.1 hb.2).symm⟩

theorem okWide_array {P : Program} {w : World} {r : Reach} {base : Nat} {t : TypeId} {v : Value} {n : Nat} {e : TypeId} (ht : P.underlying t = some (.array n e)) (h : Value.okWide P w r base t v) : ∃ cs, v = .agg cs ∧ cs.size = P.cellsOf t := by
  simp only [Value.okWide, ht] at h
  obtain ⟨cs, h1, h2, _⟩ := h
  exact ⟨cs, h1, h2⟩

section
variable {H : Type} {enc : TypeId × Value → H} {W : World} {base : Nat} {sp : Nat → Bool} {held : Bool}

/-- A struct of six fields. -/
theorem trod_struct6 {t : TypeId} {f0 f1 f2 f3 f4 f5 : Field} {fuel : Nat} {cs : List Value} {x : DataW H × List MemPlace} (ht : Try.prog.underlying t = some (.struct #[f0, f1, f2, f3, f4, f5])) (h : DataW.trod enc Try.prog W base sp held fuel t cs = some x) :
    ∃ y0 y1 y2 y3 y4 y5 n, cs.length = Try.prog.cellsOf t ∧ DataW.trod enc Try.prog W base sp held n f0.type ((cs.drop f0.offset).take (Try.prog.cellsOf f0.type)) = some y0 ∧
      DataW.trod enc Try.prog W base sp held n f1.type ((cs.drop f1.offset).take (Try.prog.cellsOf f1.type)) = some y1 ∧ DataW.trod enc Try.prog W base sp held n f2.type ((cs.drop f2.offset).take (Try.prog.cellsOf f2.type)) = some y2 ∧
      DataW.trod enc Try.prog W base sp held n f3.type ((cs.drop f3.offset).take (Try.prog.cellsOf f3.type)) = some y3 ∧ DataW.trod enc Try.prog W base sp held n f4.type ((cs.drop f4.offset).take (Try.prog.cellsOf f4.type)) = some y4 ∧
      DataW.trod enc Try.prog W base sp held n f5.type ((cs.drop f5.offset).take (Try.prog.cellsOf f5.type)) = some y5 := by
  obtain ⟨xs, n, _, rfl, hl, hlen, hf⟩ := DataW.trod_struct ht h
  match xs, hlen with
  | [y0, y1, y2, y3, y4, y5], _ => exact ⟨y0, y1, y2, y3, y4, y5, n, hl, by simpa using hf 0 f0 rfl, by simpa using hf 1 f1 rfl, by simpa using hf 2 f2 rfl, by simpa using hf 3 f3 rfl, by simpa using hf 4 f4 rfl, by simpa using hf 5 f5 rfl⟩

/-- A triple's cells. -/
theorem trip_of {fuel : Nat} {cs : List Value} {x : DataW H × List MemPlace} (h : DataW.trod enc Try.prog W base sp held fuel 60 cs = some x) : ∃ X : Tr, cs = X.cells := by
  obtain ⟨y0, y1, y2, y3, y4, y5, n, hl, h0, h1, h2, h3, h4, h5⟩ := trod_struct6 Try.underlying60 h
  rw [cells60] at hl
  match cs, hl with
  | [u0, u1, u2, u3, u4, u5], _ =>
      simp only [cells3, cells4, cells5, List.drop_zero, List.take_succ_cons, List.take_zero, List.drop_succ_cons] at h0 h1 h2 h3 h4 h5
      obtain ⟨z0, e0, _⟩ := DataW.trod_int Try.underlying3 h0
      obtain ⟨z1, e1, _⟩ := DataW.trod_int Try.underlying3 h1
      obtain ⟨z2, e2, _⟩ := DataW.trod_bool Try.underlying4 h2
      obtain ⟨z3, e3, _⟩ := DataW.trod_bool Try.underlying4 h3
      obtain ⟨z4, e4, _⟩ := DataW.trod_bool Try.underlying4 h4
      obtain ⟨z5, e5, _, hz⟩ := DataW.trod_int Try.underlying5 h5
      simp only [List.cons.injEq, and_true] at e0 e1 e2 e3 e4 e5
      subst e0 e1 e2 e3 e4 e5
      have hb := u8_bounds hz
      exact ⟨⟨z0, z1, z2, z3, z4, u8 z5⟩, by simp only [Tr.cells]; rw [u8_back hb.1 hb.2]⟩

/-- A row of triples, off its cell. -/
theorem trips_of {fuel : Nat} {v : Value} {x : DataW H × List MemPlace} (h : DataW.trod enc Try.prog W 0 sp held fuel 24 [v] = some x) :
    ∃ (L : List Tr) (A : Option Addr) (c : Nat), v = .slice A L.length c ∧ RdT W A L c := by
  rcases open_slice Try.underlying24 h with ⟨hcs, _⟩ | ⟨a, len, cap, m, n, D, Pl, hcs, _, hl, hm, hmm, _, hi⟩
  · simp only [List.cons.injEq, and_true] at hcs
    rw [hcs]
    exact ⟨[], none, 0, rfl, RdT.nil W⟩
  · simp only [List.cons.injEq, and_true] at hcs
    rw [hcs]
    have hlen : len ≤ m := by rw [hmm]; split <;> omega
    have each : ∀ i : Fin len, ∃ x : Tr, ∀ j u, x.cells[j]? = some u → W.cell? (a.add (i.1 * 6 + j)) = some u := by
      intro i
      obtain ⟨cs', hc, ht⟩ := hi i.1 (by omega)
      rw [cells60] at hc
      obtain ⟨_, hcl, hat⟩ := World.cells?_some hc
      obtain ⟨X, hX⟩ := trip_of ht
      refine ⟨X, fun j u hu => ?_⟩
      have hj : j < 6 := by
        have := (List.getElem?_eq_some_iff.1 hu).1
        simpa [Tr.cells] using this
      have t0 := hat j hj
      rw [add_add, hX] at t0
      rw [t0]
      exact hu
    obtain ⟨f, hF⟩ : ∃ f : Fin len → Tr, ∀ i : Fin len, ∀ j u, (f i).cells[j]? = some u → W.cell? (a.add (i.1 * 6 + j)) = some u :=
      ⟨fun i => Classical.choose (each i), fun i => Classical.choose_spec (each i)⟩
    clear each
    refine ⟨List.ofFn f, some a, cap, by simp, by simpa using hl, hm, fun hne => ?_⟩
    have h0 : 0 < len := by
      rcases Nat.eq_zero_or_pos len with h0 | h0
      · subst h0; simp at hne
      · exact h0
    obtain ⟨b, off, spot⟩ := a
    have hc0 := hF ⟨0, h0⟩ 0 _ rfl
    have hsp : spot = none := by
      have := World.cell?_spot hc0
      simpa [Addr.add] using this
    subst hsp
    refine ⟨b, off, rfl, ?_, fun i x hx => ?_⟩
    · have := World.block_lt_of_cell? W _ hc0
      rwa [blk_add] at this
    · have hi2 : i < len := by
        have := (List.getElem?_eq_some_iff.1 hx).1
        simpa using this
      have ex : x = f ⟨i, hi2⟩ := by
        rw [List.getElem?_ofFn] at hx
        simpa [hi2] using hx.symm
      subst ex
      have s : ∀ j u, (f ⟨i, hi2⟩).cells[j]? = some u → W.cell? ⟨b, off + i * 6 + j, none⟩ = some u := fun j u hu => by
        have := hF ⟨i, hi2⟩ j u hu
        rw [Addr.add_lit] at this
        rw [show off + i * 6 + j = off + (i * 6 + j) by omega]
        exact this
      exact ⟨s 0 _ rfl, s 1 _ rfl, s 2 _ rfl, s 3 _ rfl, s 4 _ rfl, s 5 _ rfl⟩

/-- A mask, off its cells. -/
theorem mask_of {fuel : Nat} {l : List Value} {x : DataW H × List MemPlace} (hf : DataW.trod enc Try.prog W base sp held fuel 23 l = some x) : ∃ X : Mk, l = ms X := by
  obtain ⟨xs, k, _, _, hl, hn, hi⟩ := DataW.trod_array Try.underlying23 hf
  rw [cells23] at hl
  rw [cells5] at hi
  have each : ∀ i : Fin 32, ∃ u : UInt8, l[i.1]? = some (bv u) := by
    intro i
    have hi2 := hi i.1 i.2
    rw [List.getElem?_eq_getElem (by rw [hn]; exact i.2), Nat.mul_one] at hi2
    obtain ⟨z, e, _, hz⟩ := DataW.trod_int Try.underlying5 hi2
    refine ⟨oct z, ?_⟩
    have := congrArg (·[0]?) e
    simp only [List.getElem?_take, List.getElem?_drop] at this
    rw [← bv_oct hz]
    simpa using this
  obtain ⟨f, hF⟩ : ∃ f : Fin 32 → UInt8, ∀ i : Fin 32, l[i.1]? = some (bv (f i)) :=
    ⟨fun i => Classical.choose (each i), fun i => Classical.choose_spec (each i)⟩
  refine ⟨⟨List.ofFn f, by simp⟩, ?_⟩
  have : l = (List.ofFn f).map bv := by
    apply List.ext_getElem?
    intro i
    by_cases h : i < 32
    · rw [hF ⟨i, h⟩, List.getElem?_map, List.getElem?_ofFn, dif_pos h]
      rfl
    · rw [List.getElem?_eq_none (by omega), List.getElem?_eq_none (by simp; omega)]
  exact this


/-- A struct of five fields. -/
theorem trod_struct5 {t : TypeId} {f0 f1 f2 f3 f4 : Field} {fuel : Nat} {cs : List Value} {x : DataW H × List MemPlace} (ht : Try.prog.underlying t = some (.struct #[f0, f1, f2, f3, f4])) (h : DataW.trod enc Try.prog W base sp held fuel t cs = some x) :
    ∃ y0 y1 y2 y3 y4 n, cs.length = Try.prog.cellsOf t ∧ DataW.trod enc Try.prog W base sp held n f0.type ((cs.drop f0.offset).take (Try.prog.cellsOf f0.type)) = some y0 ∧
      DataW.trod enc Try.prog W base sp held n f1.type ((cs.drop f1.offset).take (Try.prog.cellsOf f1.type)) = some y1 ∧ DataW.trod enc Try.prog W base sp held n f2.type ((cs.drop f2.offset).take (Try.prog.cellsOf f2.type)) = some y2 ∧
      DataW.trod enc Try.prog W base sp held n f3.type ((cs.drop f3.offset).take (Try.prog.cellsOf f3.type)) = some y3 ∧ DataW.trod enc Try.prog W base sp held n f4.type ((cs.drop f4.offset).take (Try.prog.cellsOf f4.type)) = some y4 := by
  obtain ⟨xs, n, _, rfl, hl, hlen, hf⟩ := DataW.trod_struct ht h
  match xs, hlen with
  | [y0, y1, y2, y3, y4], _ => exact ⟨y0, y1, y2, y3, y4, n, hl, by simpa using hf 0 f0 rfl, by simpa using hf 1 f1 rfl, by simpa using hf 2 f2 rfl, by simpa using hf 3 f3 rfl, by simpa using hf 4 f4 rfl⟩

/-- A sub that came in. -/
theorem openSub {v : Value} {d : DataW H} {p : List MemPlace} (hv : Value.okWide Try.prog W .any base 26 v) (h : DataW.Trod enc Try.prog W 0 sp held 26 v d p) :
    ∃ (k m z : Int) (M : Mk) (L : List Tr) (A : Option Addr) (c : Nat), v = sv k m z M (.slice A L.length c) ∧ RdT W A L c := by
  obtain ⟨cs, rfl, hsz⟩ := okWide_struct Try.underlying26 hv
  obtain ⟨fuel, hf⟩ := h
  obtain ⟨l⟩ := cs
  simp only [Value.cells] at hf
  obtain ⟨y0, y1, y2, y3, y4, n, hl, h0, h1, h2, h3, h4⟩ := trod_struct5 Try.underlying26 hf
  rw [cells26] at hl
  match l, hl with
  | u0 :: u1 :: u2 :: r, hl =>
      have hr : r.length = 33 := by simpa using hl
      simp only [cells3, cells23, cells24, List.drop_zero, List.take_succ_cons, List.take_zero, List.drop_succ_cons] at h0 h1 h2 h3 h4
      obtain ⟨z0, e0, _⟩ := DataW.trod_int Try.underlying3 h0
      obtain ⟨z1, e1, _⟩ := DataW.trod_int Try.underlying3 h1
      obtain ⟨z2, e2, _⟩ := DataW.trod_int Try.underlying3 h2
      simp only [List.cons.injEq, and_true] at e0 e1 e2
      subst e0 e1 e2
      obtain ⟨M, hM⟩ := mask_of h3
      obtain ⟨u, hu⟩ : ∃ u, r.drop 32 = [u] := List.length_eq_one_iff.1 (by rw [List.length_drop]; omega)
      rw [hu] at h4
      obtain ⟨L, A, c, rfl, hL⟩ := trips_of h4
      refine ⟨z0, z1, z2, M, L, A, c, ?_, hL⟩
      have e : r = ms M ++ [.slice A L.length c] := by
        rw [← hM, ← hu, List.take_append_drop]
      rw [e]
      rfl
  | [], hl => simp at hl
  | [_], hl => simp at hl
  | [_, _], hl => simp at hl

/-- A row of triples that came in. -/
theorem openTs {v : Value} {d : DataW H} {p : List MemPlace} (hv : Value.okWide Try.prog W .any base 24 v) (h : DataW.Trod enc Try.prog W 0 sp held 24 v d p) :
    ∃ (L : List Tr) (A : Option Addr) (c : Nat), v = .slice A L.length c ∧ RdT W A L c := by
  obtain ⟨a0, len0, cap0, rfl⟩ := okWide_slice Try.underlying24 hv
  obtain ⟨fuel, hf⟩ := h
  exact trips_of (by simpa [Value.cells] using hf)
/-- A mask that came in. -/
theorem openMask {v : Value} {d : DataW H} {p : List MemPlace} (hv : Value.okWide Try.prog W .any base 23 v) (h : DataW.Trod enc Try.prog W 0 sp held 23 v d p) : ∃ X : Mk, v = mv X := by
  obtain ⟨cs0, rfl, hsz⟩ := okWide_array Try.underlying23 hv
  obtain ⟨fuel, hf⟩ := h
  obtain ⟨l⟩ := cs0
  simp only [Value.cells] at hf
  obtain ⟨X, hX⟩ := mask_of hf
  exact ⟨X, congrArg (fun l => Value.agg (List.toArray l)) hX⟩
end

end Go.Proofs.Ytflmplnampgflaa
