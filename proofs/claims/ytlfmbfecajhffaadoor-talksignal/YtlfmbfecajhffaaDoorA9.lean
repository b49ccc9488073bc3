/-
  Several texts in one: Open OpenW OpenX. No conditions beyond those each theorem states.
-/
import Derived.Test.YtlfmbfecajhffaaDoorWords
import Derived.ProofKit
import Derived.OpenShut
import Derived.Lib.SmallJoins
import Derived.Test.YtlfmbfecajhffaaDoorW1
import Derived.Lib.LaidTab
import Derived.Deep.Slices
import Derived.Deep.Strs
import Derived.LaidMore
import Derived.Lay
import Derived.Stop.Joined
import Derived.Test.YtlfmbfecajhffaaDoorKS
/-
  Arguments opened: octets and numbers.
-/
namespace Go.Proofs.YtlfmbfecajhffaaDoor
open Go.ChangeShapes Go.WideShapes Go.ChangeAt Go.RowKit Go.Joins

theorem own : ownKnob Tryd.prog.godebug = none := by kernel_rfl
theorem laidOut : laidOutB Tryd.prog = true := by kernel_rfl
theorem cells5 : Tryd.prog.cellsOf 5 = 1 := by kernel_rfl

/-- The octet of a number. -/
def oct (z : Int) : UInt8 := UInt8.ofNat z.toNat
theorem bv_oct {z : Int} (h : (Lit.int .u8 z).wf = true) : Value.int .u8 z = bv (oct z) := by
  have hx : 0 ≤ z ∧ z ≤ 255 := by simpa [Lit.wf, IntKind.min, IntKind.max, IntKind.signed, IntKind.bits] using h
  unfold bv oct
  have : ((UInt8.ofNat z.toNat).toNat : Int) = z := by
    rw [UInt8.toNat_ofNat']
    omega
  rw [this]

/-- A slice of octets that came in. -/
theorem openB {H : Type} {enc : TypeId × Value → H} {W : World} {spare : Nat → Bool} {held : Bool} {fuel : Nat} {v : Value} {x : DataW H × List MemPlace}
    (h : DataW.trod enc Tryd.prog W 0 spare held fuel 28 [v] = some x) : ∃ (A : Option Addr) (l : List UInt8) (c : Nat), v = .slice A l.length c ∧ Rd W W.heap.size A l c := by
  rcases open_ints Tryd.underlying28 Tryd.underlying5 cells5 h with ⟨hcs, _⟩ | ⟨a, len, cap, zs, hcs, _, hl, hm, hz, _, hcell, hwz⟩
  · simp only [List.cons.injEq, and_true] at hcs
    subst hcs
    exact ⟨none, [], 0, rfl, by simp, by simp, fun h => absurd rfl h, fun _ h => by cases h⟩
  · simp only [List.cons.injEq, and_true] at hcs
    subst hcs
    have hlen : len ≤ zs.length := by rw [hz]; split <;> omega
    have e : ((zs.take len).map oct).length = len := by rw [List.length_map, List.length_take]; omega
    refine ⟨some a, (zs.take len).map oct, cap, by rw [e], by rw [e]; exact hl, hm, fun hne => ⟨a, rfl, ?_⟩, fun ad had j u hu => ?_⟩
    · have h0 : 0 < zs.length := by
        rcases Nat.eq_zero_or_pos len with h0 | h0
        · subst h0; simp at hne
        · omega
      have := World.block_lt_of_cell? W _ (hcell 0 h0)
      rwa [blk_add] at this
    · injection had with had
      subst had
      rw [List.getElem?_map, Option.map_eq_some_iff] at hu
      obtain ⟨z, hz', rfl⟩ := hu
      rw [List.getElem?_take] at hz'
      split at hz'
      · obtain ⟨hj, e2⟩ := List.getElem?_eq_some_iff.1 hz'
        rw [hcell j hj, List.getD_eq_getElem?_getD, hz']
        subst e2
        simp only [Option.getD_some]
        rw [bv_oct (hwz _ (List.getElem_mem hj))]
      · cases hz'

theorem i64_bounds {x : Int} (h : (Lit.int .i64 x).wf = true) : -9223372036854775808 ≤ x ∧ x ≤ 9223372036854775807 := by
  simpa [Lit.wf, IntKind.min, IntKind.max, IntKind.signed, IntKind.bits] using h

/-- An argument reads behind the call as it read before. -/
theorem again {H : Type} {enc : TypeId × Value → H} {W W' : World} {t : TypeId} {v : Value} {d : DataW H} {p : List MemPlace} (hr : Tryd.prog.readableRec t = true) (ht : t < Tryd.prog.types.size)
    (k : DataW.Trod enc Tryd.prog W 0 (fun _ => true) true t v d p) (bel : Below W.heap.size W W') : DataW.Trod enc Tryd.prog W' 0 (fun b => decide (b < W.heap.size)) true t v d p :=
  Below.trod laidOut hr ht k bel (by obtain ⟨m, hm⟩ := k; exact DataW.trod_lt m _ _ _ hm)

end Go.Proofs.YtlfmbfecajhffaaDoor
/-
  Arguments opened: a table, a state, a way; the standard table's keys, laid in a world. No conditions beyond those each theorem states.
-/
namespace Go.Proofs.YtlfmbfecajhffaaDoor
open Go.ChangeShapes Go.WideShapes Go.ChangeAt Go.RowKit Go.Joins Go.Deep
set_option maxRecDepth 100000

theorem cells3 : Tryd.prog.cellsOf 3 = 1 := by kernel_rfl
theorem cells25 : Tryd.prog.cellsOf 25 = 62 := by kernel_rfl

theorem u8_bounds {x : Int} (h : (Lit.int .u8 x).wf = true) : 0 ≤ x ∧ x ≤ 255 := by
  simpa [Lit.wf, IntKind.min, IntKind.max, IntKind.signed, IntKind.bits] using h

/-- What the rows list. -/
def laidL : List (String × DataW Unit) := [("linnet/table.standardKeys", Rows.laid_linnet_table_standardKeys)]

theorem laid_met (os : Os) (args : Array Value) : laidMetH Tryd.prog laidL ((World.laidAll Tryd.prog os laidL).forCall (fun _ _ => 0) ⟨#[], args, []⟩).memory := by
  rw [MakeChecks.laidMetH_plain _ _ _ (by kernel_rfl)]
  exact laidMet_laidAll _ (by kernel_rfl) (by kernel_rfl)

theorem okWide_array {P : Program} {w : World} {r : Reach} {base : Nat} {t : TypeId} {v : Value} {n : Nat} {e : TypeId} (ht : P.underlying t = some (.array n e)) (h : Value.okWide P w r base t v) : ∃ cs, v = .agg cs ∧ cs.size = P.cellsOf t := by
  simp only [Value.okWide, ht] at h
  obtain ⟨cs, h1, h2, _⟩ := h
  exact ⟨cs, h1, h2⟩

section
variable {H : Type} {enc : TypeId × Value → H} {W : World} {base : Nat} {sp : Nat → Bool} {held : Bool}

theorem lit_of {fuel : Nat} {t : TypeId} {cs : List Value} {z : Int} {p : List MemPlace} (ht : Tryd.prog.underlying t = some (.int .u8)) (h : DataW.trod enc Tryd.prog W base sp held fuel t cs = some (.lit (.int .u8 z), p)) : cs = [.int .u8 z] := by
  obtain ⟨n, e, e2, _⟩ := DataW.trod_int ht h
  injection e2 with e2 _
  injection e2 with e2
  injection e2 with _ e2
  rw [e, e2]

/-- The keys, opened. -/
theorem tab_of {fuel : Nat} {cs : List Value} {r : List Int} {p : List MemPlace} (h : DataW.trod enc Tryd.prog W base sp held fuel 104 cs = some (.agg (r.map fun z => (DataW.lit (.int .u8 z) : DataW H)), p)) :
    ∀ (i : Nat) (x : Int), r[i]? = some x → cs[i]? = some (Value.int .u8 x) := by
  obtain ⟨xs, k, _, hx, hl, hn, hi⟩ := DataW.trod_array Tryd.underlying104 h
  intro i x hr
  simp only [Prod.mk.injEq, DataW.agg.injEq] at hx
  have hlen : r.length = xs.length := by
    have := congrArg List.length hx.1
    simpa using this
  have hi1 : i < xs.length := by
    have := (List.getElem?_eq_some_iff.1 hr).1
    omega
  have h1 := hi i (by omega)
  rw [cells5, Nat.mul_one, List.getElem?_eq_getElem hi1] at h1
  have h2 : (r.map fun z => (DataW.lit (.int .u8 z) : DataW H))[i]? = some (xs[i].1) := by
    rw [hx.1]
    simp [hi1]
  simp only [List.getElem?_map, hr, Option.map_some, Option.some.injEq] at h2
  have h3 : DataW.trod enc Tryd.prog W base sp held k 5 ((cs.drop i).take 1) = some (.lit (.int .u8 x), xs[i].2) := by
    rw [h1, h2]
  have e := lit_of Tryd.underlying5 h3
  have : ((cs.drop i).take 1)[0]? = some (.int .u8 x) := by rw [e]; rfl
  rw [List.getElem?_take] at this
  simpa using this

/-- A struct of two fields. -/
theorem trod_struct2 {t : TypeId} {f0 f1 : Field} {fuel : Nat} {cs : List Value} {x : DataW H × List MemPlace} (ht : Tryd.prog.underlying t = some (.struct #[f0, f1])) (h : DataW.trod enc Tryd.prog W base sp held fuel t cs = some x) :
    ∃ y0 y1 n, cs.length = Tryd.prog.cellsOf t ∧ DataW.trod enc Tryd.prog W base sp held n f0.type ((cs.drop f0.offset).take (Tryd.prog.cellsOf f0.type)) = some y0 ∧
      DataW.trod enc Tryd.prog W base sp held n f1.type ((cs.drop f1.offset).take (Tryd.prog.cellsOf f1.type)) = some y1 := by
  obtain ⟨xs, n, _, rfl, hl, hlen, hf⟩ := DataW.trod_struct ht h
  match xs, hlen with
  | [y0, y1], _ => exact ⟨y0, y1, n, hl, by simpa using hf 0 f0 rfl, by simpa using hf 1 f1 rfl⟩

/-- A cell's two parts. -/
theorem cell_of {fuel : Nat} {cs : List Value} {x : DataW H × List MemPlace} (h : DataW.trod enc Tryd.prog W base sp held fuel 23 cs = some x) : ∃ c : Cl, cs = [.int .i64 c.lv, .int .u8 c.v] ∧ 0 ≤ c.v ∧ c.v ≤ 255 := by
  obtain ⟨y0, y1, n, hl, h0, h1⟩ := trod_struct2 Tryd.underlying23 h
  rw [cells23] at hl
  match cs, hl with
  | [u0, u1], _ =>
      simp only [cells3, cells5, List.drop_zero, List.take_succ_cons, List.take_zero, List.drop_succ_cons] at h0 h1
      obtain ⟨z0, e0, _⟩ := DataW.trod_int Tryd.underlying3 h0
      obtain ⟨z1, e1, _, hz⟩ := DataW.trod_int Tryd.underlying5 h1
      simp only [List.cons.injEq, and_true] at e0 e1
      subst e0 e1
      have hb := u8_bounds hz
      exact ⟨⟨z0, z1⟩, rfl, hb.1, hb.2⟩

/-- A table's cells. -/
theorem tab_in {fuel : Nat} {l : List Value} {x : DataW H × List MemPlace} (hf : DataW.trod enc Tryd.prog W base sp held fuel 25 l = some x) : ∃ X : Tb, l = cs X ∧ ∀ i, 0 ≤ (X i).v ∧ (X i).v ≤ 255 := by
  obtain ⟨xs, k, _, _, hl, hn, hi⟩ := DataW.trod_array Tryd.underlying25 hf
  rw [cells25] at hl
  rw [cells23] at hi
  have each : ∀ i : Fin 31, ∃ c : Cl, (l.drop (i.1 * 2)).take 2 = [.int .i64 c.lv, .int .u8 c.v] ∧ 0 ≤ c.v ∧ c.v ≤ 255 := by
    intro i
    have hi2 := hi i.1 i.2
    rw [List.getElem?_eq_getElem (by rw [hn]; exact i.2)] at hi2
    exact cell_of hi2
  obtain ⟨f, hF⟩ : ∃ f : Fin 31 → Cl, ∀ i : Fin 31, (l.drop (i.1 * 2)).take 2 = [.int .i64 (f i).lv, .int .u8 (f i).v] ∧ 0 ≤ (f i).v ∧ (f i).v ≤ 255 :=
    ⟨fun i => Classical.choose (each i), fun i => Classical.choose_spec (each i)⟩
  refine ⟨fun i => if h : i < 31 then f ⟨i, h⟩ else ⟨0, 0⟩, ?_, fun i => ?_⟩
  · refine list_ext62 hl (fun i hi => ?_) (fun i hi => ?_)
    · have := congrArg (·[0]?) (hF ⟨i, hi⟩).1
      simp only [List.getElem?_take, List.getElem?_drop] at this
      simpa [hi] using this
    · have := congrArg (·[1]?) (hF ⟨i, hi⟩).1
      simp only [List.getElem?_take, List.getElem?_drop] at this
      simpa [hi] using this
  · by_cases h : i < 31
    · simp only [h, dif_pos]
      exact (hF ⟨i, h⟩).2
    · simp [h]
/-- A table that came in. -/
theorem openTab {v : Value} {d : DataW H} {p : List MemPlace} (hv : Value.okWide Tryd.prog W .any base 25 v) (h : DataW.Trod enc Tryd.prog W 0 sp held 25 v d p) : ∃ X : Tb, v = tv X ∧ ∀ i, 0 ≤ (X i).v ∧ (X i).v ≤ 255 := by
  obtain ⟨cs0, rfl, hsz⟩ := okWide_array Tryd.underlying25 hv
  obtain ⟨fuel, hf⟩ := h
  obtain ⟨l⟩ := cs0
  simp only [Value.cells] at hf
  obtain ⟨X, h1, h2⟩ := tab_in hf
  exact ⟨X, congrArg (fun l => Value.agg (List.toArray l)) h1, h2⟩
/-- A struct of 3 fields. -/
theorem trod_struct3 {t : TypeId} {f0 f1 f2 : Field} {fuel : Nat} {cs : List Value} {x : DataW H × List MemPlace} (ht : Tryd.prog.underlying t = some (.struct #[f0, f1, f2])) (h : DataW.trod enc Tryd.prog W base sp held fuel t cs = some x) :
    ∃ y0 y1 y2 n, cs.length = Tryd.prog.cellsOf t ∧ DataW.trod enc Tryd.prog W base sp held n f0.type ((cs.drop f0.offset).take (Tryd.prog.cellsOf f0.type)) = some y0 ∧
      DataW.trod enc Tryd.prog W base sp held n f1.type ((cs.drop f1.offset).take (Tryd.prog.cellsOf f1.type)) = some y1 ∧
      DataW.trod enc Tryd.prog W base sp held n f2.type ((cs.drop f2.offset).take (Tryd.prog.cellsOf f2.type)) = some y2 := by
  obtain ⟨xs, n, _, rfl, hl, hlen, hf⟩ := DataW.trod_struct ht h
  match xs, hlen with
  | [y0, y1, y2], _ => exact ⟨y0, y1, y2, n, hl, by simpa using hf 0 f0 rfl, by simpa using hf 1 f1 rfl, by simpa using hf 2 f2 rfl⟩
theorem cells26 : Tryd.prog.cellsOf 28 = 1 := by kernel_rfl
theorem cells4 : Tryd.prog.cellsOf 4 = 1 := by kernel_rfl
theorem cells28 : Tryd.prog.cellsOf 30 = 2 := by kernel_rfl
theorem cells30 : Tryd.prog.cellsOf 32 = 4 := by kernel_rfl
theorem oct_val {x : Int} (h : (Lit.int .u8 x).wf = true) : ∃ u : UInt8, x = (u.toNat : Int) := by
  refine ⟨oct x, ?_⟩
  have := bv_oct h
  unfold bv at this
  injection this
/-- A state's cells. -/
theorem state_in {fuel : Nat} {l : List Value} {x : DataW H × List MemPlace} (hf : DataW.trod enc Tryd.prog W 0 sp held fuel 32 l = some x) :
    ∃ (A : Option Addr) (b : List UInt8) (c : Nat) (z : Int) (ov li : Bool), l = [.slice A b.length c, .int .i64 z, .bool ov, .bool li] ∧ Rd W W.heap.size A b c := by
  obtain ⟨y0, y1, y2, n, hl, h0, h1, h2⟩ := trod_struct3 Tryd.underlying32 hf
  rw [cells30] at hl
  match l, hl with
  | [u0, u1, u2, u3], _ =>
      simp only [cells28, cells4, List.drop_zero, List.take_succ_cons, List.take_zero, List.drop_succ_cons] at h0 h1 h2
      obtain ⟨w0, w1, n2, _, g0, g1⟩ := trod_struct2 Tryd.underlying30 h0
      simp only [cells26, cells3, List.drop_zero, List.take_succ_cons, List.take_zero, List.drop_succ_cons] at g0 g1
      obtain ⟨A, b, c, e0, hr⟩ := openB g0
      obtain ⟨z1, e1, _⟩ := DataW.trod_int Tryd.underlying3 g1
      obtain ⟨o1, e2, _⟩ := DataW.trod_bool Tryd.underlying4 h1
      obtain ⟨o2, e3, _⟩ := DataW.trod_bool Tryd.underlying4 h2
      simp only [List.cons.injEq, and_true] at e1 e2 e3
      subst e0 e1 e2 e3
      exact ⟨A, b, c, z1, o1, o2, rfl, hr⟩
/-- A state that came in. -/
theorem openState {v : Value} {d : DataW H} {p : List MemPlace} (hv : Value.okWide Tryd.prog W .any base 32 v) (h : DataW.Trod enc Tryd.prog W 0 sp held 32 v d p) :
    ∃ (A : Option Addr) (b : List UInt8) (c : Nat) (z : Int) (ov li : Bool), v = .agg #[.slice A b.length c, .int .i64 z, .bool ov, .bool li] ∧ Rd W W.heap.size A b c := by
  obtain ⟨cs0, rfl, hsz⟩ := okWide_struct Tryd.underlying32 hv
  obtain ⟨fuel, hf⟩ := h
  obtain ⟨l⟩ := cs0
  simp only [Value.cells] at hf
  obtain ⟨A, b, c, z, ov, li, h1, h2⟩ := state_in hf
  exact ⟨A, b, c, z, ov, li, congrArg (fun l => Value.agg (List.toArray l)) h1, h2⟩
end

theorem gCmd : Tryd.prog.globalNamed "linnet/table.standardKeys" = some 0 := by kernel_rfl
theorem tCmd : (Tryd.prog.globals[0]?).map (·.type) = some 104 := by kernel_rfl
theorem cmd_eq : (Rows.laid_linnet_table_standardKeys : DataW Unit) = .agg (stdR.map fun z => .lit (.int .u8 z)) := rfl

/-- The rows' condition gives the keys. -/
theorem laid_of {W : World} (h : laidMetH Tryd.prog laidL W) : Laid W := by
  rw [MakeChecks.laidMetH_plain _ _ _ (by kernel_rfl)] at h
  obtain ⟨ps, ⟨g, t, cs, fuel, p, q, hg, ht, hvar, hd, _, _⟩, _⟩ := h
  obtain rfl := Option.some.inj (gCmd.symm.trans hg)
  obtain rfl := Option.some.inj (tCmd.symm.trans ht)
  rw [cmd_eq] at hd
  have k := tab_of hd
  have k0 : ∀ i x, stdR[i]? = some x → W.cell? ⟨0, i, none⟩ = some (.int .u8 x) := fun i x hx => by
    rw [World.var?_cell gCmd hvar, ← Array.getElem?_toList]
    exact k i x hx
  exact ⟨k0, World.block_lt_of_cell? W _ (k0 0 _ rfl)⟩

end Go.Proofs.YtlfmbfecajhffaaDoor
/-
  Arguments opened: a desk, a talk, how a key is typed, a row of steps. No conditions beyond those each theorem states.
-/
namespace Go.Proofs.YtlfmbfecajhffaaDoor
open Go.ChangeShapes Go.WideShapes Go.ChangeAt Go.RowKit Go.Joins Go.Deep
set_option maxRecDepth 100000

theorem cells27 : Tryd.prog.cellsOf 27 = 63 := by kernel_rfl
theorem cells34 : Tryd.prog.cellsOf 34 = 5 := by kernel_rfl
theorem cells36 : Tryd.prog.cellsOf 36 = 3 := by kernel_rfl
theorem cells55 : Tryd.prog.cellsOf 55 = 4 := by kernel_rfl

section
variable {H : Type} {enc : TypeId × Value → H} {W : World} {base : Nat} {sp : Nat → Bool} {held : Bool}

/-- A desk that came in. -/
theorem openDesk {v : Value} {d : DataW H} {p : List MemPlace} (hv : Value.okWide Tryd.prog W .any base 27 v) (h : DataW.Trod enc Tryd.prog W 0 sp held 27 v d p) :
    ∃ (X : Tb) (room : Int), v = .agg (dk X room).toArray ∧ ∀ i, 0 ≤ (X i).v ∧ (X i).v ≤ 255 := by
  obtain ⟨cs0, rfl, hsz⟩ := okWide_struct Tryd.underlying27 hv
  obtain ⟨fuel, hf⟩ := h
  obtain ⟨l⟩ := cs0
  simp only [Value.cells] at hf
  obtain ⟨y0, y1, n, hl, h0, h1⟩ := trod_struct2 Tryd.underlying27 hf
  rw [cells27] at hl
  simp only [cells25, cells3] at h0 h1
  obtain ⟨X, e0, hxb⟩ := tab_in h0
  obtain ⟨z, e1, _⟩ := DataW.trod_int Tryd.underlying3 h1
  refine ⟨X, z, ?_, hxb⟩
  have : l = dk X z := by
    unfold dk
    have f0 : l.take 62 = cs X := by simpa using e0
    have f1 : (l.drop 62).take 1 = [.int .i64 z] := e1
    have f4 : l.drop 62 = (l.drop 62).take 1 := by rw [List.take_of_length_le (by rw [List.length_drop]; omega)]
    calc l = l.take 62 ++ l.drop 62 := (List.take_append_drop 62 l).symm
      _ = l.take 62 ++ (l.drop 62).take 1 := by rw [← f4]
      _ = _ := by rw [f0, f1]
  exact congrArg (fun l => Value.agg (List.toArray l)) this
/-- A talk that came in. -/
theorem openTalk {v : Value} {d : DataW H} {p : List MemPlace} (hv : Value.okWide Tryd.prog W .any base 34 v) (h : DataW.Trod enc Tryd.prog W 0 sp held 34 v d p) :
    ∃ (A : Option Addr) (b : List UInt8) (c : Nat) (z : Int) (ov li hd : Bool), v = .agg #[.slice A b.length c, .int .i64 z, .bool ov, .bool li, .bool hd] ∧ Rd W W.heap.size A b c := by
  obtain ⟨cs0, rfl, hsz⟩ := okWide_struct Tryd.underlying34 hv
  obtain ⟨fuel, hf⟩ := h
  obtain ⟨l⟩ := cs0
  simp only [Value.cells] at hf
  obtain ⟨y0, y1, n, hl, h0, h1⟩ := trod_struct2 Tryd.underlying34 hf
  rw [cells34] at hl
  match l, hl with
  | [u0, u1, u2, u3, u4], _ =>
      simp only [cells30, cells4, List.drop_zero, List.take_succ_cons, List.take_zero, List.drop_succ_cons] at h0 h1
      obtain ⟨A, b, c, z, ov, li, e0, hr⟩ := state_in h0
      obtain ⟨o, e1, _⟩ := DataW.trod_bool Tryd.underlying4 h1
      simp only [List.cons.injEq, and_true] at e0 e1
      obtain ⟨rfl, rfl, rfl, rfl⟩ := e0
      subst e1
      exact ⟨A, b, c, z, ov, li, o, rfl, hr⟩
/-- How a key is typed, off its cells. -/
theorem how_in {fuel : Nat} {l : List Value} {x : DataW H × List MemPlace} (hf : DataW.trod enc Tryd.prog W base sp held fuel 36 l = some x) : ∃ (u : UInt8) (e f : Bool), l = [.int .u8 (u.toNat : Int), .bool e, .bool f] := by
  obtain ⟨y0, y1, y2, n, hl, h0, h1, h2⟩ := trod_struct3 Tryd.underlying36 hf
  rw [cells36] at hl
  match l, hl with
  | [u0, u1, u2], _ =>
      simp only [cells5, cells4, List.drop_zero, List.take_succ_cons, List.take_zero, List.drop_succ_cons] at h0 h1 h2
      obtain ⟨z0, e0, _, hz⟩ := DataW.trod_int Tryd.underlying5 h0
      obtain ⟨o1, e1, _⟩ := DataW.trod_bool Tryd.underlying4 h1
      obtain ⟨o2, e2, _⟩ := DataW.trod_bool Tryd.underlying4 h2
      simp only [List.cons.injEq, and_true] at e0 e1 e2
      subst e0 e1 e2
      obtain ⟨u, rfl⟩ := oct_val hz
      exact ⟨u, o1, o2, rfl⟩
/-- How a key is typed, that came in. -/
theorem openHow {v : Value} {d : DataW H} {p : List MemPlace} (hv : Value.okWide Tryd.prog W .any base 36 v) (h : DataW.Trod enc Tryd.prog W 0 sp held 36 v d p) : ∃ (u : UInt8) (e f : Bool), v = .agg #[.int .u8 (u.toNat : Int), .bool e, .bool f] := by
  obtain ⟨cs0, rfl, hsz⟩ := okWide_struct Tryd.underlying36 hv
  obtain ⟨fuel, hf⟩ := h
  obtain ⟨l⟩ := cs0
  simp only [Value.cells] at hf
  obtain ⟨u, e, f, h1⟩ := how_in hf
  exact ⟨u, e, f, congrArg (fun l => Value.agg (List.toArray l)) h1⟩
/-- A step, off its cells. -/
theorem step_in {fuel : Nat} {l : List Value} {x : DataW H × List MemPlace} (hf : DataW.trod enc Tryd.prog W base sp held fuel 55 l = some x) : ∃ x : Sp, l = x.cells := by
  obtain ⟨y0, y1, n, hl, h0, h1⟩ := trod_struct2 Tryd.underlying55 hf
  rw [cells55] at hl
  match l, hl with
  | [u0, u1, u2, u3], _ =>
      simp only [cells36, cells4, List.drop_zero, List.take_succ_cons, List.take_zero, List.drop_succ_cons] at h0 h1
      obtain ⟨u, e, f, e0⟩ := how_in h0
      obtain ⟨o, e1, _⟩ := DataW.trod_bool Tryd.underlying4 h1
      simp only [List.cons.injEq, and_true] at e0 e1
      obtain ⟨rfl, rfl, rfl⟩ := e0
      subst e1
      exact ⟨⟨u, e, f, o⟩, rfl⟩
/-- A row of steps, off its cell. -/
theorem steps_of {fuel : Nat} {v : Value} {x : DataW H × List MemPlace} (h : DataW.trod enc Tryd.prog W 0 sp held fuel 52 [v] = some x) :
    ∃ (L : List Sp) (A : Option Addr) (c : Nat), v = .slice A L.length c ∧ RdS W A L c := by
  rcases open_slice Tryd.underlying52 h with ⟨hcs, _⟩ | ⟨a, len, cap, m, n, D, Pl, hcs, _, hl, hm, hmm, _, hi⟩
  · simp only [List.cons.injEq, and_true] at hcs
    rw [hcs]
    exact ⟨[], none, 0, rfl, RdS.nil W⟩
  · simp only [List.cons.injEq, and_true] at hcs
    rw [hcs]
    have hlen : len ≤ m := by rw [hmm]; split <;> omega
    have each : ∀ i : Fin len, ∃ x : Sp, ∀ j u, x.cells[j]? = some u → W.cell? (a.add (i.1 * 4 + j)) = some u := by
      intro i
      obtain ⟨cs', hc, ht⟩ := hi i.1 (by omega)
      rw [cells55] at hc
      obtain ⟨_, hcl, hat⟩ := World.cells?_some hc
      obtain ⟨X, hX⟩ := step_in ht
      refine ⟨X, fun j u hu => ?_⟩
      have hj : j < 4 := by
        have := (List.getElem?_eq_some_iff.1 hu).1
        simpa [Sp.cells] using this
      have t0 := hat j hj
      rw [add_add, hX] at t0
      rw [t0]
      exact hu
    obtain ⟨f, hF⟩ : ∃ f : Fin len → Sp, ∀ i : Fin len, ∀ j u, (f i).cells[j]? = some u → W.cell? (a.add (i.1 * 4 + j)) = some u :=
      ⟨fun i => Classical.choose (each i), fun i => Classical.choose_spec (each i)⟩
    clear each
    refine ⟨List.ofFn f, some a, cap, by simp, by simpa using hl, hm, fun hne => ?_⟩
    have h0 : 0 < len := by
      rcases Nat.eq_zero_or_pos len with h0 | h0
      · subst h0; simp at hne
      · exact h0
    obtain ⟨b, off, spot⟩ := a
    have hc0 := hF ⟨0, h0⟩ 0 _ rfl
    have hsp : spot = none := by
      have := World.cell?_spot hc0
      simpa [Addr.add] using this
    subst hsp
    refine ⟨b, off, rfl, ?_, fun i x hx => ?_⟩
    · have := World.block_lt_of_cell? W _ hc0
      rwa [blk_add] at this
    · have hi' : i < len := by
        have := (List.getElem?_eq_some_iff.1 hx).1
        simpa using this
      have hx' : f ⟨i, hi'⟩ = x := by
        have := List.getElem?_ofFn (f := f) (i := i)
        rw [hx] at this
        simp only [hi', dif_pos, Option.some.injEq] at this
        exact this.symm
      subst hx'
      have g := hF ⟨i, hi'⟩
      have g0 := g 0 _ rfl
      have g1 := g 1 _ rfl
      have g2 := g 2 _ rfl
      have g3 := g 3 _ rfl
      simp only [Addr.add_lit, Nat.add_zero] at g0 g1 g2 g3
      refine ⟨g0, ?_, ?_, ?_⟩
      · rw [Nat.add_assoc]; exact g1
      · rw [Nat.add_assoc]; exact g2
      · rw [Nat.add_assoc]; exact g3
/-- A row of steps that came in. -/
theorem openSteps {v : Value} {d : DataW H} {p : List MemPlace} (hv : Value.okWide Tryd.prog W .any base 52 v) (h : DataW.Trod enc Tryd.prog W 0 sp held 52 v d p) :
    ∃ (L : List Sp) (A : Option Addr) (c : Nat), v = .slice A L.length c ∧ RdS W A L c := by
  obtain ⟨a0, len0, cap0, rfl⟩ := okWide_slice Tryd.underlying52 hv
  obtain ⟨fuel, hf⟩ := h
  exact steps_of (by simpa [Value.cells] using hf)
end

end Go.Proofs.YtlfmbfecajhffaaDoor
