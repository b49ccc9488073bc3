/-
  Arguments opened: a row of bools, a row of acts, a pair.
-/
import Derived.Test.YtiohcdedndbbgaaDoorOpen
namespace Go.Proofs.YtiohcdedndbbgaaDoor
open Go.ChangeShapes Go.WideShapes Go.ChangeAt Go.RowKit Go.Joins Go.Deep

/-- The slice A, of capacity c, reads as the bools l. -/
def RdQ (w : World) (A : Option Addr) (l : List Bool) (c : Nat) : Prop :=
  l.length ≤ c ∧ c ≤ maxLen ∧ (l ≠ [] → ∃ b off, A = some ⟨b, off, none⟩ ∧ b < w.heap.size ∧ ∀ i (h : i < l.length), w.cell? ⟨b, off + i, none⟩ = some (.bool l[i]))

theorem RdQ.at_ {w W : World} {A : Option Addr} {l : List Bool} {c : Nat} (h : RdQ w A l c) (hb : Below w.heap.size w W) : RdQ W A l c := by
  refine ⟨h.1, h.2.1, fun hl => ?_⟩
  obtain ⟨b, off, e, hlt, hc⟩ := h.2.2 hl
  exact ⟨b, off, e, Nat.lt_of_lt_of_le hlt hb.size, fun i hi => (hb.cell (p := ⟨b, _, none⟩) hlt).trans (hc i hi)⟩

/-- What happens: who, whether something comes, on. -/
structure Ac where
  who : Int
  comes : Bool
  on : Bool

/-- The slice A, of capacity c, reads as the acts l. -/
def RdA (w : World) (A : Option Addr) (l : List Ac) (c : Nat) : Prop :=
  l.length ≤ c ∧ c ≤ maxLen ∧ (l ≠ [] → ∃ b off, A = some ⟨b, off, none⟩ ∧ b < w.heap.size ∧ ∀ i (h : i < l.length),
    w.cell? ⟨b, off + i * 3, none⟩ = some (.int .u8 l[i].who) ∧ w.cell? ⟨b, off + i * 3 + 1, none⟩ = some (.bool l[i].comes) ∧ w.cell? ⟨b, off + i * 3 + 2, none⟩ = some (.bool l[i].on) ∧ 0 ≤ l[i].who ∧ l[i].who ≤ 255)

theorem RdA.at_ {w W : World} {A : Option Addr} {l : List Ac} {c : Nat} (h : RdA w A l c) (hb : Below w.heap.size w W) : RdA W A l c := by
  refine ⟨h.1, h.2.1, fun hl => ?_⟩
  obtain ⟨b, off, e, hlt, hc⟩ := h.2.2 hl
  refine ⟨b, off, e, Nat.lt_of_lt_of_le hlt hb.size, fun i hi => ?_⟩
  obtain ⟨h0, h1, h2, h3⟩ := hc i hi
  exact ⟨(hb.cell (p := ⟨b, _, none⟩) hlt).trans h0, (hb.cell (p := ⟨b, _, none⟩) hlt).trans h1, (hb.cell (p := ⟨b, _, none⟩) hlt).trans h2, h3⟩

theorem cells4 : Tryd.prog.cellsOf 4 = 1 := by kernel_rfl
theorem cells42 : Tryd.prog.cellsOf 42 = 3 := by kernel_rfl

section
variable {H : Type} {enc : TypeId × Value → H} {W : World} {base : Nat} {spare : Nat → Bool} {held : Bool}

/-- A row of bools that came in. -/
theorem openQ {v : Value} {d : DataW H} {p : List MemPlace} (hv : Value.okWide Tryd.prog W .any base 39 v) (h : DataW.Trod enc Tryd.prog W 0 spare held 39 v d p) :
    ∃ (A : Option Addr) (l : List Bool) (c : Nat), v = .slice A l.length c ∧ RdQ W A l c := by
  obtain ⟨a0, len0, cap0, rfl⟩ := okWide_slice Tryd.underlying39 hv
  obtain ⟨fuel, hf⟩ := h
  rcases open_slice Tryd.underlying39 (by simpa [Value.cells] using hf) with ⟨hcs, _⟩ | ⟨a, len, cap, m, n, D, Pl, hcs, _, hl, hm, hmm, _, hi⟩
  · simp only [List.cons.injEq, and_true] at hcs
    rw [hcs]
    exact ⟨none, [], 0, rfl, by simp, by simp, fun h => absurd rfl h⟩
  · simp only [List.cons.injEq, and_true] at hcs
    rw [hcs]
    have hlen : len ≤ m := by rw [hmm]; split <;> omega
    have each : ∀ i : Fin len, ∃ x : Bool, W.cell? (a.add i.1) = some (.bool x) := by
      intro i
      obtain ⟨cs', hc, ht⟩ := hi i.1 (by omega)
      rw [cells4, Nat.mul_one] at hc
      obtain ⟨_, hcl, hat⟩ := World.cells?_some hc
      obtain ⟨x, e, _⟩ := DataW.trod_bool Tryd.underlying4 ht
      subst e
      have t0 := hat 0 (by omega)
      rw [add_add] at t0
      exact ⟨x, by simpa using t0⟩
    obtain ⟨f, hF⟩ : ∃ f : Fin len → Bool, ∀ i : Fin len, W.cell? (a.add i.1) = some (.bool (f i)) := ⟨fun i => Classical.choose (each i), fun i => Classical.choose_spec (each i)⟩
    clear each
    refine ⟨some a, List.ofFn f, cap, by simp, by simpa using hl, hm, fun hne => ?_⟩
    have h0 : 0 < len := by
      rcases Nat.eq_zero_or_pos len with h0 | h0
      · subst h0; simp at hne
      · exact h0
    obtain ⟨b, off, spot⟩ := a
    have hc0 := hF ⟨0, h0⟩
    have hsp : spot = none := by
      have := World.cell?_spot hc0
      simpa [Addr.add] using this
    subst hsp
    refine ⟨b, off, rfl, ?_, fun i hi' => ?_⟩
    · have := World.block_lt_of_cell? W _ hc0
      rwa [blk_add] at this
    · have hi2 : i < len := by simpa using hi'
      have s0 := hF ⟨i, hi2⟩
      simp only [List.getElem_ofFn]
      rw [Addr.add_lit] at s0
      exact s0

theorem u8_bounds {x : Int} (h : (Lit.int .u8 x).wf = true) : 0 ≤ x ∧ x ≤ 255 := by
  simpa [Lit.wf, IntKind.min, IntKind.max, IntKind.signed, IntKind.bits] using h

/-- A row of acts that came in, as a cell. -/
theorem openActs0 {fuel : Nat} {v : Value} {x : DataW H × List MemPlace} (hf : DataW.trod enc Tryd.prog W 0 spare held fuel 34 [v] = some x) :
    ∃ (A : Option Addr) (l : List Ac) (c : Nat), v = .slice A l.length c ∧ RdA W A l c := by
  rcases open_slice Tryd.underlying34 hf with ⟨hcs, _⟩ | ⟨a, len, cap, m, n, D, Pl, hcs, _, hl, hm, hmm, _, hi⟩
  · simp only [List.cons.injEq, and_true] at hcs
    rw [hcs]
    exact ⟨none, [], 0, rfl, by simp, by simp, fun h => absurd rfl h⟩
  · simp only [List.cons.injEq, and_true] at hcs
    rw [hcs]
    have hlen : len ≤ m := by rw [hmm]; split <;> omega
    have each : ∀ i : Fin len, ∃ x : Ac, W.cell? (a.add (i.1 * 3)) = some (.int .u8 x.who) ∧ W.cell? (a.add (i.1 * 3 + 1)) = some (.bool x.comes) ∧ W.cell? (a.add (i.1 * 3 + 2)) = some (.bool x.on) ∧ 0 ≤ x.who ∧ x.who ≤ 255 := by
      intro i
      obtain ⟨cs', hc, ht⟩ := hi i.1 (by omega)
      rw [cells42] at hc
      obtain ⟨_, hcl, hat⟩ := World.cells?_some hc
      obtain ⟨y0, y1, y2, k, _, _, h0, h1, h2⟩ := trod_struct3 Tryd.underlying42 ht
      match cs', hcl with
      | [u0, u1, u2], _ =>
        have h0' : DataW.trod enc Tryd.prog W 0 spare held k 5 [u0] = some y0 := h0
        have h1' : DataW.trod enc Tryd.prog W 0 spare held k 4 [u1] = some y1 := h1
        have h2' : DataW.trod enc Tryd.prog W 0 spare held k 4 [u2] = some y2 := h2
        obtain ⟨z0, ez0, _, hz⟩ := DataW.trod_int Tryd.underlying5 h0'
        obtain ⟨z1, ez1, _⟩ := DataW.trod_bool Tryd.underlying4 h1'
        obtain ⟨z2, ez2, _⟩ := DataW.trod_bool Tryd.underlying4 h2'
        simp only [List.cons.injEq, and_true] at ez0 ez1 ez2
        subst ez0 ez1 ez2
        have t0 := hat 0 (by omega)
        have t1 := hat 1 (by omega)
        have t2 := hat 2 (by omega)
        rw [add_add] at t0 t1 t2
        exact ⟨⟨z0, z1, z2⟩, by simpa using t0, by simpa using t1, by simpa using t2, u8_bounds hz⟩
    obtain ⟨f, hF⟩ : ∃ f : Fin len → Ac, ∀ i : Fin len, W.cell? (a.add (i.1 * 3)) = some (.int .u8 (f i).who) ∧ W.cell? (a.add (i.1 * 3 + 1)) = some (.bool (f i).comes) ∧ W.cell? (a.add (i.1 * 3 + 2)) = some (.bool (f i).on) ∧ 0 ≤ (f i).who ∧ (f i).who ≤ 255 :=
      ⟨fun i => Classical.choose (each i), fun i => Classical.choose_spec (each i)⟩
    clear each
    refine ⟨some a, List.ofFn f, cap, by simp, by simpa using hl, hm, fun hne => ?_⟩
    have h0 : 0 < len := by
      rcases Nat.eq_zero_or_pos len with h0 | h0
      · subst h0; simp at hne
      · exact h0
    obtain ⟨b, off, spot⟩ := a
    have hc0 := (hF ⟨0, h0⟩).1
    have hsp : spot = none := by
      have := World.cell?_spot hc0
      simpa [Addr.add] using this
    subst hsp
    refine ⟨b, off, rfl, ?_, fun i hi' => ?_⟩
    · have := World.block_lt_of_cell? W _ hc0
      rwa [blk_add] at this
    · have hi2 : i < len := by simpa using hi'
      obtain ⟨s0, s1, s2, s3⟩ := hF ⟨i, hi2⟩
      simp only [List.getElem_ofFn]
      rw [Addr.add_lit] at s0 s1 s2
      exact ⟨s0, s1, s2, s3⟩

/-- A row of acts that came in. -/
theorem openActs {v : Value} {d : DataW H} {p : List MemPlace} (hv : Value.okWide Tryd.prog W .any base 34 v) (h : DataW.Trod enc Tryd.prog W 0 spare held 34 v d p) :
    ∃ (A : Option Addr) (l : List Ac) (c : Nat), v = .slice A l.length c ∧ RdA W A l c := by
  obtain ⟨a0, len0, cap0, rfl⟩ := okWide_slice Tryd.underlying34 hv
  obtain ⟨fuel, hf⟩ := h
  exact openActs0 (by simpa [Value.cells] using hf)

theorem cells36 : Tryd.prog.cellsOf 36 = 3 := by kernel_rfl

/-- A pair that came in. -/
theorem openPair {v : Value} {d : DataW H} {p : List MemPlace} (hv : Value.okWide Tryd.prog W .any base 36 v) (h : DataW.Trod enc Tryd.prog W 0 spare held 36 v d p) :
    ∃ (a b : Bool) (A : Option Addr) (l : List Ac) (c : Nat), v = .agg #[.bool a, .bool b, .slice A l.length c] ∧ RdA W A l c := by
  obtain ⟨c0, c1, c2, y0, y1, y2, m, rfl, _, _, hy0, hy1, hy2⟩ := open_agg3 Tryd.underlying36 (by kernel_rfl) cells36 hv h
  obtain ⟨a, e0, _⟩ := DataW.trod_bool Tryd.underlying4 hy0
  obtain ⟨b, e1, _⟩ := DataW.trod_bool Tryd.underlying4 hy1
  simp only [List.cons.injEq, and_true] at e0 e1
  subst e0 e1
  obtain ⟨A, l, c, rfl, hr⟩ := openActs0 hy2
  exact ⟨a, b, A, l, c, rfl, hr⟩
end

end Go.Proofs.YtiohcdedndbbgaaDoor
