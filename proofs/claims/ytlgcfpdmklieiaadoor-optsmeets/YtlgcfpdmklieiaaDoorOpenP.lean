/-
  Arguments opened: a row of acts, a pair.
-/
import Derived.Test.YtlgcfpdmklieiaaDoorOpenL
import Derived.Test.YtlgcfpdmklieiaaDoorM8
namespace Go.Proofs.YtlgcfpdmklieiaaDoor
open Go.ChangeShapes Go.WideShapes Go.ChangeAt Go.RowKit Go.Joins Go.Deep

theorem cells59 : Tryd.prog.cellsOf 59 = 5 := by kernel_rfl
theorem cells55 : Tryd.prog.cellsOf 55 = 17 := by kernel_rfl
theorem cells52 : Tryd.prog.cellsOf 52 = 8 := by kernel_rfl
theorem cells53 : Tryd.prog.cellsOf 53 = 1 := by kernel_rfl
theorem cells5 : Tryd.prog.cellsOf 5 = 1 := by kernel_rfl

theorem u8_bounds {x : Int} (h : (Lit.int .u8 x).wf = true) : 0 ≤ x ∧ x ≤ 255 := by
  simpa [Lit.wf, IntKind.min, IntKind.max, IntKind.signed, IntKind.bits] using h

section
variable {H : Type} {enc : TypeId × Value → H} {W : World} {base : Nat} {spare : Nat → Bool} {held : Bool}

/-- A row of acts that came in, as a cell. -/
theorem openActs0 {fuel : Nat} {v : Value} {x : DataW H × List MemPlace} (hf : DataW.trod enc Tryd.prog W 0 spare held fuel 53 [v] = some x) :
    ∃ (A : Option Addr) (l : List Ac) (c : Nat), v = .slice A l.length c ∧ RdA W A l c := by
  rcases open_slice Tryd.underlying53 hf with ⟨hcs, _⟩ | ⟨a, len, cap, m, n, D, Pl, hcs, _, hl, hm, hmm, _, hi⟩
  · simp only [List.cons.injEq, and_true] at hcs
    rw [hcs]
    exact ⟨none, [], 0, rfl, by simp, by simp, fun h => absurd rfl h⟩
  · simp only [List.cons.injEq, and_true] at hcs
    rw [hcs]
    have hlen : len ≤ m := by rw [hmm]; split <;> omega
    have each : ∀ i : Fin len, ∃ x : Ac, W.cell? (a.add (i.1 * 5)) = some (.int .u8 x.who) ∧ W.cell? (a.add (i.1 * 5 + 1)) = some (.bool x.comes) ∧ W.cell? (a.add (i.1 * 5 + 2)) = some (.bool x.him) ∧ W.cell? (a.add (i.1 * 5 + 3)) = some (.bool x.on) ∧ W.cell? (a.add (i.1 * 5 + 4)) = some (.int .i64 x.place) ∧ 0 ≤ x.who ∧ x.who ≤ 255 := by
      intro i
      obtain ⟨cs', hc, ht⟩ := hi i.1 (by omega)
      rw [cells59] at hc
      obtain ⟨_, hcl, hat⟩ := World.cells?_some hc
      obtain ⟨y0, y1, y2, k, _, _, h0, h1, h2⟩ := trod_struct3 Tryd.underlying59 ht
      match cs', hcl with
      | [u0, u1, u2, u3, u4], _ =>
        simp only [cells5, cells4, cells29, List.drop_zero, List.take_succ_cons, List.take_zero, List.drop_succ_cons] at h0 h1 h2
        obtain ⟨q0, q1, q2, k2, _, _, g0, g1, g2⟩ := trod_struct3 Tryd.underlying29 h2
        simp only [cells3, cells4, List.drop_zero, List.take_succ_cons, List.take_zero, List.drop_succ_cons] at g0 g1 g2
        obtain ⟨z0, ez0, _, hz⟩ := DataW.trod_int Tryd.underlying5 h0
        obtain ⟨z1, ez1, _⟩ := DataW.trod_bool Tryd.underlying4 h1
        obtain ⟨z2, ez2, _⟩ := DataW.trod_bool Tryd.underlying4 g0
        obtain ⟨z3, ez3, _⟩ := DataW.trod_bool Tryd.underlying4 g1
        obtain ⟨z4, ez4, _⟩ := DataW.trod_int Tryd.underlying3 g2
        simp only [List.cons.injEq, and_true] at ez0 ez1 ez2 ez3 ez4
        subst ez0 ez1 ez2 ez3 ez4
        have t0 := hat 0 (by omega)
        have t1 := hat 1 (by omega)
        have t2 := hat 2 (by omega)
        have t3 := hat 3 (by omega)
        have t4 := hat 4 (by omega)
        rw [add_add] at t0 t1 t2 t3 t4
        exact ⟨⟨z0, z1, z2, z3, z4⟩, by simpa using t0, by simpa using t1, by simpa using t2, by simpa using t3, by simpa using t4, u8_bounds hz⟩
    obtain ⟨f, hF⟩ : ∃ f : Fin len → Ac, ∀ i : Fin len, W.cell? (a.add (i.1 * 5)) = some (.int .u8 (f i).who) ∧ W.cell? (a.add (i.1 * 5 + 1)) = some (.bool (f i).comes) ∧ W.cell? (a.add (i.1 * 5 + 2)) = some (.bool (f i).him) ∧ W.cell? (a.add (i.1 * 5 + 3)) = some (.bool (f i).on) ∧ W.cell? (a.add (i.1 * 5 + 4)) = some (.int .i64 (f i).place) ∧ 0 ≤ (f i).who ∧ (f i).who ≤ 255 :=
      ⟨fun i => Classical.choose (each i), fun i => Classical.choose_spec (each i)⟩
    clear each
    refine ⟨some a, List.ofFn f, cap, by simp, by simpa using hl, hm, fun hne => ?_⟩
    have h0 : 0 < len := by
      rcases Nat.eq_zero_or_pos len with h0 | h0
      · subst h0; simp at hne
      · exact h0
    obtain ⟨b, off, spot⟩ := a
    have hc0 := (hF ⟨0, h0⟩).1
    have hsp : spot = none := by
      have := World.cell?_spot hc0
      simpa [Addr.add] using this
    subst hsp
    refine ⟨b, off, rfl, ?_, fun i x hx => ?_⟩
    · have := World.block_lt_of_cell? W _ hc0
      rwa [blk_add] at this
    · have hi2 : i < len := by
        have := (List.getElem?_eq_some_iff.1 hx).1
        simpa using this
      obtain ⟨s0, s1, s2, s3, s4, s5⟩ := hF ⟨i, hi2⟩
      have ex : x = f ⟨i, hi2⟩ := by
        rw [List.getElem?_ofFn] at hx
        simpa [hi2] using hx.symm
      subst ex
      rw [Addr.add_lit] at s0 s1 s2 s3 s4
      exact ⟨s0, s1, s2, s3, s4, s5⟩

/-- Two rows of four bools that came in, as cells. -/
theorem two23 {fuel : Nat} {cs : List Value} {x : DataW H × List MemPlace} (h : DataW.trod enc Tryd.prog W 0 spare held fuel 52 cs = some x) :
    ∃ m n : Four Bool, cs = [.bool m.a, .bool m.b, .bool m.c, .bool m.d, .bool n.a, .bool n.b, .bool n.c, .bool n.d] := by
  obtain ⟨xs, k, _, _, hl, hn, hi⟩ := DataW.trod_array Tryd.underlying52 h
  rw [cells52] at hl
  have h0 := hi 0 (by omega)
  have h1 := hi 1 (by omega)
  match xs, hn with
  | [y0, y1], _ =>
    match cs, hl with
    | [u0, u1, u2, u3, u4, u5, u6, u7], _ =>
      simp only [cells23, Nat.zero_mul, Nat.one_mul, List.drop_zero, List.take_succ_cons, List.take_zero, List.drop_succ_cons, List.getElem?_cons_zero, List.getElem?_cons_succ] at h0 h1
      obtain ⟨m, e0⟩ := arr23 (d := y0.1) (p := y0.2) h0
      obtain ⟨n, e1⟩ := arr23 (d := y1.1) (p := y1.2) h1
      simp only [List.cons.injEq, and_true] at e0 e1
      obtain ⟨rfl, rfl, rfl, rfl⟩ := e0
      obtain ⟨rfl, rfl, rfl, rfl⟩ := e1
      exact ⟨m, n, rfl⟩

/-- A pair that came in. -/
theorem openPair {v : Value} {d : DataW H} {p : List MemPlace} (hv : Value.okWide Tryd.prog W .any base 55 v) (h : DataW.Trod enc Tryd.prog W 0 spare held 55 v d p) :
    ∃ (ma mb mc md : Four Bool) (A : Option Addr) (l : List Ac) (c : Nat), v = .agg #[.bool ma.a, .bool ma.b, .bool ma.c, .bool ma.d, .bool mb.a, .bool mb.b, .bool mb.c, .bool mb.d, .bool mc.a, .bool mc.b, .bool mc.c, .bool mc.d, .bool md.a, .bool md.b, .bool md.c, .bool md.d, .slice A l.length c] ∧ RdA W A l c := by
  obtain ⟨cs, rfl, hsz⟩ := okWide_struct Tryd.underlying55 hv
  obtain ⟨fuel, hf⟩ := h
  obtain ⟨y0, y1, y2, n, _, _, h0, h1, h2⟩ := trod_struct3 Tryd.underlying55 hf
  obtain ⟨l⟩ := cs
  have hl : l.length = 17 := hsz.trans cells55
  match l, hl with
  | [u0, u1, u2, u3, u4, u5, u6, u7, u8, u9, u10, u11, u12, u13, u14, u15, u16], _ =>
    simp only [Value.cells, cells52, cells53, List.drop_zero, List.take_succ_cons, List.take_zero, List.drop_succ_cons] at h0 h1 h2
    obtain ⟨ma, mb, e0⟩ := two23 h0
    obtain ⟨mc, md, e1⟩ := two23 h1
    obtain ⟨A, l, c, e2, hr⟩ := openActs0 h2
    simp only [List.cons.injEq, and_true] at e0 e1
    obtain ⟨rfl, rfl, rfl, rfl, rfl, rfl, rfl, rfl⟩ := e0
    obtain ⟨rfl, rfl, rfl, rfl, rfl, rfl, rfl, rfl⟩ := e1
    subst e2
    exact ⟨ma, mb, mc, md, A, l, c, rfl, hr⟩
end

end Go.Proofs.YtlgcfpdmklieiaaDoor
