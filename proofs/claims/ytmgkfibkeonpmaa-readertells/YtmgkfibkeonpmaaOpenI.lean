/-
  Arguments opened: an item, a row of items. The variables that the rows list, laid in a world.
-/
import Derived.Test.YtmgkfibkeonpmaaOpen
import Derived.Test.YtmgkfibkeonpmaaI6
import Derived.Deep.Slices
namespace Go.Proofs.Ytmgkfibkeonpmaa
open Go.ChangeShapes Go.WideShapes Go.ChangeAt Go.RowKit Go.Joins Go.Deep

theorem cells29 : Try.prog.cellsOf 41 = 4 := by kernel_rfl

/-- An item that came in. -/
theorem openX {H : Type} {enc : TypeId × Value → H} {W : World} {base : Nat} {spare : Nat → Bool} {held : Bool} {v : Value} {d : DataW H} {p : List MemPlace}
    (hv : Value.okWide Try.prog W .any base 41 v) (h : DataW.Trod enc Try.prog W 0 spare held 41 v d p) :
    ∃ X : Itm, v = .agg #[.int .i64 X.k, .int .i64 X.a, .int .i64 X.b, .slice X.A X.l.length X.c] ∧ Rd W W.heap.size X.A X.l X.c := by
  obtain ⟨c0, c1, c2, c3, y0, y1, y2, y3, m, rfl, _, _, hy0, hy1, hy2, hy3⟩ := open_agg4 Try.underlying41 (by kernel_rfl) cells29 hv h
  obtain ⟨k, e0, _, _⟩ := DataW.trod_int Try.underlying3 hy0
  obtain ⟨a, e1, _, _⟩ := DataW.trod_int Try.underlying3 hy1
  obtain ⟨b, e2, _, _⟩ := DataW.trod_int Try.underlying3 hy2
  simp only [List.cons.injEq, and_true] at e0 e1 e2
  subst e0 e1 e2
  obtain ⟨A, l, c, rfl, hr⟩ := openB hy3
  exact ⟨⟨k, a, b, A, l, c⟩, rfl, hr⟩

/-- A row of items that came in. -/
theorem openXs {H : Type} {enc : TypeId × Value → H} {W : World} {base : Nat} {spare : Nat → Bool} {held : Bool} {v : Value} {d : DataW H} {p : List MemPlace}
    (hv : Value.okWide Try.prog W .any base 27 v) (h : DataW.Trod enc Try.prog W 0 spare held 27 v d p) : ∃ (xs : List Itm) (A : Option Addr) (c : Nat), v = .slice A xs.length c ∧ RdI W A xs c := by
  obtain ⟨a0, len0, cap0, rfl⟩ := okWide_slice Try.underlying27 hv
  obtain ⟨fuel, hf⟩ := h
  rcases open_slice Try.underlying27 (by simpa [Value.cells] using hf) with ⟨hcs, _⟩ | ⟨a, len, cap, m, n, D, Pl, hcs, _, hl, hm, hmm, _, hi⟩
  · simp only [List.cons.injEq, and_true] at hcs
    rw [hcs]
    exact ⟨[], none, 0, rfl, by simp, by simp, fun h => absurd rfl h, fun x hx => by simp at hx⟩
  · simp only [List.cons.injEq, and_true] at hcs
    rw [hcs]
    have hlen : len ≤ m := by rw [hmm]; split <;> omega
    have each : ∀ i : Fin len, ∃ x : Itm, W.cell? (a.add (i.1 * 4)) = some (.int .i64 x.k) ∧ W.cell? (a.add (i.1 * 4 + 1)) = some (.int .i64 x.a) ∧ W.cell? (a.add (i.1 * 4 + 2)) = some (.int .i64 x.b) ∧
        W.cell? (a.add (i.1 * 4 + 3)) = some (.slice x.A x.l.length x.c) ∧ Rd W W.heap.size x.A x.l x.c := by
      intro i
      obtain ⟨cs', hc, ht⟩ := hi i.1 (by omega)
      rw [cells29] at hc
      obtain ⟨_, hcl, hat⟩ := World.cells?_some hc
      obtain ⟨y0, y1, y2, y3, k, _, _, h0, h1, h2, h3⟩ := trod_struct4 Try.underlying41 ht
      match cs', hcl with
      | [u0, u1, u2, u3], _ =>
        have h0' : DataW.trod enc Try.prog W 0 spare held k 3 [u0] = some y0 := h0
        have h1' : DataW.trod enc Try.prog W 0 spare held k 3 [u1] = some y1 := h1
        have h2' : DataW.trod enc Try.prog W 0 spare held k 3 [u2] = some y2 := h2
        have h3' : DataW.trod enc Try.prog W 0 spare held k 22 [u3] = some y3 := h3
        obtain ⟨z0, ez0, _, _⟩ := DataW.trod_int Try.underlying3 h0'
        obtain ⟨z1, ez1, _, _⟩ := DataW.trod_int Try.underlying3 h1'
        obtain ⟨z2, ez2, _, _⟩ := DataW.trod_int Try.underlying3 h2'
        obtain ⟨A, l, c, rfl, hr⟩ := openB h3'
        simp only [List.cons.injEq, and_true] at ez0 ez1 ez2
        subst ez0 ez1 ez2
        have t0 := hat 0 (by omega)
        have t1 := hat 1 (by omega)
        have t2 := hat 2 (by omega)
        have t3 := hat 3 (by omega)
        rw [Go.Deep.add_add] at t0 t1 t2 t3
        exact ⟨⟨z0, z1, z2, A, l, c⟩, by simpa using t0, by simpa using t1, by simpa using t2, by simpa using t3, hr⟩
    obtain ⟨f, hF⟩ : ∃ f : Fin len → Itm, ∀ i : Fin len, W.cell? (a.add (i.1 * 4)) = some (.int .i64 (f i).k) ∧ W.cell? (a.add (i.1 * 4 + 1)) = some (.int .i64 (f i).a) ∧ W.cell? (a.add (i.1 * 4 + 2)) = some (.int .i64 (f i).b) ∧
        W.cell? (a.add (i.1 * 4 + 3)) = some (.slice (f i).A (f i).l.length (f i).c) ∧ Rd W W.heap.size (f i).A (f i).l (f i).c :=
      ⟨fun i => Classical.choose (each i), fun i => Classical.choose_spec (each i)⟩
    clear each
    refine ⟨List.ofFn f, some a, cap, by simp, by simpa using hl, hm, fun hne => ?_, fun x hx => ?_⟩
    · have h0 : 0 < len := by
        rcases Nat.eq_zero_or_pos len with h0 | h0
        · subst h0; simp at hne
        · exact h0
      obtain ⟨b, off, spot⟩ := a
      have hc0 := (hF ⟨0, h0⟩).1
      have hsp : spot = none := by
        have := World.cell?_spot hc0
        simpa [Addr.add] using this
      subst hsp
      refine ⟨b, off, rfl, ?_, fun i hi' => ?_⟩
      · have := World.block_lt_of_cell? W _ hc0
        rwa [blk_add] at this
      · have hi2 : i < len := by simpa using hi'
        obtain ⟨s0, s1, s2, s3, _⟩ := hF ⟨i, hi2⟩
        simp only [List.getElem_ofFn]
        rw [Addr.add_lit] at s0 s1 s2 s3
        exact ⟨s0, s1, s2, s3⟩
    · rw [List.mem_ofFn] at hx
      obtain ⟨i, rfl⟩ := hx
      exact (hF i).2.2.2.2

end Go.Proofs.Ytmgkfibkeonpmaa
