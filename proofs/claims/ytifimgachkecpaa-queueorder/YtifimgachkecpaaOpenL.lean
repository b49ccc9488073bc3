/-
  An argument opened: a list of acts.
-/
import Derived.Test.YtifimgachkecpaaOpen
import Derived.Deep.Slices
namespace Go.Proofs.Ytifimgachkecpaa
open Go.ChangeShapes Go.WideShapes Go.ChangeAt Go.RowKit Go.Joins Go.Deep

/-- An act: its octets, and its number. -/
structure Ac where
  A : Option Addr
  l : List UInt8
  c : Nat
  n : Int

/-- The slice value 'slice A xs.length c' reads xs these acts. -/
def Acts (w : World) (A : Option Addr) (xs : List Ac) (c : Nat) : Prop :=
  xs.length ≤ c ∧ c ≤ maxLen ∧
  (xs ≠ [] → ∃ b off, A = some ⟨b, off, none⟩ ∧ b < w.heap.size ∧ ∀ (i : Nat) (h : i < xs.length), w.cell? ⟨b, off + i * 2, none⟩ = some (.slice xs[i].A xs[i].l.length xs[i].c) ∧ w.cell? ⟨b, off + i * 2 + 1, none⟩ = some (.int .i64 xs[i].n)) ∧
  ∀ x ∈ xs, Rd w w.heap.size x.A x.l x.c

theorem openActs {H : Type} {enc : TypeId × Value → H} {W : World} {base : Nat} {spare : Nat → Bool} {held : Bool} {v : Value} {d : DataW H} {p : List MemPlace}
    (hv : Value.okWide Try.prog W .any base 46 v) (h : DataW.Trod enc Try.prog W 0 spare held 46 v d p) : ∃ (xs : List Ac) (A : Option Addr) (c : Nat), v = .slice A xs.length c ∧ Acts W A xs c := by
  obtain ⟨a0, len0, cap0, rfl⟩ := okWide_slice Try.underlying46 hv
  obtain ⟨fuel, hf⟩ := h
  rcases open_slice Try.underlying46 (by simpa [Value.cells] using hf) with ⟨hcs, _⟩ | ⟨a, len, cap, m, n, D, Pl, hcs, _, hl, hm, hmm, _, hi⟩
  · simp only [List.cons.injEq, and_true] at hcs
    rw [hcs]
    exact ⟨[], none, 0, rfl, by simp, by simp, fun h => absurd rfl h, fun x hx => by simp at hx⟩
  · simp only [List.cons.injEq, and_true] at hcs
    rw [hcs]
    have hlen : len ≤ m := by rw [hmm]; split <;> omega
    have each : ∀ i : Fin len, ∃ x : Ac, W.cell? (a.add (i.1 * 2)) = some (.slice x.A x.l.length x.c) ∧ W.cell? (a.add (i.1 * 2 + 1)) = some (.int .i64 x.n) ∧ Rd W W.heap.size x.A x.l x.c := by
      intro i
      obtain ⟨cs', hc, ht⟩ := hi i.1 (by omega)
      rw [cells26] at hc
      obtain ⟨_, hcl, hat⟩ := World.cells?_some hc
      obtain ⟨y0, y1, k, _, _, h0, h1⟩ := trod_struct2 Try.underlying26 ht
      match cs', hcl with
      | [u0, u1], _ =>
        have h0' : DataW.trod enc Try.prog W 0 spare held k 22 [u0] = some y0 := h0
        have h1' : DataW.trod enc Try.prog W 0 spare held k 3 [u1] = some y1 := h1
        obtain ⟨A, l, c, rfl, hr⟩ := openB h0'
        obtain ⟨z, ez, _, _⟩ := DataW.trod_int Try.underlying3 h1'
        simp only [List.cons.injEq, and_true] at ez
        subst ez
        refine ⟨⟨A, l, c, z⟩, ?_, ?_, hr⟩
        · have := hat 0 (by omega)
          rw [Go.Deep.add_add] at this
          simpa using this
        · have := hat 1 (by omega)
          rw [Go.Deep.add_add] at this
          simpa using this
    obtain ⟨f, hF⟩ : ∃ f : Fin len → Ac, ∀ i : Fin len, W.cell? (a.add (i.1 * 2)) = some (.slice (f i).A (f i).l.length (f i).c) ∧ W.cell? (a.add (i.1 * 2 + 1)) = some (.int .i64 (f i).n) ∧ Rd W W.heap.size (f i).A (f i).l (f i).c :=
      ⟨fun i => Classical.choose (each i), fun i => Classical.choose_spec (each i)⟩
    clear each
    refine ⟨List.ofFn f, some a, cap, by simp, by simpa using hl, hm, fun hne => ?_, fun x hx => ?_⟩
    · have h0 : 0 < len := by
        rcases Nat.eq_zero_or_pos len with h0 | h0
        · subst h0; simp at hne
        · exact h0
      obtain ⟨b, off, spot⟩ := a
      have hc0 := (hF ⟨0, h0⟩).1
      have hsp : spot = none := by
        have := World.cell?_spot hc0
        simpa [Addr.add] using this
      subst hsp
      refine ⟨b, off, rfl, ?_, fun i hi' => ?_⟩
      · have := World.block_lt_of_cell? W _ hc0
        rwa [blk_add] at this
      · have hi2 : i < len := by simpa using hi'
        have hs := hF ⟨i, hi2⟩
        simp only [List.getElem_ofFn]
        refine ⟨?_, ?_⟩
        · have := hs.1
          rw [Addr.add_lit] at this
          exact this
        · have := hs.2.1
          rw [Addr.add_lit] at this
          exact this
    · rw [List.mem_ofFn] at hx
      obtain ⟨i, rfl⟩ := hx
      exact (hF i).2.2

end Go.Proofs.Ytifimgachkecpaa
