/-
  Arguments opened: a row of verbs.
-/
import Derived.Test.YtlgcfpdmklieiaaDoorOpen
import Derived.Test.YtlgcfpdmklieiaaDoorV4
namespace Go.Proofs.YtlgcfpdmklieiaaDoor
open Go.ChangeShapes Go.WideShapes Go.ChangeAt Go.RowKit Go.Joins Go.Deep

section
variable {H : Type} {enc : TypeId × Value → H} {W : World} {base : Nat} {spare : Nat → Bool} {held : Bool}

/-- A row of verbs that came in. -/
theorem openVs0 {fuel : Nat} {v : Value} {x : DataW H × List MemPlace} (hf : DataW.trod enc Tryd.prog W 0 spare held fuel 62 [v] = some x) :
    ∃ (A : Option Addr) (l : List (Int × Int)) (c : Nat), v = .slice A l.length c ∧ RdV W A l c := by
  rcases open_slice Tryd.underlying62 hf with ⟨hcs, _⟩ | ⟨a, len, cap, m, n, D, Pl, hcs, _, hl, hm, hmm, _, hi⟩
  · simp only [List.cons.injEq, and_true] at hcs
    rw [hcs]
    exact ⟨none, [], 0, rfl, by simp, by simp, fun h => absurd rfl h⟩
  · simp only [List.cons.injEq, and_true] at hcs
    rw [hcs]
    have hlen : len ≤ m := by rw [hmm]; split <;> omega
    have each : ∀ i : Fin len, ∃ x : Int × Int, W.cell? (a.add (i.1 * 2)) = some (.int .i64 x.1) ∧ W.cell? (a.add (i.1 * 2 + 1)) = some (.int .i64 x.2) := by
      intro i
      obtain ⟨cs', hc, ht⟩ := hi i.1 (by omega)
      rw [cells27] at hc
      obtain ⟨_, hcl, hat⟩ := World.cells?_some hc
      obtain ⟨y0, y1, k, _, _, h0, h1⟩ := trod_struct2 Tryd.underlying27 ht
      match cs', hcl with
      | [u0, u1], _ =>
        simp only [cells3, List.drop_zero, List.take_succ_cons, List.take_zero, List.drop_succ_cons] at h0 h1
        obtain ⟨z0, ez0, _⟩ := DataW.trod_int Tryd.underlying3 h0
        obtain ⟨z1, ez1, _⟩ := DataW.trod_int Tryd.underlying3 h1
        simp only [List.cons.injEq, and_true] at ez0 ez1
        subst ez0 ez1
        have t0 := hat 0 (by omega)
        have t1 := hat 1 (by omega)
        rw [add_add] at t0 t1
        exact ⟨⟨z0, z1⟩, by simpa using t0, by simpa using t1⟩
    obtain ⟨f, hF⟩ : ∃ f : Fin len → Int × Int, ∀ i : Fin len, W.cell? (a.add (i.1 * 2)) = some (.int .i64 (f i).1) ∧ W.cell? (a.add (i.1 * 2 + 1)) = some (.int .i64 (f i).2) :=
      ⟨fun i => Classical.choose (each i), fun i => Classical.choose_spec (each i)⟩
    clear each
    refine ⟨some a, List.ofFn f, cap, by simp, by simpa using hl, hm, fun hne => ?_⟩
    have h0 : 0 < len := by
      rcases Nat.eq_zero_or_pos len with h0 | h0
      · subst h0; simp at hne
      · exact h0
    obtain ⟨b, off, spot⟩ := a
    have hc0 := (hF ⟨0, h0⟩).1
    have hsp : spot = none := by
      have := World.cell?_spot hc0
      simpa [Addr.add] using this
    subst hsp
    refine ⟨b, off, rfl, ?_, fun i x hx => ?_⟩
    · have := World.block_lt_of_cell? W _ hc0
      rwa [blk_add] at this
    · have hi2 : i < len := by
        have := (List.getElem?_eq_some_iff.1 hx).1
        simpa using this
      obtain ⟨s0, s1⟩ := hF ⟨i, hi2⟩
      have ex : x = f ⟨i, hi2⟩ := by
        rw [List.getElem?_ofFn] at hx
        simpa [hi2] using hx.symm
      subst ex
      rw [Addr.add_lit] at s0 s1
      exact ⟨s0, s1⟩

theorem openVs {v : Value} {d : DataW H} {p : List MemPlace} (hv : Value.okWide Tryd.prog W .any base 62 v) (h : DataW.Trod enc Tryd.prog W 0 spare held 62 v d p) :
    ∃ (A : Option Addr) (l : List (Int × Int)) (c : Nat), v = .slice A l.length c ∧ RdV W A l c := by
  obtain ⟨a0, len0, cap0, rfl⟩ := okWide_slice Tryd.underlying62 hv
  obtain ⟨fuel, hf⟩ := h
  exact openVs0 (by simpa [Value.cells] using hf)
end

end Go.Proofs.YtlgcfpdmklieiaaDoor
