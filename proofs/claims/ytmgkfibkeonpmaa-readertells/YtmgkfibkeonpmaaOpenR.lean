/-
  Arguments opened: a reader; what is too long.
-/
import Derived.Test.YtmgkfibkeonpmaaOpenI
namespace Go.Proofs.Ytmgkfibkeonpmaa
open Go.ChangeShapes Go.WideShapes Go.ChangeAt Go.RowKit Go.Joins Go.Deep

theorem cells24 : Try.prog.cellsOf 24 = 4 := by kernel_rfl
theorem cells45 : Try.prog.cellsOf 45 = 4 := by kernel_rfl

/-- A reader that came in. -/
theorem openR {H : Type} {enc : TypeId × Value → H} {W : World} {base : Nat} {spare : Nat → Bool} {held : Bool} {v : Value} {d : DataW H} {p : List MemPlace}
    (hv : Value.okWide Try.prog W .any base 24 v) (h : DataW.Trod enc Try.prog W 0 spare held 24 v d p) :
    ∃ X : Itm, v = .agg #[.int .i64 X.k, .int .i64 X.a, .int .i64 X.b, .slice X.A X.l.length X.c] ∧ Rd W W.heap.size X.A X.l X.c := by
  obtain ⟨c0, c1, c2, c3, y0, y1, y2, y3, m, rfl, _, _, hy0, hy1, hy2, hy3⟩ := open_agg4 Try.underlying24 (by kernel_rfl) cells24 hv h
  obtain ⟨k, e0, _, _⟩ := DataW.trod_int Try.underlying3 hy0
  obtain ⟨a, e1, _, _⟩ := DataW.trod_int Try.underlying3 hy1
  obtain ⟨b, e2, _, _⟩ := DataW.trod_int Try.underlying3 hy2
  simp only [List.cons.injEq, and_true] at e0 e1 e2
  subst e0 e1 e2
  obtain ⟨A, l, c, rfl, hr⟩ := openB hy3
  exact ⟨⟨k, a, b, A, l, c⟩, rfl, hr⟩

/-- An option, an octet, a number, and octets that came in. -/
theorem openG {H : Type} {enc : TypeId × Value → H} {W : World} {base : Nat} {spare : Nat → Bool} {held : Bool} {v : Value} {d : DataW H} {p : List MemPlace}
    (hv : Value.okWide Try.prog W .any base 45 v) (h : DataW.Trod enc Try.prog W 0 spare held 45 v d p) :
    ∃ (x y z : Int) (A : Option Addr) (l : List UInt8) (c : Nat), v = .agg #[.int .u8 x, .int .u8 y, .int .u16 z, .slice A l.length c] ∧ (Lit.int .u8 x).wf = true ∧ (Lit.int .u8 y).wf = true ∧ (Lit.int .u16 z).wf = true ∧ Rd W W.heap.size A l c := by
  obtain ⟨c0, c1, c2, c3, y0, y1, y2, y3, m, rfl, _, _, hy0, hy1, hy2, hy3⟩ := open_agg4 Try.underlying45 (by kernel_rfl) cells45 hv h
  obtain ⟨x, e0, _, w0⟩ := DataW.trod_int Try.underlying5 hy0
  obtain ⟨y, e1, _, w1⟩ := DataW.trod_int Try.underlying5 hy1
  obtain ⟨z, e2, _, w2⟩ := DataW.trod_int Try.underlying43 hy2
  simp only [List.cons.injEq, and_true] at e0 e1 e2
  subst e0 e1 e2
  obtain ⟨A, l, c, rfl, hr⟩ := openB hy3
  exact ⟨x, y, z, A, l, c, rfl, w0, w1, w2, hr⟩

end Go.Proofs.Ytmgkfibkeonpmaa
