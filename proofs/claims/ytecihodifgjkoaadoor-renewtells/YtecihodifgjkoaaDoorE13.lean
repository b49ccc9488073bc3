/-
  The contract of Key. No conditions beyond those each theorem states.
-/
import Derived.Test.YtecihodifgjkoaaDoorE10
namespace Go.Proofs.YtecihodifgjkoaaDoor
open Go.RowKit
set_option maxRecDepth 100000

attribute [local go_sem ↓] ex_ld25 ex_st25 ex_al25 ex_bu25 ex_ix25 ex_eq25 ex_ne25 ex_eq23 ex_ne23 ex_ld25o ex_st65 ex_al65 ex_bu65 ex_bu65s
attribute [local go_sem] ptrB_at okPtr_at aggC_at agg62 agg69 isC_at isT_at eqV_t eqV_c isRow_new isRow_new65 World.setRow_alloc_new ptr4_at okPtr4_at cutT_at isI_at isS_at bW_at bWs_at

theorem EvM.far_cell {w : World} {g : Nat} {A' : Option Addr} {n' c' : Nat} {z : Int} {x y : Bool} (H : SR 30 w g [.slice A' n' c', .int .i64 z, .bool x, .bool y]) {b o : Nat} {k f : Int} {v : Value} (c0 : w.cell? ⟨b, o, none⟩ = some (.int .i64 k)) (c1 : w.cell? ⟨b, o + 1, none⟩ = some (.int .i64 f)) (_ : v = v) : b ≠ g := by
  rintro rfl
  rw [H.cell] at c0 c1
  match o, c0, c1 with
  | 0, c0, _ => simp at c0
  | 1, _, c1 => simp at c1
  | 2, c0, _ => simp at c0
  | 3, c0, _ => simp at c0
  | i + 4, c0, _ => simp at c0
theorem RdE.setSt {w w' : World} {A A' : Option Addr} {L : List EvM} {c g n' c' : Nat} {z : Int} {x y : Bool} (h : RdE w A L c) (H : SR 30 w g [.slice A' n' c', .int .i64 z, .bool x, .bool y]) (hs : w.heap.size ≤ w'.heap.size) (hh : ∀ k, k ≠ g → w'.heap[k]? = w.heap[k]?) : RdE w' A L c := by
  refine ⟨h.1, h.2.1, fun hne => ?_, fun e he => (h.2.2.2 e he).setSt H hs hh⟩
  obtain ⟨b, off, e, hlt, hce⟩ := h.2.2.1 hne
  refine ⟨b, off, e, Nat.lt_of_lt_of_le hlt hs, fun i hi => ?_⟩
  obtain ⟨c0, c1, c2⟩ := hce i hi
  have hg : b ≠ g := EvM.far_cell (v := .bool true) H c0 c1 rfl
  have k : ∀ o, w'.cell? ⟨b, o, none⟩ = w.cell? ⟨b, o, none⟩ := fun o => World.cell?_of_block (w := w) (a := ⟨b, o, none⟩) (hh b hg)
  exact ⟨(k _).trans c0, (k _).trans c1, (k _).trans c2⟩

/-- What is answered of a key: a state, events, whether a bell rings. -/
def GotU (w : World) (l : List UInt8) (n : Nat) (z : Int) (ov li : Bool) (es : List Ev) (m : Nat) (bell : Bool) (e : Ending) (w' : World) : Prop :=
  ∃ A c B d L, e = .returned (.tuple #[.agg #[.slice A n c, .int .i64 z, .bool ov, .bool li], .slice B m d, .bool bell]) ∧ L.map EvM.abs = es ∧ L.length = m ∧ Rd w' w'.heap.size A l c ∧ RdE w' B L d ∧ Below w.heap.size w w'

end Go.Proofs.YtecihodifgjkoaaDoor
