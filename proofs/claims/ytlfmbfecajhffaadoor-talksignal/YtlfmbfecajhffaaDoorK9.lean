/-
  What the laws on keys typed one by one lean on: events, and what Play answered. No conditions beyond those each theorem states.
-/
import Derived.Test.YtlfmbfecajhffaaDoorK8
namespace Go.Proofs.YtlfmbfecajhffaaDoor
open Go.RowKit
set_option maxRecDepth 100000

attribute [local go_sem ↓] ex_ld25 ex_st25 ex_al25 ex_bu25 ex_ix25 ex_eq25 ex_ne25 ex_eq23 ex_ne23 ex_ld25o ex_st65 ex_al65 ex_bu65 ex_bu65s ex_ld25d
attribute [local go_sem] ptrB_at okPtr_at aggC_at agg62 agg69 isC_at isT_at eqV_t eqV_c isRow_new isRow_new65 World.setRow_alloc_new ptr4_at okPtr4_at cutT_at isI_at isS_at bW_at bWs_at ptrD_at okPtrD_at cutD_at

theorem midk {V w : World} {b : Nat} {es : List Ev} {B : Option Addr} {m d : Nat} {L : List EvM} (hz : SR 32 w b [.slice none 0 0, .int .i64 0, .bool false, .bool false]) (hv : V.heap.size ≤ b) (hb : Below V.heap.size V w) (h1 : L.map EvM.abs = es) (h2 : L.length = m) (h4 : RdE w B L d) (a1 a2 a3 a4 : Value) :
    MidK V es B m d (set4 w b a1 a2 a3 a4) :=
  ⟨⟨L, h1, h2, h4.setSt hz (by rw [set4_size]; exact Nat.le_refl _) fun k hk => set4_heap _ _ _ _ _ _ hk⟩, set4_below hb hv⟩
/-- What Play answered, its state in a block of its own. -/
def MidG (V : World) (b8 : Nat) (l : List UInt8) (A : Option Addr) (n c : Nat) (z : Int) (ov li : Bool) (es : List Ev) (B : Option Addr) (m d : Nat) (wx : World) : Prop :=
  SR 32 wx b8 [.slice A n c, .int .i64 z, .bool ov, .bool li] ∧ Rd wx wx.heap.size A l c ∧ (∃ L, L.map EvM.abs = es ∧ L.length = m ∧ RdE wx B L d) ∧ Below V.heap.size V wx ∧ V.heap.size ≤ b8
theorem midg_b {V w : World} {b8 : Nat} {l : List UInt8} {A : Option Addr} {n c : Nat} {z : Int} {ov li : Bool} {es : List Ev} {B : Option Addr} {m d : Nat} {L : List EvM} (hz : SR 32 w b8 [.slice none 0 0, .int .i64 0, .bool false, .bool false]) (hv : V.heap.size ≤ b8) (hb : Below V.heap.size V w) (h1 : L.map EvM.abs = es) (h2 : L.length = m) (h3 : Rd w w.heap.size A l c) (h4 : RdE w B L d) :
    MidG V b8 l A n c z ov li es B m d (set4 w b8 (.slice A n c) (.int .i64 z) (.bool ov) (.bool li)) :=
  ⟨set4_sr hz, h3.setSt hz (by rw [set4_size]; exact Nat.le_refl _) fun k hk => set4_heap _ _ _ _ _ _ hk, ⟨L, h1, h2, h4.setSt hz (by rw [set4_size]; exact Nat.le_refl _) fun k hk => set4_heap _ _ _ _ _ _ hk⟩, set4_below hb hv, hv⟩
/-- An octet at a row's end. -/
theorem last_cell {w : World} {A : Option Addr} {ks : List UInt8} {u : UInt8} {d : Nat} (h : Rd w w.heap.size A (ks ++ [u]) d) : ∃ b o, A = some ⟨b, o, none⟩ ∧ b < w.heap.size ∧ w.cell? ⟨b, o + ks.length, none⟩ = some (.int .u8 (u.toNat : Int)) := by
  obtain ⟨b, o, hA, hb⟩ := h.addr (by simp)
  subst hA
  refine ⟨b, o, rfl, hb, ?_⟩
  have h0 := h.cellk (k := ks.length) (by simp)
  have h1 : (ks ++ [u]).getD ks.length 0 = u := by simp [List.getD_eq_getElem?_getD]
  rw [h1] at h0
  exact h0
/-- The first event's kind. -/
theorem kind_cell {w : World} {A : Option Addr} {L : List EvM} {x : Ev} {d : Nat} (h : RdE w A L d) (hL : L.map EvM.abs = [x]) : ∃ b o, A = some ⟨b, o, none⟩ ∧ b < w.heap.size ∧ w.cell? ⟨b, o, none⟩ = some (.int .i64 x.k) := by
  match L, hL, h with
  | [y], hL, h =>
    obtain ⟨b, o, e, hb, hc⟩ := h.2.2.1 (by simp)
    simp only [List.map_cons, List.map_nil, List.cons.injEq, and_true] at hL
    subst hL
    have h0 := (hc 0 (by simp)).1
    rw [Nat.zero_mul, Nat.add_zero] at h0
    exact ⟨b, o, e, hb, h0⟩
  | [], hL, _ => cases hL
  | _ :: _ :: _, hL, _ => simp at hL

end Go.Proofs.YtlfmbfecajhffaaDoor
