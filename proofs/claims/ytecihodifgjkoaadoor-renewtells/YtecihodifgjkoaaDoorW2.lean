/-
  What the laws begin with: the way, what Play answered. No conditions beyond those each theorem states.
-/
import Derived.Test.YtecihodifgjkoaaDoorN6
namespace Go.Proofs.YtecihodifgjkoaaDoor
open Go.RowKit
set_option maxRecDepth 100000

attribute [local go_sem ↓] ex_ld25 ex_st25 ex_al25 ex_bu25 ex_ix25 ex_eq25 ex_ne25 ex_eq23 ex_ne23 ex_ld25o ex_st65 ex_al65 ex_bu65 ex_bu65s ex_ld38 ex_ld25w ex_bu38
attribute [local go_sem] ptrB_at okPtr_at aggC_at agg62 agg69 isC_at isT_at eqV_t eqV_c isRow_new isRow_new65 World.setRow_alloc_new ptr4_at okPtr4_at cutT_at isI_at isS_at bW_at bWs_at ptrW_at okPtrW_at cutW_at isL_at bY_at

theorem sWy {V W : World} {g : Nat} {X : Tb} {room : Int} {A : Option Addr} {n c : Nat} (h : WY V g X room A n c) (hb : Below V.heap.size V W) :
    rowOf W g = (wy X room A n c).toArray ∧ isRow W 38 g 64 = true ∧ W.cell? ⟨g, 62, none⟩ = some (.int .i64 room) ∧ W.cell? ⟨g, 63, none⟩ = some (.slice A n c) ∧ Below V.heap.size V W := by
  obtain ⟨⟨a1, a2⟩, a3, a4⟩ := WY.facts (SR.call h hb (SR.lt h))
  exact ⟨a1, a2, a3, a4, hb⟩
theorem sWs {V W : World} {g p : Nat} {X : Tb} {room : Int} {A A' : Option Addr} {n c n' c' : Nat} {z' : Int} {ov' li' : Bool} (h : WY V g X room A n c ∧ SR 30 V p [.slice A' n' c', .int .i64 z', .bool ov', .bool li']) (hb : Below V.heap.size V W) :
    rowOf W g = (wy X room A n c).toArray ∧ isRow W 38 g 64 = true ∧ W.cell? ⟨g, 62, none⟩ = some (.int .i64 room) ∧ W.cell? ⟨p, 0, none⟩ = some (.slice A' n' c') ∧ W.cell? ⟨p, 1, none⟩ = some (.int .i64 z') ∧ W.cell? ⟨p, 2, none⟩ = some (.bool ov') ∧ W.cell? ⟨p, 3, none⟩ = some (.bool li') ∧ Below V.heap.size V W := by
  obtain ⟨⟨a1, a2⟩, a3, _⟩ := WY.facts (SR.call h.1 hb (SR.lt h.1))
  have h1 := SR.call h.2 hb h.2.lt
  exact ⟨a1, a2, a3, h1.cell 0, h1.cell 1, h1.cell 2, h1.cell 3, hb⟩
theorem own_ne {v : Value} {w : World} {base b8 : Nat} {l : List UInt8} (h : Own w base v l) (hb : b8 < base) : v.ownBlock ≠ some b8 := fun e => by have := (h.ge _ e).1; omega
/-- What Play answered, its state in a block of its own. -/
def MidG (V : World) (b8 : Nat) (l : List UInt8) (A : Option Addr) (n c : Nat) (z : Int) (ov li : Bool) (es : List Ev) (B : Option Addr) (m d : Nat) (wx : World) : Prop :=
  SR 30 wx b8 [.slice A n c, .int .i64 z, .bool ov, .bool li] ∧ Rd wx wx.heap.size A l c ∧ (∃ L, L.map EvM.abs = es ∧ L.length = m ∧ RdE wx B L d) ∧ Below V.heap.size V wx
theorem midg_a {V w : World} {l : List UInt8} {A : Option Addr} {n c : Nat} {z : Int} {ov li : Bool} {es : List Ev} {B : Option Addr} {m d : Nat} {L : List EvM} (hb : Below V.heap.size V w) (h1 : L.map EvM.abs = es) (h2 : L.length = m) (h3 : Rd w w.heap.size A l c) (h4 : RdE w B L d) :
    MidG V w.heap.size l A n c z ov li es B m d (w.alloc (.cells #[.slice A n c, .int .i64 z, .bool ov, .bool li] 30)) :=
  ⟨heap_alloc_new w _, h3.at_ (bAlloc (Below.refl _ _) _), ⟨L, h1, h2, h4.at_ (bAlloc (Below.refl _ _) _)⟩, bAlloc hb _⟩
theorem midg_b {V w : World} {b8 : Nat} {l : List UInt8} {A : Option Addr} {n c : Nat} {z : Int} {ov li : Bool} {es : List Ev} {B : Option Addr} {m d : Nat} {L : List EvM} (hz : SR 30 w b8 [.slice none 0 0, .int .i64 0, .bool false, .bool false]) (hv : V.heap.size ≤ b8) (hb : Below V.heap.size V w) (h1 : L.map EvM.abs = es) (h2 : L.length = m) (h3 : Rd w w.heap.size A l c) (h4 : RdE w B L d) :
    MidG V b8 l A n c z ov li es B m d (set4 w b8 (.slice A n c) (.int .i64 z) (.bool ov) (.bool li)) :=
  ⟨set4_sr hz, h3.setSt hz (by rw [set4_size]; exact Nat.le_refl _) fun k hk => set4_heap _ _ _ _ _ _ hk, ⟨L, h1, h2, h4.setSt hz (by rw [set4_size]; exact Nat.le_refl _) fun k hk => set4_heap _ _ _ _ _ _ hk⟩, set4_below hb hv⟩
theorem ne_new {v : Value} {w : World} {b : Nat} {l : List UInt8} (h : Own w b v l) : v.ownBlock ≠ some w.heap.size := fun e => by have := (h.ge _ e).2; omega
theorem ne_step {v v' : Value} {w : World} {b8 : Nat} (h : v.ownBlock ≠ some b8) (hb : b8 < w.heap.size) (hat : v'.ownBlock = v.ownBlock ∨ v'.ownBlock = some w.heap.size) : v'.ownBlock ≠ some b8 := by
  rcases hat with e | e
  · rw [e]; exact h
  · rw [e]; intro e2; injection e2; omega
theorem sr_grow {t : TypeId} {w w' : World} {b8 : Nat} {cs : List Value} {v : Value} (h : SR t w b8 cs) (hg : w.grownBy w' v.ownBlock) (hn : v.ownBlock ≠ some b8) : SR t w' b8 cs := (hg.block b8 h.lt (fun e => hn e.symm)).trans h
theorem empty_ne {w : World} {b8 : Nat} (hb : b8 < w.heap.size) : (Value.slice (some ⟨w.heap.size, 0, none⟩) 0 0).ownBlock ≠ some b8 := fun e => by simp [Value.ownBlock] at e; omega

end Go.Proofs.YtecihodifgjkoaaDoor
