/-
  What the laws on keys typed one by one begin with. No conditions beyond those each theorem states.
-/
import Derived.Test.YtlfmbfecajhffaaDoorA10
namespace Go.Proofs.YtlfmbfecajhffaaDoor
open Go.RowKit
set_option maxRecDepth 100000

attribute [local go_sem ↓] ex_ld25 ex_st25 ex_al25 ex_bu25 ex_ix25 ex_eq25 ex_ne25 ex_eq23 ex_ne23 ex_ld25o ex_st65 ex_al65 ex_bu65 ex_bu65s ex_ld25d
attribute [local go_sem] ptrB_at okPtr_at aggC_at agg62 agg69 isC_at isT_at eqV_t eqV_c isRow_new isRow_new65 World.setRow_alloc_new ptr4_at okPtr4_at cutT_at isI_at isS_at bW_at bWs_at ptrD_at okPtrD_at cutD_at

/-- What Key answered, in a drawn region. -/
theorem sDkT {V W : World} {g p : Nat} {X : Tb} {room : Int} {A : Option Addr} {n c : Nat} {z : Int} {ov li h : Bool} {bA oA : Nat} {u : UInt8} (hD : DK V g X room) (hT : SR 34 V p [.slice A n c, .int .i64 z, .bool ov, .bool li, .bool h]) (hu : V.cell? ⟨bA, oA, none⟩ = some (.int .u8 (u.toNat : Int)) ∧ bA < V.heap.size) (hb : Below V.heap.size V W) :
    rowOf W g = (dk X room).toArray ∧ isRow W 27 g 63 = true ∧ W.cell? ⟨g, 62, none⟩ = some (.int .i64 room) ∧ W.cell? ⟨p, 0, none⟩ = some (.slice A n c) ∧ W.cell? ⟨p, 1, none⟩ = some (.int .i64 z) ∧ W.cell? ⟨p, 2, none⟩ = some (.bool ov) ∧ W.cell? ⟨p, 3, none⟩ = some (.bool li) ∧ W.cell? ⟨p, 4, none⟩ = some (.bool h) ∧ W.cell? ⟨bA, oA, none⟩ = some (.int .u8 (u.toNat : Int)) ∧ Below V.heap.size V W := by
  obtain ⟨⟨a1, a2⟩, a3⟩ := DK.facts (SR.call hD hb (SR.lt hD))
  have h1 := SR.call hT hb hT.lt
  exact ⟨a1, a2, a3, h1.cell 0, h1.cell 1, h1.cell 2, h1.cell 3, h1.cell 4, (hb.cell (p := ⟨bA, oA, none⟩) hu.2).trans hu.1, hb⟩
theorem slice_both (A : Option Addr) (n c l h : Nat) (hl : l ≤ h) (hh : h ≤ c) (W : World) :
    (Instr.sliceAt 28 (.slice A n c) (some (.int .i64 l)) (some (.int .i64 h)) none).run Tryd.prog W = .ok (.slice (if c = l then A else A.map (·.add l)) (h - l) (c - l)) W := by
  have hs : ∀ W : World, (sizeOf (Tryd.prog.elem 28)).run Tryd.prog W = .ok 1 W := fun W => by kernel_rfl
  rw [run_sliceAt_slice _ _ _ _ _ _ (by kernel_rfl), run_slice_lh _ _ _ _ _ (by kernel_rfl) _ _ _ _ (by omega) (by omega) (by omega), hs]
  simp [sliced, Result.andThen]
theorem slice_to (A : Option Addr) (n c h : Nat) (hh : h ≤ c) (W : World) :
    (Instr.sliceAt 28 (.slice A n c) none (some (.int .i64 h)) none).run Tryd.prog W = .ok (.slice A h c) W := by
  have hs : ∀ W : World, (sizeOf (Tryd.prog.elem 28)).run Tryd.prog W = .ok 1 W := fun W => by kernel_rfl
  rw [run_sliceAt_slice _ _ _ _ _ _ (by kernel_rfl), run_slice_h _ _ _ _ _ (by kernel_rfl) _ _ (by omega) (by omega), hs]
  simp [sliced, Result.andThen]
  intro _
  cases A <;> simp [Addr.add]
theorem sub_one {w : World} {A : Option Addr} {us : List UInt8} {c m i : Nat} (hm : us.length = m) (hr : Rd w w.heap.size A us c) (hi : i < us.length) :
    ∃ A2 d, (∀ W, (Instr.sliceAt 28 (.slice A m c) (some (.int .i64 i)) (some (.int .i64 ((i : Int) + 1))) none).run Tryd.prog W = .ok (.slice A2 1 d) W) ∧ Rd w w.heap.size A2 [us[i]] d := by
  have h0 := hr.1
  refine ⟨if c = i then A else A.map (·.add i), c - i, fun W => ?_, ?_⟩
  · have h1 := slice_both A m c i (i + 1) (by omega) (by omega) W
    rw [show i + 1 - i = 1 by omega] at h1
    rw [← h1]
    rfl
  · have h2 := (hr.drop i (by omega)).take 1
    have e : (us.drop i).take 1 = [us[i]] := by rw [List.drop_eq_getElem_cons hi]; rfl
    rw [e] at h2
    exact h2
/-- A key typed in a talk: what the editor's key leaves is the talk's. -/
theorem typeT_ex {X : Tb} {room : Int} {k : Tk} {u : UInt8} (edit fwd : Bool) {s1 : Ed} {es : List Ev} {be : Nat} (hk : keyE X room k.s u = ⟨s1, es, be⟩) : ∃ h1 ks sg, typeT X room k u edit fwd = (⟨s1, h1⟩, ⟨ks, sg, be⟩) := by
  have h0 := typeT_s X room k u edit fwd
  rw [hk] at h0
  generalize typeT X room k u edit fwd = r at *
  obtain ⟨⟨sx, hx⟩, ⟨kx, gx, bx⟩⟩ := r
  simp only at h0
  obtain ⟨rfl, rfl⟩ := h0
  exact ⟨_, _, _, rfl⟩
theorem typeT_rawx {X : Tb} {room : Int} {s : Ed} {u : UInt8} (fwd : Bool) {s1 : Ed} {es : List Ev} {be : Nat} (hk : keyE X room s u = ⟨s1, es, be⟩) : ∃ sg, typeT X room ⟨s, false⟩ u false fwd = (⟨s1, false⟩, ⟨[u], sg, be⟩) := by
  obtain ⟨h1, ks, sg, he⟩ := typeT_ex (k := ⟨s, false⟩) false fwd hk
  have h0 := typeT_raw X room s u fwd
  rw [he, hk] at h0
  simp only [Tk.mk.injEq, true_and] at h0
  obtain ⟨e1, e2⟩ := h0
  rw [e1, e2] at he
  exact ⟨sg, he⟩
/-- What Key answered, its state thrown away, in a block of its own. -/
def MidK (V : World) (es : List Ev) (B : Option Addr) (m d : Nat) (wx : World) : Prop := (∃ L, L.map EvM.abs = es ∧ L.length = m ∧ RdE wx B L d) ∧ Below V.heap.size V wx
/-- What Type answered, in two blocks of its own. -/
def MidY (V : World) (b y : Nat) (l : List UInt8) (A : Option Addr) (n c : Nat) (z : Int) (ov li h : Bool) (ks : List UInt8) (B : Option Addr) (m d : Nat) (sg : Int) (bell : Bool) (wx : World) : Prop :=
  SR 34 wx b [.slice A n c, .int .i64 z, .bool ov, .bool li, .bool h] ∧ SR 41 wx y [.slice B m d, .int .i64 sg, .bool bell] ∧ Rd wx wx.heap.size A l c ∧ Rd wx wx.heap.size B ks d ∧ Below V.heap.size V wx ∧ V.heap.size ≤ b ∧ V.heap.size ≤ y
theorem midy {V w : World} {b y : Nat} {l : List UInt8} {A : Option Addr} {n c : Nat} {z : Int} {ov li h : Bool} {ks : List UInt8} {B : Option Addr} {m d : Nat} {sg : Int} {bell : Bool} (hz : SR 34 w b [.slice none 0 0, .int .i64 0, .bool false, .bool false, .bool false]) (hy : SR 41 w y [.slice none 0 0, .int .i64 0, .bool false]) (hne : b ≠ y) (hb : Below V.heap.size V w) (h1 : V.heap.size ≤ b) (h2 : V.heap.size ≤ y) (hr : Rd w w.heap.size A l c) (hs : Rd w w.heap.size B ks d) :
    MidY V b y l A n c z ov li h ks B m d sg bell (set3 (set5 w b (.slice A n c) (.int .i64 z) (.bool ov) (.bool li) (.bool h)) y (.slice B m d) (.int .i64 sg) (.bool bell)) := by
  obtain ⟨E1, E2, E3, E4⟩ := set8_end hz hy hne hb h1 h2 A n c z ov li h (.slice B m d) (.int .i64 sg) (.bool bell)
  exact ⟨E3, E4, E1 _ _ _ hr, E1 _ _ _ hs, E2, h1, h2⟩

end Go.Proofs.YtlfmbfecajhffaaDoor
