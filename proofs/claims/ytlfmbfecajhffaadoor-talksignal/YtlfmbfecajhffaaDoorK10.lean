/-
  Two rows of events that are gathered; another editor that has what was passed on. No conditions beyond those each theorem states.
-/
import Derived.Test.YtlfmbfecajhffaaDoorK9
import Derived.Test.YtlfmbfecajhffaaDoorA8
namespace Go.Proofs.YtlfmbfecajhffaaDoor
open Go.RowKit
set_option maxRecDepth 100000

attribute [local go_sem ↓] ex_ld25 ex_st25 ex_al25 ex_bu25 ex_ix25 ex_eq25 ex_ne25 ex_eq23 ex_ne23 ex_ld25o ex_st65 ex_al65 ex_bu65 ex_bu65s ex_ld25d
attribute [local go_sem] ptrB_at okPtr_at aggC_at agg62 agg69 isC_at isT_at eqV_t eqV_c isRow_new isRow_new65 World.setRow_alloc_new ptr4_at okPtr4_at cutT_at isI_at isS_at bW_at bWs_at ptrD_at okPtrD_at cutD_at

theorem st_no {A : Option Addr} {n c : Nat} {z : Int} {ov li : Bool} : ∀ u ∈ ([.slice A n c, .int .i64 z, .bool ov, .bool li] : List Value), isU u = false := by
  intro u hu
  simp only [List.mem_cons, List.not_mem_nil, or_false] at hu
  rcases hu with rfl | rfl | rfl | rfl <;> rfl
/-- Rows of events, by their blocks. -/
theorem RdE.keepB {w w' : World} {B : Option Addr} {L : List EvM} {d : Nat} (h : RdE w B L d) (hs : w.heap.size ≤ w'.heap.size) (hb : ∀ b o s, B = some ⟨b, o, s⟩ → w'.heap[b]? = w.heap[b]?) (hx : ∀ x ∈ L, Rd w' w'.heap.size x.A x.l x.c) : RdE w' B L d := by
  refine ⟨h.1, h.2.1, fun hne => ?_, hx⟩
  obtain ⟨b, off, e, hlt, hc⟩ := h.2.2.1 hne
  subst e
  have k : ∀ o, w'.cell? ⟨b, o, none⟩ = w.cell? ⟨b, o, none⟩ := fun o => World.cell?_of_block (w := w) (a := ⟨b, o, none⟩) (hb b off none rfl)
  refine ⟨b, off, rfl, Nat.lt_of_lt_of_le hlt hs, fun i hi => ?_⟩
  obtain ⟨c0, c1, c2⟩ := hc i hi
  exact ⟨(k _).trans c0, (k _).trans c1, (k _).trans c2⟩
/-- Two rows of events that are gathered, apart; the octets of what they hold. -/
structure RO (base : Nat) (v8 v9 : Value) (L8 L9 : List EvM) (w : World) : Prop where
  o8 : OwnE w base v8 L8
  o9 : OwnE w base v9 L9
  n8 : NoU w v8
  n9 : NoU w v9
  ap : ∀ g, v8.ownBlock = some g → v9.ownBlock ≠ some g
  x8 : ∀ x ∈ L8, Rd w w.heap.size x.A x.l x.c
  x9 : ∀ x ∈ L9, Rd w w.heap.size x.A x.l x.c
/-- What changes one block below the base, that has no octets, changes nothing of the rows. -/
theorem RO.oth {base : Nat} {v8 v9 : Value} {L8 L9 : List EvM} {w w' : World} (h : RO base v8 v9 L8 L9 w) (hh : ∀ k, base ≤ k → k < w.heap.size → w'.heap[k]? = w.heap[k]?) (hr : ∀ A l c, Rd w w.heap.size A l c → Rd w' w'.heap.size A l c) : RO base v8 v9 L8 L9 w' where
  o8 := h.o8.of_block fun g hg => hh g (h.o8.ge g hg).1 (h.o8.ge g hg).2
  o9 := h.o9.of_block fun g hg => hh g (h.o9.ge g hg).1 (h.o9.ge g hg).2
  n8 := h.n8.of_block fun g hg => hh g (h.o8.ge g hg).1 (h.o8.ge g hg).2
  n9 := h.n9.of_block fun g hg => hh g (h.o9.ge g hg).1 (h.o9.ge g hg).2
  ap := h.ap
  x8 := fun x hx => hr _ _ _ (h.x8 x hx)
  x9 := fun x hx => hr _ _ _ (h.x9 x hx)
theorem RO.call {base : Nat} {v8 v9 : Value} {L8 L9 : List EvM} {w w' : World} (h : RO base v8 v9 L8 L9 w) (hb : Below w.heap.size w w') : RO base v8 v9 L8 L9 w' :=
  h.oth (fun k _ hk => hb.block k hk) fun _ _ _ hr => hr.at_ hb
theorem RO.tk {base g : Nat} {v8 v9 : Value} {L8 L9 : List EvM} {w : World} (h : RO base v8 v9 L8 L9 w) {A : Option Addr} {n c : Nat} {z : Int} {ov li hd : Bool} (hz : SR 34 w g [.slice A n c, .int .i64 z, .bool ov, .bool li, .bool hd]) (hg : g < base) (a b x y k : Value) : RO base v8 v9 L8 L9 (set5 w g a b x y k) :=
  h.oth (fun k hk _ => set5_heap _ _ _ _ _ _ _ (by omega)) fun _ _ _ hr => hr.setNo hz tk_no (by rw [set5_size]; exact Nat.le_refl _) fun _ hk => set5_heap _ _ _ _ _ _ _ hk
theorem RO.st {base g : Nat} {v8 v9 : Value} {L8 L9 : List EvM} {w : World} (h : RO base v8 v9 L8 L9 w) {A : Option Addr} {n c : Nat} {z : Int} {ov li : Bool} (hz : SR 32 w g [.slice A n c, .int .i64 z, .bool ov, .bool li]) (hg : g < base) (a b x y : Value) : RO base v8 v9 L8 L9 (set4 w g a b x y) :=
  h.oth (fun k hk _ => set4_heap _ _ _ _ _ _ (by omega)) fun _ _ _ hr => hr.setNo hz st_no (by rw [set4_size]; exact Nat.le_refl _) fun _ hk => set4_heap _ _ _ _ _ _ hk
/-- Something is appended to the first row. -/
theorem RO.app8 {base : Nat} {v8 v9 v' : Value} {L8 L9 M : List EvM} {w w' : World} (h : RO base v8 v9 L8 L9 w) (ho : OwnE w' base v' (L8 ++ M)) (hn : NoU w' v') (hg : w.grownBy w' v8.ownBlock) (hat : v'.ownBlock = v8.ownBlock ∨ v'.ownBlock = some w.heap.size) (hM : ∀ x ∈ M, Rd w w.heap.size x.A x.l x.c) : RO base v' v9 (L8 ++ M) L9 w' where
  o8 := ho
  o9 := h.o9.of_block fun g hg9 => hg.block g (h.o9.ge g hg9).2 fun e => h.ap g e.symm hg9
  n8 := hn
  n9 := h.n9.of_block fun g hg9 => hg.block g (h.o9.ge g hg9).2 fun e => h.ap g e.symm hg9
  ap := fun g hg8 hg9 => by
    rcases hat with e | e
    · rw [e] at hg8; exact h.ap g hg8 hg9
    · rw [e] at hg8; injection hg8 with hg8; have := (h.o9.ge g hg9).2; omega
  x8 := fun x hx => by
    rcases List.mem_append.1 hx with hx | hx
    · exact (h.x8 x hx).grow hg h.n8
    · exact (hM x hx).grow hg h.n8
  x9 := fun x hx => (h.x9 x hx).grow hg h.n8
theorem RO.swap {base : Nat} {v8 v9 : Value} {L8 L9 : List EvM} {w : World} (h : RO base v8 v9 L8 L9 w) : RO base v9 v8 L9 L8 w :=
  ⟨h.o9, h.o8, h.n9, h.n8, fun g h1 h2 => h.ap g h2 h1, h.x9, h.x8⟩
theorem sr_own {t : TypeId} {b : Nat} {v : Value} {w w' : World} {cs : List Value} (h : SR t w b cs) (hg : w.grownBy w' v.ownBlock) (ho : ∀ g, v.ownBlock = some g → g ≠ b) : SR t w' b cs := sr_grow h hg fun e => ho b e rfl
/-- Another editor's step. -/
theorem far_step {X : Tb} (hX : TbO X) {room : Int} {s : Ed} (hI : Inv X room s) (h p : Bool) (u : UInt8) (edit fwd : Bool) {s1 : Ed} {es : List Ev} {be : Nat} (hk : keyE X room s u = ⟨s1, es, be⟩) {h2 : Bool} {ks : List UInt8} {sg : Nat} (ht : typeT X room ⟨s, if p then false else h⟩ u edit fwd = (⟨s1, h2⟩, ⟨ks, sg, be⟩)) :
    ∃ b2, playE X room ⟨farT ⟨s, h⟩, [], 0⟩ ((if p && h then keysL X s else []) ++ ks) = ⟨farT ⟨s1, h2⟩, es, b2⟩ := by
  have h0 := step_far hX (k := ⟨s, h⟩) hI p u edit fwd
  have e1 : (if p then (passT X ⟨s, h⟩).1 else (⟨s, h⟩ : Tk)) = ⟨s, if p then false else h⟩ := by
    unfold passT
    cases p <;> cases h <;> rfl
  have e2 : (if p then (passT X ⟨s, h⟩).2 else []) = if p && h then keysL X s else [] := by
    unfold passT
    cases p <;> cases h <;> rfl
  simp only [e1, e2, ht, hk] at h0
  obtain ⟨a1, a2, _⟩ := h0
  generalize playE X room ⟨farT ⟨s, h⟩, [], 0⟩ ((if p && h then keysL X s else []) ++ ks) = r at *
  obtain ⟨rs, re, rn⟩ := r
  simp only at a1 a2
  subst a1 a2
  exact ⟨_, rfl⟩
theorem farT_ok {s : Ed} {h : Bool} (hs : s.ok) : (farT ⟨s, h⟩).ok := by
  unfold farT
  split
  · exact zE_ok
  · exact hs

end Go.Proofs.YtlfmbfecajhffaaDoor
