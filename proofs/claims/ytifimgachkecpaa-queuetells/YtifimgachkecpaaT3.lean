/-
  A contract over layer 1: holding answers a queue in new memory.
-/
import Derived.Test.YtifimgachkecpaaT2
namespace Go.Proofs.Ytifimgachkecpaa
open Go.RowKit

theorem old {B : Nat} {W w1 : World} (hb : Below B W w1) : (∀ b o, b < B → w1.cell? ⟨b, o, none⟩ = W.cell? ⟨b, o, none⟩) ∧ (∀ b o, b < B → w1.frozen? ⟨b, o, none⟩ = W.frozen? ⟨b, o, none⟩) :=
  ⟨fun b o h => hb.cell (p := ⟨b, o, none⟩) h, fun b o h => hb.frozen (p := ⟨b, o, none⟩) h⟩

/-- A queue's value, whose octets lie in block g. -/
def qv (room : Int) (g : Nat) (l : List UInt8) : Value := .agg #[.int .i64 room, .slice (some ⟨g, 0, none⟩) l.length l.length]

/-- The call has answered a queue in new memory. -/
def GotQ (w : World) (room : Int) (l : List UInt8) (e : Ending) (w' : World) : Prop :=
  ∃ g, e = .returned (qv room g l) ∧ w.heap.size ≤ g ∧ Bk w' g l ∧ Below w.heap.size w w'

theorem Bk.setCell {w : World} {g : Nat} {l : List UInt8} (h : Bk w g l) {p : Addr} (hp : g ≠ p.block) (u : Value) : Bk (w.setCell p u) g l :=
  (Below.heap_setCell w p u g hp).trans h

theorem row_alloc {w : World} {g : Nat} {o o' : Obj} (h : w.heap[g]? = some o) : (w.alloc o').heap[g]? = some o :=
  (Below.heap_alloc w o' g (Array.getElem?_eq_some_iff.1 h).1).trans h

theorem Rd.alloc {w : World} {B B' : Nat} {A : Option Addr} {l : List UInt8} {c : Nat} (h : Rd w B A l c) (hB : B ≤ w.heap.size) (hB' : B ≤ B') (o : Obj) : Rd (w.alloc o) B' A l c :=
  h.keep hB' fun p hp => World.cell?_alloc_lt w o p (by omega)

set_option maxHeartbeats 400000 in
theorem holding_any (room : Int) (gp : Nat) (ps : List Pt) (w : World) (hg : w.heap[gp]? = some (.cells (ps.map Pt.v).toArray 22 (0, 0)))
    (hps : ∀ p ∈ ps, Rd w w.heap.size p.A p.l p.c) (hn : (allOf ps).length ≤ 1000000) (hk : ps.length ≤ 1000) :
    Calls Try.prog 23 #[.int .i64 room, .slice (some ⟨gp, 0, none⟩) ps.length ps.length] w (GotQ w room (allOf ps)) := by
  have HG := keepd hg
  have HP := keepd hps
  clear hg hps
  go_enter Try.func23, Try.ntmps23
  go_wp2_with fail
  with_reducible refine (joined_any gp ps _ (row_alloc HG.out) (fun p hp => (HP.out p hp).alloc (Nat.le_refl _) (by simp) _) hn hk).mono ?_
  rintro e w1 ⟨rfl, hbk, hb⟩
  have HB := keepd hbk
  obtain ⟨hc, hf⟩ := old hb
  have hz : w.heap.size + 1 ≤ w1.heap.size := by have := hb.size; simp at this; omega
  simp only [World.size_alloc] at HB hc hf
  clear hbk
  go_wp2
  refine bodyPost_ret (v := qv room (w.heap.size + 1) (allOf ps)) (by simp [results, Try.results23, go_sem, qv, hc]) rfl ⟨_, rfl, by omega, ?_, ?_⟩
  · exact (HB.out.setCell (by simp) _).setCell (by simp) _
  · exact ((((Below.refl _ _).alloc (Nat.le_refl _) _).trans (hb.mono (by simp))).setCell (by simp) _).setCell (by simp) _

theorem Rd.take {w : World} {B : Nat} {A : Option Addr} {l : List UInt8} {c : Nat} (h : Rd w B A l c) (m : Nat) : Rd w B A (l.take m) c := by
  refine ⟨by have := h.1; rw [List.length_take]; omega, h.2.1, fun hl => h.2.2.1 (by rintro rfl; simp at hl), fun ad had j u hu => h.2.2.2 ad had j u ?_⟩
  rw [List.getElem?_take] at hu
  split at hu
  · exact hu
  · cases hu

theorem add_add (a : Addr) (i j : Nat) : (a.add i).add j = a.add (i + j) := by
  unfold Addr.add
  by_cases hi : i = 0 <;> by_cases hj : j = 0 <;> simp [hi, hj, Nat.add_assoc]

theorem Rd.drop {w : World} {B : Nat} {A : Option Addr} {l : List UInt8} {c : Nat} (h : Rd w B A l c) (m : Nat) (hm : m ≤ l.length) : Rd w B (if c = m then A else A.map (·.add m)) (l.drop m) (c - m) := by
  have h1 := h.1
  refine ⟨by rw [List.length_drop]; omega, by have := h.2.1; omega, fun hl => ?_, fun ad had j u hu => ?_⟩
  · obtain ⟨ad, rfl, hb⟩ := h.2.2.1 (by rintro rfl; simp at hl)
    split
    · exact ⟨ad, rfl, hb⟩
    · exact ⟨ad.add m, rfl, by rw [blk_add]; exact hb⟩
  · have hlt : m + j < l.length := by
      rw [List.getElem?_drop] at hu
      exact (List.getElem?_eq_some_iff.1 hu).1
    rw [if_neg (by omega)] at had
    rw [Option.map_eq_some_iff] at had
    obtain ⟨ad', e, rfl⟩ := had
    rw [add_add]
    exact h.2.2.2 ad' e _ u (by rw [← hu, List.getElem?_drop])

theorem Rd.drew {w : World} {B : Nat} {A : Option Addr} {l : List UInt8} {c : Nat} (h : Rd w B A l c) : Rd w.drew B A l c := h
theorem Rd.drewN {w : World} {B : Nat} {A : Option Addr} {l : List UInt8} {c : Nat} (h : Rd w B A l c) (n : Nat) : Rd (w.drewN n) B A l c := h

theorem GotQ.up {w : World} {o : Obj} {room : Int} {l : List UInt8} {e : Ending} {w' : World} (h : GotQ (w.alloc o) room l e w') : GotQ w room l e w' := by
  obtain ⟨g, he, hg, hb, hw⟩ := h
  simp only [World.size_alloc] at hg hw
  exact ⟨g, he, by omega, hb, ((Below.refl _ _).alloc (Nat.le_refl _) _).trans (hw.mono (by omega))⟩

theorem upD {w1 w2 : World} {o : Obj} (hb : Below (w1.alloc o).drew.heap.size (w1.alloc o).drew w2) : Below w1.heap.size w1 w2 := by
  have h1 : Below w1.heap.size w1 (w1.alloc o).drew := ((Below.refl _ _).alloc (Nat.le_refl _) _).drew
  exact h1.trans (hb.mono (by simp))

theorem bAlloc {a w : World} (h : Below a.heap.size a w) (o : Obj) : Below a.heap.size a (w.alloc o) := h.alloc h.size o
theorem bCall {a w w2 : World} (h : Below a.heap.size a w) (hb : Below w.heap.size w w2) : Below a.heap.size a w2 := h.trans (hb.mono h.size)
theorem bDrewN {a w : World} (h : Below a.heap.size a w) (n : Nat) : Below a.heap.size a (w.drewN n) := ⟨h.os, h.tape, h.output, h.size, h.block⟩

theorem hold1w (room : Int) (A : Option Addr) (l : List UInt8) (n c gp : Nat) (w : World) (hn : n = l.length) (hg : w.heap[gp]? = some (.cells #[.slice A n c] 22 (0, 0))) (h : Rd w w.heap.size A l c) (hl : l.length ≤ 500000) :
    Calls Try.prog 23 #[.int .i64 room, .slice (some ⟨gp, 0, none⟩) 1 1] w (GotQ w room l) := by
  subst hn
  have e : allOf [Pt.mk A l c] = l := by simp [allOf]
  have := holding_any room gp [Pt.mk A l c] w hg
    (fun p hp => by simp only [List.mem_singleton] at hp; subst hp; exact h) (by rw [e]; omega) (by simp)
  rw [e] at this
  exact this

theorem hold2w (room : Int) (A A' : Option Addr) (l l' : List UInt8) (n n' c c' gp : Nat) (w : World) (hn : n = l.length) (hn' : n' = l'.length) (hg : w.heap[gp]? = some (.cells #[.slice A n c, .slice A' n' c'] 22 (0, 0)))
    (h : Rd w w.heap.size A l c) (h' : Rd w w.heap.size A' l' c') (hl : l.length ≤ 500000) (hl' : l'.length ≤ 500000) :
    Calls Try.prog 23 #[.int .i64 room, .slice (some ⟨gp, 0, none⟩) 2 2] w (GotQ w room (l ++ l')) := by
  subst hn
  subst hn'
  have e : allOf [Pt.mk A l c, Pt.mk A' l' c'] = l ++ l' := by simp [allOf]
  have := holding_any room gp [Pt.mk A l c, Pt.mk A' l' c'] w hg
    (fun p hp => by
      simp only [List.mem_cons, List.not_mem_nil, or_false] at hp
      rcases hp with rfl | rfl
      · exact h
      · exact h') (by rw [e]; simp; omega) (by simp)
  rw [e] at this
  exact this

theorem hold1 (room : Int) (A : Option Addr) (l : List UInt8) (n c : Nat) (w : World) (hn : n = l.length) (h : Rd w w.heap.size A l c) (hl : l.length ≤ 500000) :
    Calls Try.prog 23 #[.int .i64 room, .slice (some ⟨w.heap.size, 0, none⟩) 1 1] (w.alloc (.cells #[.slice A n c] 22)) (GotQ w room l) :=
  (hold1w room A l n c w.heap.size _ hn (heap_alloc_new w _) (h.alloc (Nat.le_refl _) (by simp) _) hl).mono fun _ _ hh => hh.up

/-- Octets in new memory. -/
def GotB (w : World) (l : List UInt8) (e : Ending) (w' : World) : Prop :=
  ∃ g, e = .returned (.slice (some ⟨g, 0, none⟩) l.length l.length) ∧ w.heap.size ≤ g ∧ Bk w' g l ∧ Below w.heap.size w w'

theorem join1w (A : Option Addr) (l : List UInt8) (n c gp : Nat) (w : World) (hn : n = l.length) (hg : w.heap[gp]? = some (.cells #[.slice A n c] 22 (0, 0))) (h : Rd w w.heap.size A l c) (hl : l.length ≤ 500000) :
    Calls Try.prog 24 #[.slice (some ⟨gp, 0, none⟩) 1 1] w (GotB w l) := by
  subst hn
  have e : allOf [Pt.mk A l c] = l := by simp [allOf]
  have := joined_any gp [Pt.mk A l c] w hg
    (fun p hp => by simp only [List.mem_singleton] at hp; subst hp; exact h) (by rw [e]; omega) (by simp)
  rw [e] at this
  exact this.mono fun _ _ ⟨he, hb, hw⟩ => ⟨_, he, by simp, hb, hw⟩

end Go.Proofs.Ytifimgachkecpaa
