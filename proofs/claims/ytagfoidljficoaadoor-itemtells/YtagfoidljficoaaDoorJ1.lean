/-
  A contract over layer 3: Data. No conditions beyond those each theorem states.
-/
import Derived.Test.YtagfoidljficoaaDoorI8
namespace Go.Proofs.YtagfoidljficoaaDoor
open Go.RowKit

def datum (u : UInt8) : Itm := ⟨1, (u.toNat : Int), 0, none, [], 0⟩
def zeroI : Itm := ⟨0, 0, 0, none, [], 0⟩
def dataL (l : List UInt8) : List Itm := l.map datum

def flat (L : List Itm) : List Value := L.flatMap Itm.cells

theorem flat_cons (x : Itm) (r : List Itm) : flat (x :: r) = .int .i64 x.k :: .int .i64 x.a :: .int .i64 x.b :: .slice x.A x.l.length x.c :: flat r := by simp [flat, Itm.cells]

theorem flat_set (X : Itm) (L : List Itm) : ∀ (i : Nat), i < L.length →
    ((((flat L).set (i * 4) (.int .i64 X.k)).set (i * 4 + 1) (.int .i64 X.a)).set (i * 4 + 2) (.int .i64 X.b)).set (i * 4 + 3) (.slice X.A X.l.length X.c) = flat (L.set i X) := by
  induction L with
  | nil => intro i h; simp at h
  | cons x r ih =>
    intro i h
    cases i with
    | zero =>
      rw [List.set_cons_zero, flat_cons, flat_cons]
      rfl
    | succ i =>
      have := ih i (by simpa using h)
      rw [flat_cons, List.set_cons_succ, flat_cons, ← this]
      have e1 : (i + 1) * 4 = i * 4 + 1 + 1 + 1 + 1 := by omega
      simp only [e1, List.set_cons_succ]

theorem made_at (n j : Nat) (hj : j < n) (z : Array Value) : (madeCells z n).toList[j]? = some z[j % z.size]! := by
  rw [Array.getElem?_toList]
  unfold madeCells
  rw [Array.getElem?_map, Array.getElem?_range, if_pos hj]
  rfl

theorem zero_flat (n : Nat) : madeCells #[Value.int .i64 0, .int .i64 0, .int .i64 0, .slice none 0 0] (n * 4) = (flat (List.replicate n zeroI)).toArray := by
  apply Array.ext'
  apply List.ext_getElem?
  intro j
  by_cases hj : j < n * 4
  · rw [made_at _ _ hj]
    obtain ⟨i, r, hr, e⟩ : ∃ i r, r < 4 ∧ j = i * 4 + r := ⟨j / 4, j % 4, by omega, by omega⟩
    have hi : i < (List.replicate n zeroI).length := by rw [List.length_replicate]; omega
    have := flat_get (List.replicate n zeroI) i hi
    rw [List.getElem_replicate] at this
    obtain ⟨h0, h1, h2, h3⟩ := this
    have hm : j % 4 = r := by omega
    subst e
    show some (#[Value.int .i64 0, .int .i64 0, .int .i64 0, .slice none 0 0])[(i * 4 + r) % 4]! = (flat (List.replicate n zeroI))[i * 4 + r]?
    rw [hm]
    match r, hr with
    | 0, _ => exact h0.symm
    | 1, _ => exact h1.symm
    | 2, _ => exact h2.symm
    | 3, _ => exact h3.symm
  · rw [List.getElem?_eq_none (by rw [Array.length_toList, size_madeCells]; omega), List.getElem?_eq_none]
    show (flat (List.replicate n zeroI)).length ≤ j
    have := flat_len (List.replicate n zeroI)
    rw [List.length_replicate] at this
    have e : (flat (List.replicate n zeroI)).length = n * 4 := this
    omega

theorem make_runI (n : Nat) (hn : n ≤ 1000) (W : World) :
    (Instr.makeSlice 22 (.int .i64 (n : Int)) (.int .i64 (n : Int))).run Tryd.prog W = .ok (.slice (some ⟨W.heap.size, 0, none⟩) n n) (W.alloc (.cells (flat (List.replicate n zeroI)).toArray 29)) := by
  obtain ⟨i0, hi, hz0, hz1, hz2⟩ := info_parts info29
  have := run_make (P := Tryd.prog) W 22 29 i0 _ Tryd.underlying22 hi hz0 .i64 .i64 n n (by omega) (by omega) (by rw [hz2]; omega) (by omega)
  rw [this, hz1, ← zero_flat]
  rfl

def GotData (w : World) (l : List UInt8) (e : Ending) (w' : World) : Prop :=
  ∃ A c, e = .returned (.slice A l.length c) ∧ RdI w' A (dataL l) c ∧ Below w.heap.size w w'

theorem part_set (l : List UInt8) (n k : Nat) (hn : n = l.length) (hk : k < l.length) :
    (dataL (l.take k) ++ List.replicate (n - k) zeroI).set k (datum l[k]) = dataL (l.take (k + 1)) ++ List.replicate (n - (k + 1)) zeroI := by
  have e1 : (dataL (l.take k)).length = k := by unfold dataL; rw [List.length_map, List.length_take]; omega
  rw [List.set_append_right _ _ (by omega), e1, Nat.sub_self, show n - k = (n - (k + 1)) + 1 by omega, List.replicate_succ, List.set_cons_zero, List.take_succ_eq_append_getElem hk]
  unfold dataL
  rw [List.map_append]
  simp

set_option maxHeartbeats 1000000 in
theorem data_any (A : Option Addr) (l : List UInt8) (n c : Nat) (w : World) (hn : n = l.length) (hl : n ≤ 1000) (hr : Rd w w.heap.size A l c) : Calls Tryd.prog 18 #[.slice A n c] w (GotData w l) := by
  have hmk := make_runI n hl
  have HR := keepd hr
  have HN := keepd hn
  have c1 := hr.1
  have c2 := hr.2.1
  unfold maxLen at c2
  rw [← hn] at c1
  clear hr hn
  go_enter Tryd.func18, Tryd.ntmps18
  go_wp2_with fail
  go_loopw [11] (fun vi wr => ∃ k : Nat, k ≤ n ∧ vi = .int .i64 k ∧ Hid (wr.heap[w.heap.size]? = some (.cells (flat (dataL (l.take k) ++ List.replicate (n - k) zeroI)).toArray 29 (0, 0))) ∧ Hid (Below w.heap.size w wr)) (fun vi _ => n - (intOf vi).toNat)
  case atStart => exact ⟨0, by omega, rfl, by show _ = _; simpa [dataL] using heap_alloc_new w _, bAlloc (Below.refl _ _) _⟩
  case round =>
    obtain ⟨k, hk, rfl, HW, HB⟩ := hrel
    by_cases hlt : k < n
    · have hkL : k < l.length := by rw [← HN.out]; exact hlt
      obtain ⟨b, off, hA, hbl, hcu⟩ := HR.out.form hkL
      subst hA
      have hcu' := (HB.out.cell (p := ⟨b, off + k, none⟩) hbl).trans hcu
      have HP := keepd (part_set l n k HN.out hkL)
      have hlen : k < (dataL (l.take k) ++ List.replicate (n - k) zeroI).length := by
        unfold dataL
        rw [List.length_append, List.length_map, List.length_take, List.length_replicate]
        omega
      have HF := keepd (flat_set (datum l[k]) _ k hlen)
      obtain ⟨g0, g1, g2, g3⟩ := flat_get _ k hlen
      have HQ : Hid (SR 29 wr w.heap.size (flat (dataL (l.take k) ++ List.replicate (n - k) zeroI))) := HW.out
      have q0 := (HQ.out.cell (k * 4)).trans g0
      have q1 := (HQ.out.cell (k * 4 + 1)).trans g1
      have q2 := (HQ.out.cell (k * 4 + 2)).trans g2
      have q3 := (HQ.out.cell (k * 4 + 3)).trans g3
      have f0 := HQ.out.frozen (k * 4)
      have f1 := HQ.out.frozen (k * 4 + 1)
      have f2 := HQ.out.frozen (k * 4 + 2)
      have f3 := HQ.out.frozen (k * 4 + 3)
      clear g0 g1 g2 g3 hcu HW hmk
      generalize (dataL (l.take k) ++ List.replicate (n - k) zeroI)[k] = ZZ at *
      generalize l[k] = u at *
      have hu1 : (u.toNat : Int) ≤ 255 := by have := u.toNat_lt; omega
      have hu0 : (0 : Int) ≤ (u.toNat : Int) := by omega
      have HQ4 : Hid (SR 29 ((((wr.setCell ⟨w.heap.size, k * 4, none⟩ (.int .i64 1)).setCell ⟨w.heap.size, k * 4 + 1, none⟩ (.int .i64 (u.toNat : Int))).setCell ⟨w.heap.size, k * 4 + 2, none⟩ (.int .i64 0)).setCell ⟨w.heap.size, k * 4 + 3, none⟩ (.slice none 0 0)) w.heap.size (flat (dataL (l.take (k + 1)) ++ List.replicate (n - (k + 1)) zeroI))) := by
        have := (((HQ.out.set (k * 4) (.int .i64 1)).set (k * 4 + 1) (.int .i64 (u.toNat : Int))).set (k * 4 + 2) (.int .i64 0)).set (k * 4 + 3) (.slice none 0 0)
        show SR _ _ _ _
        rw [← HP.out, ← HF.out]
        exact this
      have HB4 := keepd (bSet (i := k * 4 + 3) (bSet (i := k * 4 + 2) (bSet (i := k * 4 + 1) (bSet (i := k * 4) HB.out (Nat.le_refl _) (.int .i64 1)) (Nat.le_refl _) (.int .i64 (u.toNat : Int))) (Nat.le_refl _) (.int .i64 0)) (Nat.le_refl _) (.slice none 0 0))
      go_wp2
      go_roundw
      case rel => exact ⟨k + 1, by omega, by go_num, HQ4, HB4⟩
      case measure => simp [intOf]; omega
    · obtain rfl : k = n := by omega
      have HQ : Hid (SR 29 wr w.heap.size (flat (dataL l))) := by
        have := HW.out
        rw [List.take_of_length_le (by rw [← HN.out]; omega), Nat.sub_self, List.replicate_zero, List.append_nil] at this
        exact this
      clear HW hmk
      go_wp2
      go_ret
      refine ⟨_, _, ret_slice HN.out, ⟨?_, by unfold maxLen; omega, fun hne => ⟨w.heap.size, 0, rfl, HQ.out.lt, fun i hi => ?_⟩, fun x hx => ?_⟩, HB.out⟩
      · unfold dataL; rw [List.length_map, ← HN.out]; omega
      · obtain ⟨g0, g1, g2, g3⟩ := flat_get _ i hi
        rw [show (0 : Nat) + i * 4 = i * 4 by omega]
        exact ⟨(HQ.out.cell _).trans g0, (HQ.out.cell _).trans g1, (HQ.out.cell _).trans g2, (HQ.out.cell _).trans g3⟩
      · unfold dataL at hx
        obtain ⟨u, _, rfl⟩ := List.mem_map.1 hx
        exact Rd.nil _ _

end Go.Proofs.YtagfoidljficoaaDoor
