/-
  The contracts of nvt.Lay, nvt.Size and nvt.Plain.
-/
import Derived.Test.YtmgkfibkeonpmaaDoorT5
namespace Go.Proofs.YtmgkfibkeonpmaaDoor
open Go.RowKit

/-- Lay's closure: the octets L lie in an owned row, which the variable in block p holds. -/
def LayI (W : World) (p : Nat) (K : List (Nat × Obj)) (L : List UInt8) (w : World) : Prop :=
  ∃ A c, w.heap[p]? = some (.cells #[.slice A L.length c] 23 (0, 0)) ∧ Own w W.heap.size (.slice A L.length c) L ∧ (Value.slice A L.length c).ownBlock ≠ some p ∧
    (∀ (k : Nat) (o : Obj), (k, o) ∈ K → w.heap[k]? = some o ∧ k ≠ p ∧ (Value.slice A L.length c).ownBlock ≠ some k) ∧ Below W.heap.size W w ∧ W.heap.size ≤ p

theorem app_below' {W w w' : World} {v : Value} {l : List UInt8} (h : Below W.heap.size W w) (hown : Own w W.heap.size v l) (hg : w.grownBy w' v.ownBlock) (hz : W.heap.size ≤ w.heap.size) : Below W.heap.size W w' :=
  h.trans (grown_below hown hg hz)

theorem layI_put {W w w' : World} {p : Nat} {K : List (Nat × Obj)} {L L' : List UInt8} {A A' : Option Addr} {c c' : Nat} {o : Obj}
    (hp : w.heap[p]? = some (.cells #[.slice A L.length c] 23 (0, 0))) (hw : Own w W.heap.size (.slice A L.length c) L) (hn : (Value.slice A L.length c).ownBlock ≠ some p)
    (hK : ∀ (k : Nat) (o : Obj), (k, o) ∈ K → w.heap[k]? = some o ∧ k ≠ p ∧ (Value.slice A L.length c).ownBlock ≠ some k) (hb : Below W.heap.size W w) (hWp : W.heap.size ≤ p)
    (ho : Own w' W.heap.size (.slice A' L'.length c') L') (hg : (w.alloc o).grownBy w' (Value.slice A L.length c).ownBlock)
    (hat : (Value.slice A' L'.length c').ownBlock = (Value.slice A L.length c).ownBlock ∨ (Value.slice A' L'.length c').ownBlock = some (w.heap.size + 1)) :
    LayI W p K L' (w'.setCell ⟨p, 0, none⟩ (.slice A' L'.length c')) := by
  have hlt : p < w.heap.size := lt_of_block hp
  have hsz : (w.alloc o).heap.size = w.heap.size + 1 := by simp
  have hp' : w'.heap[p]? = some (.cells #[.slice A L.length c] 23 (0, 0)) := (hg.block p (by omega) (fun e => hn e.symm)).trans (row_alloc hp)
  have hn' : (Value.slice A' L'.length c').ownBlock ≠ some p := by
    rcases hat with e | e
    · rw [e]; exact hn
    · rw [e]; intro e2; injection e2 with e2; omega
  refine ⟨A', c', one_setCell hp', ho.setOne hn' _, hn', fun k o' hk => ?_, (app_below' (bAl (Nat.le_refl _) hb o) (hw.alloc o) hg (by rw [hsz]; have := hb.size; omega)).setCell hWp _, hWp⟩
  obtain ⟨h1, h2, h3⟩ := hK k o' hk
  have hkl : k < w.heap.size := (Array.getElem?_eq_some_iff.1 h1).1
  refine ⟨far_set h2 ((hg.block k (by omega) (fun e => h3 e.symm)).trans (row_alloc h1)), h2, ?_⟩
  rcases hat with e | e
  · rw [e]; exact h3
  · rw [e]; intro e2; injection e2 with e2; omega

theorem enters20 (args : Array Value) (w : World) : (callFunc 46 args).run Tryd.prog w = .ok (.enter 46 args) w := by kernel_rfl
set_option maxHeartbeats 400000 in
theorem lay_put (W : World) (p : Nat) (K : List (Nat × Obj)) (L : List UInt8) (w : World) (u : UInt8) (hl : L.length ≤ 1000) (h : LayI W p K L w) :
    Calls Tryd.prog 46 #[.int .u8 (u.toNat : Int), .pointer (some ⟨p, 0, none⟩)] w fun e w' => e = .returned (.tuple #[]) ∧ LayI W p K (L ++ [u]) w' := by
  obtain ⟨A, c, hp, hw, hn, hK, hb, hWp⟩ := h
  have hc := cell_of_one hp
  have hlt := lt_of_block hp
  have H1 := keepd hp
  have H2 := keepd hw
  have H3 := keepd hn
  have H4 := keepd hK
  have H5 := keepd hb
  clear hp hw hn hK hb
  go_enter Tryd.func46, Tryd.ntmps46
  go_wp2_with (at_builtin; refine wpList_app _ rfl (.tmp 3) (.tmp 5) rfl W.heap.size _ L rfl (H2.out.alloc _) (w.heap.size + 1) (some ⟨w.heap.size, 0, none⟩) 1 1 [u] rfl rfl (one_rdb w u) ?_ ?_ ?_)
  · simp
    omega
  · simp
    omega
  · intro vb wb ho hg hat
    obtain ⟨Bv, dv, hv2, _⟩ := ho.rd
    subst hv2
    have r := layI_put H1.out H2.out H3.out H4.out H5.out hWp ho hg hat
    rw [show (L ++ [u]).length = L.length + 1 from by simp] at r
    have R := keepd r
    have hc' : wb.cell? ⟨p, 0, none⟩ = some (.slice A L.length c) := cell_of_one ((hg.block p (by simp; omega) (fun e => H3.out e.symm)).trans (row_alloc H1.out))
    have hf' : wb.frozen? ⟨p, 0, none⟩ = false := free_of_one ((hg.block p (by simp; omega) (fun e => H3.out e.symm)).trans (row_alloc H1.out))
    clear ho hg hat hc r
    go_wp2
    go_end0
    exact ⟨rfl, R.out⟩

theorem layP (W : World) (p : Nat) : Putter W 46 (.pointer (some ⟨p, 0, none⟩)) (LayI W p) where
  put := fun K L w u hl h => lay_put W p K L w u hl h
  enters := enters20
  got := fun K L w ⟨_, _, _, _, _, hK, _, _⟩ k o hk => (hK k o hk).1
  below := fun K L w ⟨_, _, _, _, _, _, hb, _⟩ => hb
  add := fun K K' L w w' ⟨A, c, hp, hw, hn, hK, hb, hWp⟩ hbe hnew => by
    have hz := hb.size
    refine ⟨A, c, (hbe.block p (lt_of_block hp)).trans hp, hw.below hbe, hn, fun k o hk => ?_, hb.trans (hbe.mono hz), hWp⟩
    rcases List.mem_append.1 hk with h | h
    · obtain ⟨h1, h2⟩ := hnew k o h
      have := lt_of_block hp
      refine ⟨h2, by omega, fun e => ?_⟩
      have := (hw.ge k e).2
      omega
    · obtain ⟨h1, h2, h3⟩ := hK k o h
      exact ⟨(hbe.block k (Array.getElem?_eq_some_iff.1 h1).1).trans h1, h2, h3⟩

/-- Size's closure: the variable in block p holds how many there were. -/
def SizeI (W : World) (p : Nat) (K : List (Nat × Obj)) (L : List UInt8) (w : World) : Prop :=
  w.heap[p]? = some (.cells #[.int .i64 (L.length : Int)] 3 (0, 0)) ∧ (∀ (k : Nat) (o : Obj), (k, o) ∈ K → w.heap[k]? = some o ∧ k ≠ p) ∧ Below W.heap.size W w ∧ W.heap.size ≤ p

theorem make0 (n : Nat) (hn : n ≤ 1000000) (W : World) :
    (Instr.makeSlice 23 (.int .i64 0) (.int .i64 (n : Int))).run Tryd.prog W = .ok (.slice (some ⟨W.heap.size, 0, none⟩) 0 n) (W.alloc (.cells ((zeros n).map bv).toArray 5)) := by
  obtain ⟨i0, hi, hz0, hz1, hz2⟩ := info_parts info5
  have := run_make (P := Tryd.prog) W 23 5 i0 _ Tryd.underlying23 hi hz0 .i64 .i64 0 n (by omega) (by omega) (by rw [hz2]; omega) (by omega)
  rw [this, hz1]
  simp [Value.cells, zs_eq]

theorem own0 {w : World} {g base n : Nat} (h : w.heap[g]? = some (.cells ((zeros n).map bv).toArray 5 (0, 0))) (hn : n ≤ 1000000) (hb : base ≤ g) : Own w base (.slice (some ⟨g, 0, none⟩) 0 n) [] :=
  ⟨by simp, .inr ⟨g, n, _, rfl, hb, h, by simp, by unfold maxLen; omega, by simp [zeros], by simp⟩⟩

set_option maxHeartbeats 400000 in
theorem lay_any (A : Option Addr) (l : List UInt8) (n c : Nat) (w : World) (hn : n = l.length) (hr : Rd w w.heap.size A l c) (hl : n ≤ 400) :
    Calls Tryd.prog 35 #[.slice A n c] w fun e w' => ∃ A' c', e = .returned (.slice A' (layL l).length c') ∧ Rd w' w'.heap.size A' (layL l) c' ∧ Below w.heap.size w w' := by
  have hmk := make0 n (by omega)
  have hmf : ∀ (fn : Fn) (first cap : Array Value) (w : World), (Instr.makeFunc fn first cap).run Tryd.prog w = .ok (.func fn first cap) w := fun _ _ _ _ => rfl
  have HN := keepd hn
  have HR := keepd hr
  have b1 : n ≤ c := by have := hr.1; omega
  have b2 : c ≤ maxLen := hr.2.1
  unfold maxLen at b2
  clear hr hn
  go_enter Tryd.func35, Tryd.ntmps35
  go_wp2_with fail
  have hI : LayI w (w.heap.size + 1) [] [] ((w.alloc (.cells ((zeros n).map bv).toArray 5)).alloc (.cells #[.slice (some ⟨w.heap.size, 0, none⟩) 0 n] 23)) :=
    ⟨some ⟨w.heap.size, 0, none⟩, n, n3 w _ _, own0 (row_alloc (heap_alloc_new w _)) (by omega) (Nat.le_refl _), by simp [Value.ownBlock], by simp, bAlloc (bAlloc (Below.refl _ _) _) _, by omega⟩
  with_reducible refine (each_any (layP w (w.heap.size + 1)) A l n c HN.out HR.out hl [] _ hI).mono ?_
  rintro e w1 ⟨rfl, K', A', c', hp, hw, _, _, hb, _⟩
  have hc := cell_of_one hp
  have H2 := keepd hw.rdOf
  have H5 := keepd hb
  clear hI hp hw hb hmk hmf
  go_wp2
  go_ret
  exact ⟨A', c', rfl, H2.out, H5.out⟩

end Go.Proofs.YtmgkfibkeonpmaaDoor
