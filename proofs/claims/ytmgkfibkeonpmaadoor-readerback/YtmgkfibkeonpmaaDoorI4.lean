/-
  Contracts over layer 3: what gathers octets (row.add) and what counts them (count.add), as one kind of thing (an Adder). No conditions beyond those each theorem states.
-/
import Derived.Test.YtmgkfibkeonpmaaDoorI3
import Derived.Test.YtmgkfibkeonpmaaDoorI1
namespace Go.Proofs.YtmgkfibkeonpmaaDoor
open Go.RowKit

/-- A method value (function fn bound to the variable in block p) that takes octets. I K L w: the octets L have been taken, and each block of K is as it was. -/
structure Adder (W : World) (fn p : Nat) (I : List (Nat × Obj) → List UInt8 → World → Prop) : Prop where
  put : ∀ (K : List (Nat × Obj)) (L : List UInt8) (w : World) (A : Option Addr) (l : List UInt8) (n c : Nat), n = l.length → L.length + n ≤ 900000 → I K L w → Rd w w.heap.size A l c →
    Calls Tryd.prog fn #[.pointer (some ⟨p, 0, none⟩), .slice A n c] w fun e w' => e = .returned (.tuple #[]) ∧ I K (L ++ l) w'
  enters : ∀ (args : Array Value) (w : World), (callFunc fn args).run Tryd.prog w = .ok (.enter fn args) w
  got : ∀ (K : List (Nat × Obj)) (L : List UInt8) (w : World), I K L w → ∀ (k : Nat) (o : Obj), (k, o) ∈ K → w.heap[k]? = some o
  below : ∀ (K : List (Nat × Obj)) (L : List UInt8) (w : World), I K L w → Below W.heap.size W w
  add : ∀ (K K' : List (Nat × Obj)) (L : List UInt8) (w w' : World), I K L w → Below w.heap.size w w' → (∀ (k : Nat) (o : Obj), (k, o) ∈ K' → w.heap.size ≤ k ∧ w'.heap[k]? = some o) → I (K' ++ K) L w'

theorem app47 (ty : TypeId) (args : Array Value) (w : World) : (Builtin.append_ #[40, 23] ty args).run Tryd.prog w = (Builtin.append_ #[23, 23] ty args).run Tryd.prog w := by
  have e1 : (#[40, 23] : Array TypeId)[0]? = some 40 := rfl
  have e2 : (#[23, 23] : Array TypeId)[0]? = some 23 := rfl
  have e3 : (#[40, 23] : Array TypeId)[1]? = some 23 := rfl
  have e4 : (#[23, 23] : Array TypeId)[1]? = some 23 := rfl
  unfold Builtin.append_
  rw [e1, e2, e3, e4]
  cases args[0]? with
  | none => rfl
  | some s =>
    cases args[1]? with
    | none => rfl
    | some x => simp only [Sem.run_bind, run_underlying Tryd.underlying40, run_underlying Tryd.underlying23]

theorem wpList_app47 (w : World) {ops : Array Oper} {rest : List Oper} {o : Oper} {a : Act} {Q : Exit → Act → World → Prop} (hgd : o.guard = none) (s x : Operand)
    (ho : o.op = .call { callee := .builtin .append, args := #[s, x], argTypes := #[40, 23] })
    (base : Nat) (v : Value) (l : List UInt8) (hs : a.eval s = v) (hown : Own w base v l) (B : Nat) (A : Option Addr) (m c : Nat) (l' : List UInt8) (hx : a.eval x = .slice A m c) (hm : m = l'.length) (hr : Rd w B A l' c)
    (hlen : l.length + l'.length ≤ 1000000) (hbase : base ≤ w.heap.size)
    (h : ∀ v' w', Own w' base v' (l ++ l') → w.grownBy w' v.ownBlock → (v'.ownBlock = v.ownBlock ∨ v'.ownBlock = some w.heap.size) → wpList Tryd.prog ops Q rest (a.put o.dst v') w') : wpList Tryd.prog ops Q (o :: rest) a w := by
  obtain ⟨v', w', hrun, h2, h3, h4⟩ := run_app w base o.type v l hown B A m c l' hm hr hlen hbase
  refine wpList_plain hgd fun _ hK => ?_
  unfold Oper.wp execOp
  simp only [ho, resolve, invoke, builtin, Sem.run_bind, Sem.run_pure, Result.andThen_ok, List.map_toArray, List.map_cons, List.map_nil, hs, hx, app47, hrun]
  exact hK _ _ (h v' w' h2 h3 h4)

/-- Put's: the octets L lie in an owned row, which the variable in block p holds. -/
def RowI (W : World) (p : Nat) (K : List (Nat × Obj)) (L : List UInt8) (w : World) : Prop :=
  ∃ A c, w.heap[p]? = some (.cells #[.slice A L.length c] 40 (0, 0)) ∧ Own w W.heap.size (.slice A L.length c) L ∧ (Value.slice A L.length c).ownBlock ≠ some p ∧
    (∀ (k : Nat) (o : Obj), (k, o) ∈ K → w.heap[k]? = some o ∧ k ≠ p ∧ (Value.slice A L.length c).ownBlock ≠ some k) ∧ Below W.heap.size W w ∧ W.heap.size ≤ p

theorem rowI_put {W w w' : World} {p : Nat} {K : List (Nat × Obj)} {L L' : List UInt8} {A A' : Option Addr} {c c' : Nat}
    (hp : w.heap[p]? = some (.cells #[.slice A L.length c] 40 (0, 0))) (hw : Own w W.heap.size (.slice A L.length c) L) (hn : (Value.slice A L.length c).ownBlock ≠ some p)
    (hK : ∀ (k : Nat) (o : Obj), (k, o) ∈ K → w.heap[k]? = some o ∧ k ≠ p ∧ (Value.slice A L.length c).ownBlock ≠ some k) (hb : Below W.heap.size W w) (hWp : W.heap.size ≤ p)
    (ho : Own w' W.heap.size (.slice A' L'.length c') L') (hg : w.grownBy w' (Value.slice A L.length c).ownBlock)
    (hat : (Value.slice A' L'.length c').ownBlock = (Value.slice A L.length c).ownBlock ∨ (Value.slice A' L'.length c').ownBlock = some w.heap.size) :
    RowI W p K L' (w'.setCell ⟨p, 0, none⟩ (.slice A' L'.length c')) := by
  have hlt : p < w.heap.size := lt_of_block hp
  have hp' : w'.heap[p]? = some (.cells #[.slice A L.length c] 40 (0, 0)) := (hg.block p (by omega) (fun e => hn e.symm)).trans hp
  have hn' : (Value.slice A' L'.length c').ownBlock ≠ some p := by
    rcases hat with e | e
    · rw [e]; exact hn
    · rw [e]; intro e2; injection e2 with e2; omega
  refine ⟨A', c', one_setCell hp', ho.setOne hn' _, hn', fun k o' hk => ?_, (app_below' hb hw hg hb.size).setCell hWp _, hWp⟩
  obtain ⟨h1, h2, h3⟩ := hK k o' hk
  have hkl : k < w.heap.size := (Array.getElem?_eq_some_iff.1 h1).1
  refine ⟨far_set h2 ((hg.block k (by omega) (fun e => h3 e.symm)).trans h1), h2, ?_⟩
  rcases hat with e | e
  · rw [e]; exact h3
  · rw [e]; intro e2; injection e2 with e2; omega

theorem enters27 (args : Array Value) (w : World) : (callFunc 13 args).run Tryd.prog w = .ok (.enter 13 args) w := by kernel_rfl
set_option maxHeartbeats 400000 in
theorem row_put (W : World) (p : Nat) (K : List (Nat × Obj)) (L : List UInt8) (w : World) (B : Option Addr) (l : List UInt8) (n d : Nat) (hn0 : n = l.length) (hl : L.length + n ≤ 900000) (h : RowI W p K L w) (hr : Rd w w.heap.size B l d) :
    Calls Tryd.prog 13 #[.pointer (some ⟨p, 0, none⟩), .slice B n d] w fun e w' => e = .returned (.tuple #[]) ∧ RowI W p K (L ++ l) w' := by
  obtain ⟨A, c, hp, hw, hn, hK, hb, hWp⟩ := h
  have hc := cell_of_one hp
  have hlt := lt_of_block hp
  have H1 := keepd hp
  have H2 := keepd hw
  have H3 := keepd hn
  have H4 := keepd hK
  have H5 := keepd hb
  have H6 := keepd hr
  have H7 := keepd hn0
  have hz := hb.size
  clear hp hw hn hK hb hr hn0
  go_enter Tryd.func13, Tryd.ntmps13
  go_wp2_with (at_builtin; refine wpList_app47 _ rfl (.tmp 7) (.tmp 8) rfl W.heap.size _ L rfl H2.out w.heap.size B n d l rfl H7.out H6.out ?_ ?_ ?_)
  · rw [← H7.out]
    omega
  · omega
  · intro vb wb ho hg hat
    obtain ⟨Bv, dv, hv2, _⟩ := ho.rd
    subst hv2
    have r := rowI_put H1.out H2.out H3.out H4.out H5.out hWp ho hg hat
    have R := keepd r
    have hc' : wb.cell? ⟨p, 0, none⟩ = some (.slice A L.length c) := cell_of_one ((hg.block p (by omega) (fun e => H3.out e.symm)).trans H1.out)
    have hf' : wb.frozen? ⟨p, 0, none⟩ = false := free_of_one ((hg.block p (by omega) (fun e => H3.out e.symm)).trans H1.out)
    clear ho hg hat hc r
    generalize (L ++ l).length = q at *
    go_wp2
    go_end0
    exact ⟨rfl, R.out⟩

theorem rowP (W : World) (p : Nat) : Adder W 13 p (RowI W p) where
  put := fun K L w A l n c hn hl h hr => row_put W p K L w A l n c hn hl h hr
  enters := enters27
  got := fun K L w ⟨_, _, _, _, _, hK, _, _⟩ k o hk => (hK k o hk).1
  below := fun K L w ⟨_, _, _, _, _, _, hb, _⟩ => hb
  add := fun K K' L w w' ⟨A, c, hp, hw, hn, hK, hb, hWp⟩ hbe hnew => by
    have hz := hb.size
    refine ⟨A, c, (hbe.block p (lt_of_block hp)).trans hp, hw.below hbe, hn, fun k o hk => ?_, hb.trans (hbe.mono hz), hWp⟩
    rcases List.mem_append.1 hk with h | h
    · obtain ⟨h1, h2⟩ := hnew k o h
      have := lt_of_block hp
      refine ⟨h2, by omega, fun e => ?_⟩
      have := (hw.ge k e).2
      omega
    · obtain ⟨h1, h2, h3⟩ := hK k o h
      exact ⟨(hbe.block k (Array.getElem?_eq_some_iff.1 h1).1).trans h1, h2, h3⟩

end Go.Proofs.YtmgkfibkeonpmaaDoor
