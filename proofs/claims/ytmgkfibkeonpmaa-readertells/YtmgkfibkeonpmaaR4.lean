/-
  Contracts over layer 4: come, keep. No conditions beyond those each theorem states.
-/
import Derived.Test.YtmgkfibkeonpmaaR3
namespace Go.Proofs.Ytmgkfibkeonpmaa
open Go.RowKit

theorem step_appI (w : World) {ops : Array Oper} {o : Oper} {a : Act} {K : Act → World → Prop} {Q : Exit → Act → World → Prop} {E : Prop} (hgd : o.guard = none) (s x : Operand)
    (ho : o.op = .call { callee := .builtin .append, args := #[s, x], argTypes := #[27, 27] })
    (base : Nat) (v : Value) (L : List Itm) (hs : a.eval s = v) (hown : OwnI w base v L) (A : Option Addr) (m c : Nat) (M : List Itm) (hx : a.eval x = .slice A m c) (hm : m = M.length) (hr : RdI w A M c)
    (hlen : L.length + M.length ≤ 200000) (hbase : base ≤ w.heap.size)
    (h : ∀ v' w', OwnI w' base v' (L ++ M) → w.grownBy w' v.ownBlock → (v'.ownBlock = v.ownBlock ∨ v'.ownBlock = some w.heap.size) → K (a.put o.dst v') w') :
    if Region.wanted o (yielded ops a.tmps) = true then Oper.wp Try.prog o a w K Q else E := by
  have hw : Region.wanted o (yielded ops a.tmps) = true := by simp [Region.wanted, hgd]
  rw [if_pos hw]
  obtain ⟨v', w', hrun, h2, h3, h4⟩ := run_appI w base o.type v L hown A m c M hm hr hlen hbase
  unfold Oper.wp execOp
  simp only [ho, resolve, invoke, builtin, Sem.run_bind, Sem.run_pure, Result.andThen_ok, List.map_toArray, List.map_cons, List.map_nil, hs, hx, hrun]
  exact h v' w' h2 h3 h4

theorem OwnI.form {w : World} {base : Nat} {v : Value} {L : List Itm} (h : OwnI w base v L) : ∃ A c, v = .slice A L.length c := by
  rcases h.2 with ⟨rfl, h0⟩ | ⟨g, cap, cur, rfl, _⟩
  · exact ⟨none, 0, by rw [h0]⟩
  · exact ⟨_, _, rfl⟩

/-- What comes of a method: an item more, or none. -/
def GotM (W : World) (p : Nat) (K : List (Nat × Obj)) (r : Abs) (L : List Itm) (out : List Abs) (e : Ending) (w' : World) : Prop :=
  e = .returned (.tuple #[]) ∧ ∃ M : List Itm, M.map Itm.abs = out ∧ WI W p K r (L ++ M) w'

theorem SR.facts5 {t : TypeId} {w : World} {p : Nat} {u0 u1 u2 u3 u4 : Value} (h : SR t w p [u0, u1, u2, u3, u4]) :
    (w.cell? ⟨p, 0, none⟩ = some u0 ∧ w.cell? ⟨p, 1, none⟩ = some u1 ∧ w.cell? ⟨p, 2, none⟩ = some u2 ∧ w.cell? ⟨p, 3, none⟩ = some u3 ∧ w.cell? ⟨p, 4, none⟩ = some u4) ∧
    (w.frozen? ⟨p, 0, none⟩ = false ∧ w.frozen? ⟨p, 1, none⟩ = false ∧ w.frozen? ⟨p, 2, none⟩ = false ∧ w.frozen? ⟨p, 3, none⟩ = false ∧ w.frozen? ⟨p, 4, none⟩ = false) :=
  ⟨⟨h.cell 0, h.cell 1, h.cell 2, h.cell 3, h.cell 4⟩, h.frozen 0, h.frozen 1, h.frozen 2, h.frozen 3, h.frozen 4⟩

/-- What come's append leaves, ahead of the store. -/
theorem come_sr {W : World} {p : Nat} {K : List (Nat × Obj)} {r : Abs} {L : List Itm} {w w1 w2 : World} {A : Option Addr} {c : Nat} {iv : Value} (h : WJ W p K r L w A c iv) (hb : Below w.heap.size w w1) (hg : w1.grownBy w2 iv.ownBlock) :
    SR 48 w2 p [.int .i64 r.k, .int .i64 r.a, .int .i64 r.b, .slice A r.l.length c, iv] :=
  (hg.block p (Nat.lt_of_lt_of_le h.lt hb.size) (fun e => h.ip e.symm)).trans ((hb.block p h.lt).trans h.sr)

set_option maxRecDepth 100000 in
set_option maxHeartbeats 2000000 in
theorem come_any {W : World} {p : Nat} {K : List (Nat × Obj)} {r : Abs} {L : List Itm} {w : World} {A : Option Addr} {c : Nat} {iv : Value} (h : WJ W p K r L w A c iv) (hL : L.length ≤ 100000) (X : Itm) (n : Nat) (hn : n = X.l.length)
    (hX : Rd w w.heap.size X.A X.l X.c) (hXf : ∀ ad, X.A = some ad → ad.block < w.heap.size ∧ ad.block ≠ p ∧ iv.ownBlock ≠ some ad.block) (i : Int) :
    Calls Try.prog 46 #[.pointer (some ⟨p, 0, none⟩), .agg #[.int .i64 X.k, .int .i64 X.a, .int .i64 X.b, .slice X.A n X.c], .int .i64 i] w (GotM W p K (inn i) L [X.abs]) := by
  subst hn
  obtain ⟨⟨c0, c1, c2, c3, c4⟩, f0, f1, f2, f3, f4⟩ := h.sr.facts5
  have hlt := h.lt
  have HJ := keepd h
  have HX := keepd hX
  have HXf := keepd hXf
  have HS := keepd h.below.size
  clear h hX hXf
  go_enter Try.func46, Try.ntmps46
  go_wp2_with fail
  go_region_law (first | (refine step_appI _ rfl (.tmp 10) (.tmp 12) rfl W.heap.size iv L rfl ?_ (some ⟨w.heap.size + 1, 0, none⟩) 1 1 [X] rfl rfl ?_ ?_ ?_ ?_; (exact (HJ.out.owns.alloc _).alloc _); (exact one_rdI2 w _ X HX.out); (simp only [List.length_cons, List.length_nil]; omega); (have := HS.out; show W.heap.size ≤ ((w.alloc _).alloc _).heap.size; simp only [World.size_alloc]; omega); intro iv' w2 ho hg hat; obtain ⟨B2, e2, hiv⟩ := ho.form; subst hiv; have hb1 : Below w.heap.size w ((w.alloc (.cells #[.int .i64 X.k, .int .i64 X.a, .int .i64 X.b, .slice X.A X.l.length X.c] 41)).alloc (.cells #[.int .i64 X.k, .int .i64 X.a, .int .i64 X.b, .slice X.A X.l.length X.c] 41)).drew := (bAlloc (bAlloc (Below.refl _ _) _) _).drew; have q := come_sr HJ.out hb1 hg; obtain ⟨⟨d0, d1, d2, d3, d4⟩, g0, g1, g2, g3, g4⟩ := q.facts5; have HQ := keepd q; have HG := keepd (HJ.out.come hb1 HX.out HXf.out ho hg hat i); clear ho hg hat hb1 q; generalize (L ++ [X]).length = q at *))
  all_goals
    go_wp2_with fail
    with_reducible refine (wait_any i p _ _ _ _ _ _ (HQ.out.set 4 (.slice B2 q e2))).mono ?_
    rintro e w3 ⟨rfl, rfl⟩
    clear d0 d1 d2 d3 d4 g0 g1 g2 g3 g4 c0 c1 c2 c3 c4 f0 f1 f2 f3 f4
    go_wp2
    go_end0
    exact ⟨rfl, [X], rfl, none, 0, _, HG.out⟩

/-- The octets that a method keeps, ahead of the store. -/
theorem keep_sr {W : World} {p : Nat} {K : List (Nat × Obj)} {r : Abs} {L : List Itm} {w w1 w2 : World} {A : Option Addr} {c : Nat} {iv : Value} (h : WJ W p K r L w A c iv) (hb : Below w.heap.size w w1) (hg : w1.grownBy w2 (Value.slice A r.l.length c).ownBlock) :
    SR 48 w2 p [.int .i64 r.k, .int .i64 r.a, .int .i64 r.b, .slice A r.l.length c, iv] :=
  (hg.block p (Nat.lt_of_lt_of_le h.lt hb.size) (fun e => h.lp e.symm)).trans ((hb.block p h.lt).trans h.sr)

set_option maxHeartbeats 1000000 in
theorem keep_any {W : World} {p : Nat} {K : List (Nat × Obj)} {r : Abs} {L : List Itm} {w : World} (h : WI W p K r L w) (hl : r.l.length ≤ 512) (u : UInt8) (z : Int) (hz : z = (u.toNat : Int)) :
    Calls Try.prog 47 #[.pointer (some ⟨p, 0, none⟩), .int .u8 z] w (GotM W p K (sKeep r u) L []) := by
  subst hz
  obtain ⟨A, c, iv, h⟩ := h
  obtain ⟨⟨c0, c1, c2, c3, c4⟩, f0, f1, f2, f3, f4⟩ := h.sr.facts5
  have hlt := h.lt
  have HJ := keepd h
  have HS := keepd h.below.size
  by_cases h5 : r.l.length = 512
  · have hk : sKeep r u = inn 7 := if_pos h5
    rw [hk]
    clear h hk
    go_enter Try.func47, Try.ntmps47
    go_wp2_with fail
    with_reducible refine (wait_any 7 p _ _ _ _ _ _ HJ.out.sr).mono ?_
    rintro e w3 ⟨rfl, rfl⟩
    have HG := keepd (HJ.out.setR 7 0 0)
    clear c0 c1 c2 c3 c4 f0 f1 f2 f3 f4
    go_wp2
    go_end0
    exact ⟨rfl, [], rfl, none, 0, iv, by rw [List.append_nil]; exact HG.out⟩
  · have hk : sKeep r u = ⟨5, r.a, r.b, r.l ++ [u]⟩ := if_neg h5
    rw [hk]
    have HI := keepd (h.setIn 5)
    clear h hk
    have hs1 : (w.setCell ⟨p, 0, none⟩ (.int .i64 5)).heap.size = w.heap.size := by simp [World.setCell]
    go_enter Try.func47, Try.ntmps47
    go_wp2_with (at_builtin; refine wpList_app _ rfl (.tmp 22) (.tmp 24) rfl W.heap.size _ r.l rfl (HI.out.own.alloc _) _ (some ⟨w.heap.size, 0, none⟩) 1 1 [u] rfl rfl (by rw [← hs1]; exact one_rdb _ u) ?_ ?_ ?_)
    · simp only [List.length_cons, List.length_nil]; omega
    · have := HS.out
      simp [World.setCell]
      omega
    · intro v' w2 ho hg hat
      obtain ⟨A', c', rfl, _⟩ := ho.rd
      have hb1 : Below (w.setCell ⟨p, 0, none⟩ (.int .i64 5)).heap.size (w.setCell ⟨p, 0, none⟩ (.int .i64 5)) ((w.setCell ⟨p, 0, none⟩ (.int .i64 5)).alloc (.cells #[.int .u8 (u.toNat : Int)] 5)) := bAlloc (Below.refl _ _) _
      have q := keep_sr HI.out hb1 hg
      obtain ⟨⟨d0, d1, d2, d3, d4⟩, g0, g1, g2, g3, g4⟩ := q.facts5
      have HG := keepd (HI.out.app hb1 ho hg (by rw [World.size_alloc, hs1]; exact hat))
      clear ho hg hat hb1 q c0 c1 c2 c3 c4 f0 f1 f2 f3 f4
      generalize (r.l ++ [u]).length = q at *
      go_wp2
      go_end0
      exact ⟨rfl, [], rfl, A', c', iv, by rw [List.append_nil]; exact HG.out⟩

end Go.Proofs.Ytmgkfibkeonpmaa
