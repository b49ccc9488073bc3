/-
  What an editor that works tells, and does, whose octets lie in no block that was there. No conditions beyond those each theorem states.
-/
import Derived.Test.YtlfmbfecajhffaaDoorF3
import Derived.Test.YtlfmbfecajhffaaDoorA4
namespace Go.Proofs.YtlfmbfecajhffaaDoor.Fr
open Go.RowKit
set_option maxRecDepth 100000

attribute [local go_sem ↓] ex_ld25 ex_st25 ex_al25 ex_bu25 ex_ix25 ex_eq25 ex_ne25 ex_eq23 ex_ne23 ex_ld25o ex_st65 ex_al65 ex_bu65 ex_bu65s
attribute [local go_sem] ptrB_at okPtr_at aggC_at agg62 agg69 isC_at isT_at eqV_t eqV_c isRow_new isRow_new65 World.setRow_alloc_new ptr4_at okPtr4_at cutT_at isI_at isS_at bW_at bWs_at

/-- The event is told. -/
def GotT (W : World) (p : Nat) (X : Tb) (room : Int) (s : Ed) (L : List EvM) (n : Int) (A : Option Addr) (c : Nat) (e : Ending) (w' : World) : Prop :=
  e = .returned (.tuple #[]) ∧ ∃ iv, WJ W p X room s L n w' A c iv

set_option maxHeartbeats 2000000 in
theorem tell_any {W : World} {p : Nat} {X : Tb} {room : Int} {s : Ed} {L : List EvM} {n : Int} {w : World} {A : Option Addr} {c : Nat} {iv : Value} (h : WJ W p X room s L n w A c iv) (hL : L.length ≤ 100000) (x : EvM) (m : Nat) (hm : m = x.l.length)
    (hX : Rd w w.heap.size x.A x.l x.c) (hXf : Far w p iv x.A) (hXn : Frs W x.A) :
    Calls Tryd.prog 64 #[.pointer (some ⟨p, 0, none⟩), .agg #[.int .i64 x.k, .int .i64 x.f, .slice x.A m x.c]] w (GotT W p X room s (L ++ [x]) n A c) := by
  subst hm
  obtain ⟨c0, c1, c2, c3, c66, c67, c68⟩ := WB.cells h.sr
  obtain ⟨f0, f1, f2, f3, f67, f68⟩ := WB.froz h.sr
  have hlt := h.lt
  have HJ := keepd h
  have HX := keepd hX
  have HXf := keepd hXf
  have HXn := keepd hXn
  have HS := keepd h.below.size
  clear h hX hXf hXn
  go_enter Tryd.func64, Tryd.ntmps64
  go_wp2_with fail
  go_region_law (first | (refine step_appE _ rfl (.tmp 8) (.tmp 10) rfl W.heap.size iv L rfl ?_ (some ⟨w.heap.size + 1, 0, none⟩) 1 1 [x] rfl rfl ?_ ?_ ?_ ?_; (exact (HJ.out.owns.alloc _).alloc _); (exact one_rdE2 w _ x HX.out); (simp only [List.length_cons, List.length_nil]; omega); (have := HS.out; show W.heap.size ≤ ((w.alloc _).alloc _).heap.size; simp only [World.size_alloc]; omega); intro iv' w2 ho hg hat; obtain ⟨B2, e2, hiv⟩ := ho.form; subst hiv; have hb1 : Below w.heap.size w ((w.alloc (.cells #[.int .i64 x.k, .int .i64 x.f, .slice x.A x.l.length x.c] 69)).alloc (.cells #[.int .i64 x.k, .int .i64 x.f, .slice x.A x.l.length x.c] 69)).drew := (bAlloc (bAlloc (Below.refl _ _) _) _).drew; have q := come_sr HJ.out hb1 hg; obtain ⟨d0, d1, d2, d3, d66, d67, d68⟩ := WB.cells q; obtain ⟨g0, g1, g2, g3, g67, g68⟩ := WB.froz q; have HG := keepd (HJ.out.come hb1 HX.out HXf.out HXn.out ho hg hat); clear ho hg hat hb1 q; generalize (L ++ [x]).length = q at *))
  all_goals
    go_wp2
    go_end0
    exact ⟨rfl, _, HG.out⟩

theorem begin_any {W : World} {p : Nat} {X : Tb} {room : Int} {s : Ed} {L : List EvM} {n : Int} {w : World} {A : Option Addr} {c : Nat} {iv : Value} (h : WJ W p X room s L n w A c iv) :
    Calls Tryd.prog 65 #[.pointer (some ⟨p, 0, none⟩)] w (GotT W p X room zE L n none 0) := by
  obtain ⟨c0, c1, c2, c3, c66, c67, c68⟩ := WB.cells h.sr
  obtain ⟨f0, f1, f2, f3, f67, f68⟩ := WB.froz h.sr
  have hlt := h.lt
  have HG := keepd h.setZ
  clear h
  go_enter Tryd.func65, Tryd.ntmps65
  go_wp2
  go_end0
  exact ⟨rfl, iv, HG.out⟩

theorem goOn_any {W : World} {p : Nat} {X : Tb} {room : Int} {s : Ed} {L : List EvM} {n : Int} {w : World} {A : Option Addr} {c : Nat} {iv : Value} (h : WJ W p X room s L n w A c iv) :
    Calls Tryd.prog 68 #[.pointer (some ⟨p, 0, none⟩)] w (GotT W p X room ⟨s.l, s.t, s.ov, false⟩ L n A c) := by
  obtain ⟨c0, c1, c2, c3, c66, c67, c68⟩ := WB.cells h.sr
  obtain ⟨f0, f1, f2, f3, f67, f68⟩ := WB.froz h.sr
  have hlt := h.lt
  have HG := keepd (h.setI false)
  clear h
  go_enter Tryd.func68, Tryd.ntmps68
  go_wp2
  go_end0
  exact ⟨rfl, iv, HG.out⟩

end Go.Proofs.YtlfmbfecajhffaaDoor.Fr
/-
  Contracts of what an editor that works does: typeIn, signal. No conditions beyond those each theorem states.
-/
namespace Go.Proofs.YtlfmbfecajhffaaDoor.Fr
open Go.RowKit
set_option maxRecDepth 100000

attribute [local go_sem ↓] ex_ld25 ex_st25 ex_al25 ex_bu25 ex_ix25 ex_eq25 ex_ne25 ex_eq23 ex_ne23 ex_ld25o ex_st65 ex_al65 ex_bu65 ex_bu65s
attribute [local go_sem] ptrB_at okPtr_at aggC_at agg62 agg69 isC_at isT_at eqV_t eqV_c isRow_new isRow_new65 World.setRow_alloc_new ptr4_at okPtr4_at cutT_at isI_at isS_at bW_at bWs_at

/-- Its parts, in every world that has V's old memory. -/
theorem sW {V W : World} {p : Nat} {x0 x1 x2 x66 : Value} (k0 : V.cell? ⟨p, 0, none⟩ = some x0) (k1 : V.cell? ⟨p, 1, none⟩ = some x1) (k2 : V.cell? ⟨p, 2, none⟩ = some x2) (k66 : V.cell? ⟨p, 66, none⟩ = some x66) (hp : p < V.heap.size) (b : Below V.heap.size V W) :
    W.cell? ⟨p, 0, none⟩ = some x0 ∧ W.cell? ⟨p, 1, none⟩ = some x1 ∧ W.cell? ⟨p, 2, none⟩ = some x2 ∧ W.cell? ⟨p, 66, none⟩ = some x66 ∧ Below V.heap.size V W :=
  ⟨(b.cell (p := ⟨p, 0, none⟩) hp).trans k0, (b.cell (p := ⟨p, 1, none⟩) hp).trans k1, (b.cell (p := ⟨p, 2, none⟩) hp).trans k2, (b.cell (p := ⟨p, 66, none⟩) hp).trans k66, b⟩

/-- What is left of a key that is typed. -/
def GotY (W : World) (p : Nat) (X : Tb) (room : Int) (s : Ed) (L : List EvM) (n : Int) (iv : Value) (e : Ending) (w' : World) : Prop :=
  e = .returned (.tuple #[]) ∧ ∃ A c, WJ W p X room s L n w' A c iv

set_option maxHeartbeats 4000000 in
theorem typeIn_any {W : World} {p : Nat} {X : Tb} {room : Int} {s : Ed} {L : List EvM} {n : Int} {w : World} {A : Option Addr} {c : Nat} {iv : Value} (h : WJ W p X room s L n w A c iv) (hk : s.ok) (hn0 : 0 ≤ n) (hn1 : n ≤ 1000000) (u : UInt8) (s' : Ed) (n' : Int) (hs : (typE s room u).s = s') (hn : n + ((typE s room u).n : Int) = n') :
    Calls Tryd.prog 63 #[.pointer (some ⟨p, 0, none⟩), .int .u8 (u.toNat : Int)] w (GotY W p X room s' L n' iv) := by
  obtain ⟨l, t, ov, li⟩ := s
  obtain ⟨hk1, hk2⟩ := hk
  simp only at hk1 hk2
  unfold typE at hs hn
  simp only at hs hn
  obtain ⟨m, hm⟩ : ∃ m, m = l.length := ⟨_, rfl⟩
  obtain ⟨l1, t1, hd1⟩ : ∃ l1 t1, tyR l t room ov u = (l1, t1) := ⟨_, _, rfl⟩
  obtain ⟨d, hd⟩ : ∃ d, (tyL l t room ov u).isSome = d := ⟨_, rfl⟩
  obtain ⟨m1, hm1⟩ : ∃ m1, l1.length = m1 := ⟨_, rfl⟩
  rw [hd1] at hs
  rw [hd] at hn
  have HT := keepd fun (V : World) (hb : Below w.heap.size w V) => ty_go A l l1 m c t t1 m1 room ov u d V hm (h.rd.at_ hb) (by rw [hm]; exact hk2) (by rw [hm]; exact hk1) hd1 hd hm1
  have HJ := keepd h
  have q : WB w p A m c (t : Int) ov li X room iv n := by rw [hm]; exact h.sr
  obtain ⟨c0, c1, c2, c3, c66, c67, c68⟩ := WB.cells q
  obtain ⟨f0, f1, f2, f3, f67, f68⟩ := WB.froz q
  have hlt := h.lt
  have K0 := keepd c0
  have K1 := keepd c1
  have K2 := keepd c2
  have K66 := keepd c66
  have KT := keepd hlt
  have HS := keepd hs
  have HN := keepd hn
  have HM1 := keepd hm1
  clear h q hd1 hd hm1 hm hs hn hk1 hk2 c3 c67 c68 f0 f1 f2 f3 f67 f68
  go_enter Tryd.func63, Tryd.ntmps63
  go_upto_region 0 with fail
  go_cut [4, 5] from 6 to 25 (fun s4 s5 wx => ∃ (b4 : Nat) (B1 : Option Addr) (e1 : Nat), s4 = .pointer (some ⟨b4, 0, none⟩) ∧ s5 = .bool d ∧ Hid (Mid w b4 B1 m1 e1 l1 (t1 : Int) wx))
  case first =>
    go_region_held3 (fun W => W.cell? ⟨p, 0, none⟩ = some (.slice A m c) ∧ W.cell? ⟨p, 1, none⟩ = some (.int .i64 (t : Int)) ∧ W.cell? ⟨p, 2, none⟩ = some (.bool ov) ∧ W.cell? ⟨p, 66, none⟩ = some (.int .i64 room) ∧ Below w.heap.size w W)
      ((refine sW K0.out K1.out K2.out K66.out KT.out ?_; repeat (first | assumption | exact Below.refl _ _ | with_reducible refine Below.setCell ?_ (Nat.le_refl w.heap.size) _ | with_reducible refine bAlloc ?_ _ | with_reducible refine Below.drew ?_)))
      (first | (go_at_call 79; (with_reducible refine (HT.out _ ?_).mono ?_); (focus (repeat (first | assumption | exact Below.refl _ _ | with_reducible refine bAlloc ?_ _ | with_reducible refine Below.drew ?_))); rintro e w4 ⟨⟨B1, e1, rfl, ho⟩, hb4⟩; have hbb : Below w.heap.size w w4 := (by first | exact noDrew hb4 | exact upD hb4); (first | (have HMid := keepd (mid_b (z := (t1 : Int)) ho hb4); obtain ⟨m0, m1, m2, m3, lt⟩ := z_of hb4) | have HMid := keepd (mid_a (wr := w) (z := (t1 : Int)) ho (Nat.le_refl _) hbb)); clear ho))
    all_goals go_wp2_with fail
    all_goals go_meet
    all_goals exact ⟨_, _, _, rfl, rfl, HMid⟩
  case rest =>
    obtain ⟨b4, B1, e1, rfl, rfl, HMid⟩ := hcut
    obtain ⟨V3, hV3⟩ : ∃ V3, V3 = wc := ⟨_, rfl⟩
    subst hV3
    obtain ⟨h4, ho, hb⟩ := HMid.out
    have HL := keepd (HJ.out.setL (t' := t1) hb ho HM1.out)
    have hlt3 := (HJ.out.call hb).lt
    have q := (HJ.out.call hb).sr
    obtain ⟨c0, c1, c2, c3, c66, c67, c68⟩ := WB.cells q
    obtain ⟨f0, f1, f2, f3, f67, f68⟩ := WB.froz q
    obtain ⟨j0, j1, j2, j3, jt⟩ := line_facts h4
    clear h4 ho hb q c2 c3 c66 c67 c68 f2 f3 f67 f68 K0 K1 K2 K66 HMid HT
    go_upto_region 2 with fail
    generalize hV : (V3.setCell ⟨p, 0, none⟩ (.slice B1 m1 e1)).setCell ⟨p, 1, none⟩ (.int .i64 (t1 : Int)) = V at *
    obtain ⟨c0, c1, c2, c3, c66, c67, c68⟩ := WB.cells HL.out.sr
    obtain ⟨f0, f1, f2, f3, f67, f68⟩ := WB.froz HL.out.sr
    have hlt4 := HL.out.lt
    clear hV j0 j1 j2 j3 jt
    cases d
    · have hw : IntKind.i64.wrap (n + 1) = n + 1 := by rw [IntKind.wrap_i64]; omega
      go_wp2_with fail
      go_end0
      refine ⟨rfl, B1, e1, ?_⟩
      rw [← HS.out, ← HN.out]
      exact HL.out.setN (n + 1)
    · go_wp2_with fail
      go_end0
      refine ⟨rfl, B1, e1, ?_⟩
      rw [← HS.out, ← HN.out]
      show WJ W p X room _ L (n + 0) _ _ _ _
      rw [Int.add_zero]
      exact HL.out

end Go.Proofs.YtlfmbfecajhffaaDoor.Fr
/-
  The contract of a signal that is done. No conditions beyond those each theorem states.
-/
namespace Go.Proofs.YtlfmbfecajhffaaDoor.Fr
open Go.RowKit
set_option maxRecDepth 100000

attribute [local go_sem ↓] ex_ld25 ex_st25 ex_al25 ex_bu25 ex_ix25 ex_eq25 ex_ne25 ex_eq23 ex_ne23 ex_ld25o ex_st65 ex_al65 ex_bu65 ex_bu65s
attribute [local go_sem] ptrB_at okPtr_at aggC_at agg62 agg69 isC_at isT_at eqV_t eqV_c isRow_new isRow_new65 World.setRow_alloc_new ptr4_at okPtr4_at cutT_at isI_at isS_at bW_at bWs_at

/-- What a signal leaves. -/
def GotS (W : World) (p : Nat) (X : Tb) (room : Int) (s : Ed) (L : List EvM) (v : Ev) (n : Int) (e : Ending) (w' : World) : Prop :=
  e = .returned (.tuple #[]) ∧ ∃ A c iv x, x.abs = v ∧ WJ W p X room s (L ++ [x]) n w' A c iv
theorem told_new (w : World) (a b d : Value) (V : World) (hV : w.alloc (.cells #[a, b, d] 69) = V) : Hid (SR 69 V w.heap.size [a, b, d]) ∧ Hid (Below w.heap.size w V) := by
  subst hV
  exact ⟨heap_alloc_new w _, bAlloc (Below.refl _ _) _⟩
theorem told_facts {V : World} {g : Nat} {a b d : Value} (H : SR 69 V g [a, b, d]) : V.cell? ⟨g, 0, none⟩ = some a ∧ V.cell? ⟨g, 1, none⟩ = some b ∧ V.cell? ⟨g, 2, none⟩ = some d ∧ V.frozen? ⟨g, 0, none⟩ = false ∧ V.frozen? ⟨g, 1, none⟩ = false ∧ V.frozen? ⟨g, 2, none⟩ = false ∧ g < V.heap.size :=
  ⟨H.cell 0, H.cell 1, H.cell 2, H.frozen 0, H.frozen 1, H.frozen 2, H.lt⟩
theorem told_set {w V : World} {g : Nat} {a b d a' b' d' : Value} (hg : w.heap.size ≤ g) (H : SR 69 V g [a, b, d]) (hb : Below w.heap.size w V) (V' : World) (hV : ((V.setCell ⟨g, 0, none⟩ a').setCell ⟨g, 1, none⟩ b').setCell ⟨g, 2, none⟩ d' = V') :
    Hid (SR 69 V' g [a', b', d']) ∧ Hid (Below w.heap.size w V') := by
  subst hV
  exact ⟨((H.set 0 a').set 1 b').set 2 d', ((hb.setCell (p := ⟨g, 0, none⟩) hg _).setCell (p := ⟨g, 1, none⟩) hg _).setCell (p := ⟨g, 2, none⟩) hg _⟩

set_option maxHeartbeats 4000000 in
theorem signal_any {W : World} {p : Nat} {X : Tb} {room : Int} {s : Ed} {L : List EvM} {n : Int} {w : World} {A : Option Addr} {c : Nat} {iv : Value} (h : WJ W p X room s L n w A c iv) (hL : L.length ≤ 100000) (f : Int) :
    Calls Tryd.prog 47 #[.pointer (some ⟨p, 0, none⟩), .int .i64 f] w (GotS W p X room (sigS s f) L (sigV s f) n) := by
  have hmf : ∀ (fn : Fn) (first cap : Array Value) (w : World), (Instr.makeFunc fn first cap).run Tryd.prog w = .ok (.func fn first cap) w := fun _ _ _ _ => rfl
  obtain ⟨m, hm⟩ : ∃ m, m = s.l.length := ⟨_, rfl⟩
  have HM := keepd hm
  have HJ := keepd h
  have hlt := h.lt
  clear h
  go_enter Tryd.func47, Tryd.ntmps47
  go_upto_region 1 with fail
  generalize hV : w.alloc (.cells #[.int .i64 3, .int .i64 f, .slice none 0 0] 69) = V
  obtain ⟨H4, HB4⟩ := told_new _ _ _ _ _ hV
  obtain ⟨t0, t1, t2, r0, r1, r2, rl⟩ := told_facts H4.out
  have HJ4 := keepd (HJ.out.call HB4.out)
  have q : WB V p A m c (s.t : Int) s.ov s.li X room iv n := by rw [hm]; exact HJ4.out.sr
  obtain ⟨c0, c1, c2, c3, c66, c67, c68⟩ := WB.cells q
  have hlt4 := HJ4.out.lt
  clear hV q hlt c1 c2 c3 c66 c67 c68 hm
  have HTS := keepd fun (V : World) (hj : WJ W p X room s L n V A c iv) => tell_any hj hL ⟨3, f, none, [], 0⟩ 0 rfl (Rd.nil _ _) (Far.nil _ _ _) (Frs.nil _)
  by_cases h4 : f = 4
  · subst h4
    clear hL
    go_wp2_with fail
    with_reducible refine (HTS.out _ HJ4.out).mono ?_
    rintro e w5 ⟨rfl, iv5, hj5⟩
    have HE := keepd (goOn_any hj5)
    clear hj5
    go_wp2_with fail
    with_reducible refine HE.out.mono ?_
    rintro e w6 ⟨rfl, iv6, hj6⟩
    have HJ6 := keepd hj6
    clear hj6
    go_wp2
    go_end0
    refine ⟨rfl, A, c, iv6, ⟨3, 4, none, [], 0⟩, ?_, ?_⟩
    · rfl
    · exact HJ6.out
  by_cases h5 : f = 5
  · subst h5
    clear hL
    go_wp2_with fail
    with_reducible refine (HTS.out _ HJ4.out).mono ?_
    rintro e w5 ⟨rfl, iv5, hj5⟩
    have HE := keepd (goOn_any hj5)
    clear hj5
    go_wp2_with fail
    with_reducible refine HE.out.mono ?_
    rintro e w6 ⟨rfl, iv6, hj6⟩
    have HJ6 := keepd hj6
    clear hj6
    go_wp2
    go_end0
    refine ⟨rfl, A, c, iv6, ⟨3, 5, none, [], 0⟩, ?_, ?_⟩
    · rfl
    · exact HJ6.out
  by_cases h6 : f = 6
  · subst h6
    clear hL
    go_wp2_with fail
    with_reducible refine (HTS.out _ HJ4.out).mono ?_
    rintro e w5 ⟨rfl, iv5, hj5⟩
    have HE := keepd (goOn_any hj5)
    clear hj5
    go_wp2_with fail
    with_reducible refine HE.out.mono ?_
    rintro e w6 ⟨rfl, iv6, hj6⟩
    have HJ6 := keepd hj6
    clear hj6
    go_wp2
    go_end0
    refine ⟨rfl, A, c, iv6, ⟨3, 6, none, [], 0⟩, ?_, ?_⟩
    · rfl
    · exact HJ6.out
  have g4 : (f == 4) = false := by simpa using h4
  have g5 : (f == 5) = false := by simpa using h5
  have g6 : (f == 6) = false := by simpa using h6
  by_cases h8 : f = 8
  · subst h8
    by_cases hz : m = 0
    · subst hz
      have HZ : Hid (s.l = []) := List.eq_nil_of_length_eq_zero HM.out.symm
      clear hL
      go_wp2_with fail
      with_reducible refine (HTS.out _ HJ4.out).mono ?_
      rintro e w5 ⟨rfl, iv5, hj5⟩
      have HE := keepd (begin_any hj5)
      clear hj5
      go_wp2_with fail
      with_reducible refine HE.out.mono ?_
      rintro e w6 ⟨rfl, iv6, hj6⟩
      have HJ6 := keepd hj6
      clear hj6
      go_wp2
      go_end0
      refine ⟨rfl, none, 0, iv6, ⟨3, 8, none, [], 0⟩, ?_, ?_⟩
      · show _ = sigV s 8
        rw [show sigV s 8 = ⟨3, 8, []⟩ from if_neg (fun e => e.2 HZ.out)]
        rfl
      · exact HJ6.out
    · have z0 : 0 < m := by omega
      have z1 : (m : Int) > 0 := by omega
      have z2 : (0 : Int) < (m : Int) := by omega
      have HZ : Hid (¬ s.l = []) := by
        intro e
        rw [e] at HM
        exact hz HM.out
      have HTP := keepd fun (V : World) (hj : WJ W p X room s L n V A c iv) => tell_any hj hL ⟨2, 0, A, s.l, c⟩ m HM.out hj.rd hj.fr hj.fa
      clear hL
      go_upto_region 9 with fail
      generalize hV : ((V.setCell ⟨w.heap.size, 0, none⟩ (.int .i64 2)).setCell ⟨w.heap.size, 1, none⟩ (.int .i64 0)).setCell ⟨w.heap.size, 2, none⟩ (.slice A m c) = V2
      obtain ⟨H5, HB5⟩ := told_set (Nat.le_refl _) H4.out HB4.out _ hV
      obtain ⟨t0, t1, t2, r0, r1, r2, rl⟩ := told_facts H5.out
      have HJ5 := keepd (HJ.out.call HB5.out)
      clear hV
      go_wp2_with fail
      with_reducible refine (HTP.out _ HJ5.out).mono ?_
      rintro e w5 ⟨rfl, iv5, hj5⟩
      have HE := keepd (begin_any hj5)
      clear hj5
      go_wp2_with fail
      with_reducible refine HE.out.mono ?_
      rintro e w6 ⟨rfl, iv6, hj6⟩
      have HJ6 := keepd hj6
      clear hj6
      go_wp2
      go_end0
      refine ⟨rfl, none, 0, iv6, ⟨2, 0, A, s.l, c⟩, ?_, ?_⟩
      · show _ = sigV s 8
        rw [show sigV s 8 = ⟨2, 0, s.l⟩ from if_pos ⟨rfl, HZ.out⟩]
        rfl
      · exact HJ6.out
  · have g8 : (f == 8) = false := by simpa using h8
    have HN8 := keepd h8
    clear h8
    clear hL
    go_wp2_with fail
    with_reducible refine (HTS.out _ HJ4.out).mono ?_
    rintro e w5 ⟨rfl, iv5, hj5⟩
    have HE := keepd (begin_any hj5)
    clear hj5
    go_wp2_with fail
    with_reducible refine HE.out.mono ?_
    rintro e w6 ⟨rfl, iv6, hj6⟩
    have HJ6 := keepd hj6
    clear hj6
    go_wp2
    go_end0
    refine ⟨rfl, none, 0, iv6, ⟨3, f, none, [], 0⟩, ?_, ?_⟩
    · show _ = sigV s f
      rw [show sigV s f = ⟨3, f, []⟩ from if_neg (fun e => HN8.out e.1)]
      rfl
    · rw [show sigS s f = zE by simp [sigS, stays, h4, h5, h6]]
      exact HJ6.out

end Go.Proofs.YtlfmbfecajhffaaDoor.Fr
