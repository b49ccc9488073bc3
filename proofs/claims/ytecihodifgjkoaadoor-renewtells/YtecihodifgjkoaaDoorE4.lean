/-
  Contracts of what an editor that works does: tell, beginAnew, goOn. No conditions beyond those each theorem states.
-/
import Derived.Test.YtecihodifgjkoaaDoorE3
namespace Go.Proofs.YtecihodifgjkoaaDoor
open Go.RowKit
set_option maxRecDepth 100000

attribute [local go_sem ↓] ex_ld25 ex_st25 ex_al25 ex_bu25 ex_ix25 ex_eq25 ex_ne25 ex_eq23 ex_ne23 ex_ld25o ex_st65 ex_al65 ex_bu65 ex_bu65s
attribute [local go_sem] ptrB_at okPtr_at aggC_at agg62 agg69 isC_at isT_at eqV_t eqV_c isRow_new isRow_new65 World.setRow_alloc_new ptr4_at okPtr4_at cutT_at isI_at isS_at bW_at bWs_at

/-- The event is told. -/
def GotT (W : World) (p : Nat) (X : Tb) (room : Int) (s : Ed) (L : List EvM) (n : Int) (A : Option Addr) (c : Nat) (e : Ending) (w' : World) : Prop :=
  e = .returned (.tuple #[]) ∧ ∃ iv, WJ W p X room s L n w' A c iv

set_option maxHeartbeats 2000000 in
theorem tell_any {W : World} {p : Nat} {X : Tb} {room : Int} {s : Ed} {L : List EvM} {n : Int} {w : World} {A : Option Addr} {c : Nat} {iv : Value} (h : WJ W p X room s L n w A c iv) (hL : L.length ≤ 100000) (x : EvM) (m : Nat) (hm : m = x.l.length)
    (hX : Rd w w.heap.size x.A x.l x.c) (hXf : Far w p iv x.A) :
    Calls Tryd.prog 49 #[.pointer (some ⟨p, 0, none⟩), .agg #[.int .i64 x.k, .int .i64 x.f, .slice x.A m x.c]] w (GotT W p X room s (L ++ [x]) n A c) := by
  subst hm
  obtain ⟨c0, c1, c2, c3, c66, c67, c68⟩ := WB.cells h.sr
  obtain ⟨f0, f1, f2, f3, f67, f68⟩ := WB.froz h.sr
  have hlt := h.lt
  have HJ := keepd h
  have HX := keepd hX
  have HXf := keepd hXf
  have HS := keepd h.below.size
  clear h hX hXf
  go_enter Tryd.func49, Tryd.ntmps49
  go_wp2_with fail
  go_region_law (first | (refine step_appE _ rfl (.tmp 8) (.tmp 10) rfl W.heap.size iv L rfl ?_ (some ⟨w.heap.size + 1, 0, none⟩) 1 1 [x] rfl rfl ?_ ?_ ?_ ?_; (exact (HJ.out.owns.alloc _).alloc _); (exact one_rdE2 w _ x HX.out); (simp only [List.length_cons, List.length_nil]; omega); (have := HS.out; show W.heap.size ≤ ((w.alloc _).alloc _).heap.size; simp only [World.size_alloc]; omega); intro iv' w2 ho hg hat; obtain ⟨B2, e2, hiv⟩ := ho.form; subst hiv; have hb1 : Below w.heap.size w ((w.alloc (.cells #[.int .i64 x.k, .int .i64 x.f, .slice x.A x.l.length x.c] 67)).alloc (.cells #[.int .i64 x.k, .int .i64 x.f, .slice x.A x.l.length x.c] 67)).drew := (bAlloc (bAlloc (Below.refl _ _) _) _).drew; have q := come_sr HJ.out hb1 hg; obtain ⟨d0, d1, d2, d3, d66, d67, d68⟩ := WB.cells q; obtain ⟨g0, g1, g2, g3, g67, g68⟩ := WB.froz q; have HG := keepd (HJ.out.come hb1 HX.out HXf.out ho hg hat); clear ho hg hat hb1 q; generalize (L ++ [x]).length = q at *))
  all_goals
    go_wp2
    go_end0
    exact ⟨rfl, _, HG.out⟩

theorem begin_any {W : World} {p : Nat} {X : Tb} {room : Int} {s : Ed} {L : List EvM} {n : Int} {w : World} {A : Option Addr} {c : Nat} {iv : Value} (h : WJ W p X room s L n w A c iv) :
    Calls Tryd.prog 50 #[.pointer (some ⟨p, 0, none⟩)] w (GotT W p X room zE L n none 0) := by
  obtain ⟨c0, c1, c2, c3, c66, c67, c68⟩ := WB.cells h.sr
  obtain ⟨f0, f1, f2, f3, f67, f68⟩ := WB.froz h.sr
  have hlt := h.lt
  have HG := keepd h.setZ
  clear h
  go_enter Tryd.func50, Tryd.ntmps50
  go_wp2
  go_end0
  exact ⟨rfl, iv, HG.out⟩

theorem goOn_any {W : World} {p : Nat} {X : Tb} {room : Int} {s : Ed} {L : List EvM} {n : Int} {w : World} {A : Option Addr} {c : Nat} {iv : Value} (h : WJ W p X room s L n w A c iv) :
    Calls Tryd.prog 56 #[.pointer (some ⟨p, 0, none⟩)] w (GotT W p X room ⟨s.l, s.t, s.ov, false⟩ L n A c) := by
  obtain ⟨c0, c1, c2, c3, c66, c67, c68⟩ := WB.cells h.sr
  obtain ⟨f0, f1, f2, f3, f67, f68⟩ := WB.froz h.sr
  have hlt := h.lt
  have HG := keepd (h.setI false)
  clear h
  go_enter Tryd.func56, Tryd.ntmps56
  go_wp2
  go_end0
  exact ⟨rfl, iv, HG.out⟩

end Go.Proofs.YtecihodifgjkoaaDoor
