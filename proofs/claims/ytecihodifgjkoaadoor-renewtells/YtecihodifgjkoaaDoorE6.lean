/-
  The contract of a signal that is done. No conditions beyond those each theorem states.
-/
import Derived.Test.YtecihodifgjkoaaDoorE5
namespace Go.Proofs.YtecihodifgjkoaaDoor
open Go.RowKit
set_option maxRecDepth 100000

attribute [local go_sem ↓] ex_ld25 ex_st25 ex_al25 ex_bu25 ex_ix25 ex_eq25 ex_ne25 ex_eq23 ex_ne23 ex_ld25o ex_st65 ex_al65 ex_bu65 ex_bu65s
attribute [local go_sem] ptrB_at okPtr_at aggC_at agg62 agg69 isC_at isT_at eqV_t eqV_c isRow_new isRow_new65 World.setRow_alloc_new ptr4_at okPtr4_at cutT_at isI_at isS_at bW_at bWs_at

/-- What a signal leaves. -/
def GotS (W : World) (p : Nat) (X : Tb) (room : Int) (s : Ed) (L : List EvM) (v : Ev) (n : Int) (e : Ending) (w' : World) : Prop :=
  e = .returned (.tuple #[]) ∧ ∃ A c iv x, x.abs = v ∧ WJ W p X room s (L ++ [x]) n w' A c iv
theorem told_new (w : World) (a b d : Value) (V : World) (hV : w.alloc (.cells #[a, b, d] 67) = V) : Hid (SR 67 V w.heap.size [a, b, d]) ∧ Hid (Below w.heap.size w V) := by
  subst hV
  exact ⟨heap_alloc_new w _, bAlloc (Below.refl _ _) _⟩
theorem told_facts {V : World} {g : Nat} {a b d : Value} (H : SR 67 V g [a, b, d]) : V.cell? ⟨g, 0, none⟩ = some a ∧ V.cell? ⟨g, 1, none⟩ = some b ∧ V.cell? ⟨g, 2, none⟩ = some d ∧ V.frozen? ⟨g, 0, none⟩ = false ∧ V.frozen? ⟨g, 1, none⟩ = false ∧ V.frozen? ⟨g, 2, none⟩ = false ∧ g < V.heap.size :=
  ⟨H.cell 0, H.cell 1, H.cell 2, H.frozen 0, H.frozen 1, H.frozen 2, H.lt⟩
theorem told_set {w V : World} {g : Nat} {a b d a' b' d' : Value} (hg : w.heap.size ≤ g) (H : SR 67 V g [a, b, d]) (hb : Below w.heap.size w V) (V' : World) (hV : ((V.setCell ⟨g, 0, none⟩ a').setCell ⟨g, 1, none⟩ b').setCell ⟨g, 2, none⟩ d' = V') :
    Hid (SR 67 V' g [a', b', d']) ∧ Hid (Below w.heap.size w V') := by
  subst hV
  exact ⟨((H.set 0 a').set 1 b').set 2 d', ((hb.setCell (p := ⟨g, 0, none⟩) hg _).setCell (p := ⟨g, 1, none⟩) hg _).setCell (p := ⟨g, 2, none⟩) hg _⟩

set_option maxHeartbeats 4000000 in
theorem signal_any {W : World} {p : Nat} {X : Tb} {room : Int} {s : Ed} {L : List EvM} {n : Int} {w : World} {A : Option Addr} {c : Nat} {iv : Value} (h : WJ W p X room s L n w A c iv) (hL : L.length ≤ 100000) (f : Int) :
    Calls Tryd.prog 48 #[.pointer (some ⟨p, 0, none⟩), .int .i64 f] w (GotS W p X room (sigS s f) L (sigV s f) n) := by
  have hmf : ∀ (fn : Fn) (first cap : Array Value) (w : World), (Instr.makeFunc fn first cap).run Tryd.prog w = .ok (.func fn first cap) w := fun _ _ _ _ => rfl
  obtain ⟨m, hm⟩ : ∃ m, m = s.l.length := ⟨_, rfl⟩
  have HM := keepd hm
  have HJ := keepd h
  have hlt := h.lt
  clear h
  go_enter Tryd.func48, Tryd.ntmps48
  go_upto_region 1 with fail
  generalize hV : w.alloc (.cells #[.int .i64 3, .int .i64 f, .slice none 0 0] 67) = V
  obtain ⟨H4, HB4⟩ := told_new _ _ _ _ _ hV
  obtain ⟨t0, t1, t2, r0, r1, r2, rl⟩ := told_facts H4.out
  have HJ4 := keepd (HJ.out.call HB4.out)
  have q : WB V p A m c (s.t : Int) s.ov s.li X room iv n := by rw [hm]; exact HJ4.out.sr
  obtain ⟨c0, c1, c2, c3, c66, c67, c68⟩ := WB.cells q
  have hlt4 := HJ4.out.lt
  clear hV q hlt c1 c2 c3 c66 c67 c68 hm
  have HTS := keepd fun (V : World) (hj : WJ W p X room s L n V A c iv) => tell_any hj hL ⟨3, f, none, [], 0⟩ 0 rfl (Rd.nil _ _) (Far.nil _ _ _)
  by_cases h4 : f = 4
  · subst h4
    clear hL
    go_wp2_with fail
    with_reducible refine (HTS.out _ HJ4.out).mono ?_
    rintro e w5 ⟨rfl, iv5, hj5⟩
    have HE := keepd (goOn_any hj5)
    clear hj5
    go_wp2_with fail
    with_reducible refine HE.out.mono ?_
    rintro e w6 ⟨rfl, iv6, hj6⟩
    have HJ6 := keepd hj6
    clear hj6
    go_wp2
    go_end0
    refine ⟨rfl, A, c, iv6, ⟨3, 4, none, [], 0⟩, ?_, ?_⟩
    · rfl
    · exact HJ6.out
  by_cases h5 : f = 5
  · subst h5
    clear hL
    go_wp2_with fail
    with_reducible refine (HTS.out _ HJ4.out).mono ?_
    rintro e w5 ⟨rfl, iv5, hj5⟩
    have HE := keepd (goOn_any hj5)
    clear hj5
    go_wp2_with fail
    with_reducible refine HE.out.mono ?_
    rintro e w6 ⟨rfl, iv6, hj6⟩
    have HJ6 := keepd hj6
    clear hj6
    go_wp2
    go_end0
    refine ⟨rfl, A, c, iv6, ⟨3, 5, none, [], 0⟩, ?_, ?_⟩
    · rfl
    · exact HJ6.out
  by_cases h6 : f = 6
  · subst h6
    clear hL
    go_wp2_with fail
    with_reducible refine (HTS.out _ HJ4.out).mono ?_
    rintro e w5 ⟨rfl, iv5, hj5⟩
    have HE := keepd (goOn_any hj5)
    clear hj5
    go_wp2_with fail
    with_reducible refine HE.out.mono ?_
    rintro e w6 ⟨rfl, iv6, hj6⟩
    have HJ6 := keepd hj6
    clear hj6
    go_wp2
    go_end0
    refine ⟨rfl, A, c, iv6, ⟨3, 6, none, [], 0⟩, ?_, ?_⟩
    · rfl
    · exact HJ6.out
  have g4 : (f == 4) = false := by simpa using h4
  have g5 : (f == 5) = false := by simpa using h5
  have g6 : (f == 6) = false := by simpa using h6
  by_cases h8 : f = 8
  · subst h8
    by_cases hz : m = 0
    · subst hz
      have HZ : Hid (s.l = []) := List.eq_nil_of_length_eq_zero HM.out.symm
      clear hL
      go_wp2_with fail
      with_reducible refine (HTS.out _ HJ4.out).mono ?_
      rintro e w5 ⟨rfl, iv5, hj5⟩
      have HE := keepd (begin_any hj5)
      clear hj5
      go_wp2_with fail
      with_reducible refine HE.out.mono ?_
      rintro e w6 ⟨rfl, iv6, hj6⟩
      have HJ6 := keepd hj6
      clear hj6
      go_wp2
      go_end0
      refine ⟨rfl, none, 0, iv6, ⟨3, 8, none, [], 0⟩, ?_, ?_⟩
      · show _ = sigV s 8
        rw [show sigV s 8 = ⟨3, 8, []⟩ from if_neg (fun e => e.2 HZ.out)]
        rfl
      · exact HJ6.out
    · have z0 : 0 < m := by omega
      have z1 : (m : Int) > 0 := by omega
      have z2 : (0 : Int) < (m : Int) := by omega
      have HZ : Hid (¬ s.l = []) := by
        intro e
        rw [e] at HM
        exact hz HM.out
      have HTP := keepd fun (V : World) (hj : WJ W p X room s L n V A c iv) => tell_any hj hL ⟨2, 0, A, s.l, c⟩ m HM.out hj.rd hj.fr
      clear hL
      go_upto_region 9 with fail
      generalize hV : ((V.setCell ⟨w.heap.size, 0, none⟩ (.int .i64 2)).setCell ⟨w.heap.size, 1, none⟩ (.int .i64 0)).setCell ⟨w.heap.size, 2, none⟩ (.slice A m c) = V2
      obtain ⟨H5, HB5⟩ := told_set (Nat.le_refl _) H4.out HB4.out _ hV
      obtain ⟨t0, t1, t2, r0, r1, r2, rl⟩ := told_facts H5.out
      have HJ5 := keepd (HJ.out.call HB5.out)
      clear hV
      go_wp2_with fail
      with_reducible refine (HTP.out _ HJ5.out).mono ?_
      rintro e w5 ⟨rfl, iv5, hj5⟩
      have HE := keepd (begin_any hj5)
      clear hj5
      go_wp2_with fail
      with_reducible refine HE.out.mono ?_
      rintro e w6 ⟨rfl, iv6, hj6⟩
      have HJ6 := keepd hj6
      clear hj6
      go_wp2
      go_end0
      refine ⟨rfl, none, 0, iv6, ⟨2, 0, A, s.l, c⟩, ?_, ?_⟩
      · show _ = sigV s 8
        rw [show sigV s 8 = ⟨2, 0, s.l⟩ from if_pos ⟨rfl, HZ.out⟩]
        rfl
      · exact HJ6.out
  · have g8 : (f == 8) = false := by simpa using h8
    have HN8 := keepd h8
    clear h8
    clear hL
    go_wp2_with fail
    with_reducible refine (HTS.out _ HJ4.out).mono ?_
    rintro e w5 ⟨rfl, iv5, hj5⟩
    have HE := keepd (begin_any hj5)
    clear hj5
    go_wp2_with fail
    with_reducible refine HE.out.mono ?_
    rintro e w6 ⟨rfl, iv6, hj6⟩
    have HJ6 := keepd hj6
    clear hj6
    go_wp2
    go_end0
    refine ⟨rfl, none, 0, iv6, ⟨3, f, none, [], 0⟩, ?_, ?_⟩
    · show _ = sigV s f
      rw [show sigV s f = ⟨3, f, []⟩ from if_neg (fun e => HN8.out e.1)]
      rfl
    · rw [show sigS s f = zE by simp [sigS, stays, h4, h5, h6]]
      exact HJ6.out

end Go.Proofs.YtecihodifgjkoaaDoor
