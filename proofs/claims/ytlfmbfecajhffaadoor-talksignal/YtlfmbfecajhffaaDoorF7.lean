/-
  What a key does, of an editor whose octets lie in no block that was there. No conditions beyond those each theorem states.
-/
import Derived.Test.YtlfmbfecajhffaaDoorF4
import Derived.Test.YtlfmbfecajhffaaDoorE7
namespace Go.Proofs.YtlfmbfecajhffaaDoor.Fr
open Go.RowKit
set_option maxRecDepth 100000

attribute [local go_sem ↓] ex_ld25 ex_st25 ex_al25 ex_bu25 ex_ix25 ex_eq25 ex_ne25 ex_eq23 ex_ne23 ex_ld25o ex_st65 ex_al65 ex_bu65 ex_bu65s
attribute [local go_sem] ptrB_at okPtr_at aggC_at agg62 agg69 isC_at isT_at eqV_t eqV_c isRow_new isRow_new65 World.setRow_alloc_new ptr4_at okPtr4_at cutT_at isI_at isS_at bW_at bWs_at

theorem isSignal_any (f : Int) (b : Bool) (hb : isSig f = b) (w : World) : Calls Tryd.prog 46 #[.int .i64 f] w fun e w' => e = .returned (.bool b) ∧ w' = w := by
  subst hb
  unfold isSig
  by_cases h1 : 1 ≤ f
  · by_cases h2 : f ≤ 9
    · have e : decide (1 ≤ f ∧ f ≤ 9) = true := by simp [h1, h2]
      have a1 : f ≥ 1 := h1
      rw [e]
      go_enter Tryd.func46, Tryd.ntmps46
      go_wp2_with fail
      go_ret
      exact ⟨rfl, rfl⟩
    · have e : decide (1 ≤ f ∧ f ≤ 9) = false := by simp [h2]
      have a1 : f ≥ 1 := h1
      have a2 : 9 < f := by omega
      rw [e]
      go_enter Tryd.func46, Tryd.ntmps46
      go_wp2_with fail
      go_ret
      exact ⟨rfl, rfl⟩
  · have e : decide (1 ≤ f ∧ f ≤ 9) = false := by simp [h1]
    have a1 : ¬ f ≥ 1 := by omega
    have a2 : f < 1 := by omega
    rw [e]
    go_enter Tryd.func46, Tryd.ntmps46
    go_wp2_with fail
    go_ret
    exact ⟨rfl, rfl⟩

/-- An editor that works, whatever lies where. -/
def WI (W : World) (p : Nat) (X : Tb) (room : Int) (s : Ed) (es : List Ev) (n : Int) (w : World) : Prop := ∃ A c iv L, L.map EvM.abs = es ∧ WJ W p X room s L n w A c iv
def GotK (W : World) (p : Nat) (X : Tb) (room : Int) (r : Res) (es : List Ev) (n : Int) (e : Ending) (w' : World) : Prop :=
  e = .returned (.tuple #[]) ∧ WI W p X room r.s (es ++ r.es) (n + (r.n : Int)) w'

theorem gotk_0 {W : World} {p : Nat} {X : Tb} {room : Int} {s : Ed} {L : List EvM} {n : Int} {w : World} {A : Option Addr} {c : Nat} {iv : Value} {es : List Ev} (hm : L.map EvM.abs = es) (h : WJ W p X room s L n w A c iv) : GotK W p X room ⟨s, [], 0⟩ es n (.returned (.tuple #[])) w :=
  ⟨rfl, A, c, iv, L, by rw [hm]; simp, by show WJ W p X room s L (n + 0) w A c iv; rw [Int.add_zero]; exact h⟩
theorem gotk_1 {W : World} {p : Nat} {X : Tb} {room : Int} {s : Ed} {L : List EvM} {n : Int} {w : World} {A : Option Addr} {c : Nat} {iv : Value} {es : List Ev} {x : EvM} {v : Ev} (hm : L.map EvM.abs = es) (hx : x.abs = v) (h : WJ W p X room s (L ++ [x]) n w A c iv) : GotK W p X room ⟨s, [v], 0⟩ es n (.returned (.tuple #[])) w :=
  ⟨rfl, A, c, iv, L ++ [x], by rw [List.map_append, hm, List.map_cons, hx]; rfl, by show WJ W p X room s (L ++ [x]) (n + 0) w A c iv; rw [Int.add_zero]; exact h⟩

/-- typeIn, as one of the ways of a key. -/
theorem typeK {W : World} {p : Nat} {X : Tb} {room : Int} {s : Ed} {L : List EvM} {n : Int} {w : World} {A : Option Addr} {c : Nat} {iv : Value} {es : List Ev} (hm : L.map EvM.abs = es) (h : WJ W p X room s L n w A c iv) (hk : s.ok) (hn0 : 0 ≤ n) (hn1 : n ≤ 1000000) (u : UInt8) :
    Calls Tryd.prog 63 #[.pointer (some ⟨p, 0, none⟩), .int .u8 (u.toNat : Int)] w (GotK W p X room (typE s room u) es n) := by
  refine (typeIn_any h hk hn0 hn1 u _ _ rfl rfl).mono ?_
  rintro e w' ⟨rfl, A', c', hj⟩
  refine ⟨rfl, A', c', iv, L, ?_, hj⟩
  rw [hm]
  simp [typE]
theorem signalK {W : World} {p : Nat} {X : Tb} {room : Int} {s : Ed} {L : List EvM} {n : Int} {w : World} {A : Option Addr} {c : Nat} {iv : Value} {es : List Ev} (hm : L.map EvM.abs = es) (h : WJ W p X room s L n w A c iv) (hL : L.length ≤ 100000) (f : Int) :
    Calls Tryd.prog 47 #[.pointer (some ⟨p, 0, none⟩), .int .i64 f] w (GotK W p X room (sigE s f) es n) := by
  refine (signal_any h hL f).mono ?_
  rintro e w' ⟨rfl, A', c', iv', x, hx, hj⟩
  exact gotk_1 hm hx hj

set_option maxHeartbeats 8000000 in
theorem ekey_any {W : World} {p : Nat} {X : Tb} {room : Int} {s : Ed} {es : List Ev} {n : Int} {w : World} (h : WI W p X room s es n w) (hk : s.ok) (hL : es.length ≤ 100000) (hn0 : 0 ≤ n) (hn1 : n ≤ 1000000) (u : UInt8) :
    Calls Tryd.prog 42 #[.pointer (some ⟨p, 0, none⟩), .int .u8 (u.toNat : Int)] w (GotK W p X room (keyE X room s u) es n) := by
  obtain ⟨A, c, iv, L, hm, h⟩ := h
  have hL2 : L.length ≤ 100000 := by rw [← hm, List.length_map] at hL; exact hL
  obtain ⟨k, hkl⟩ : ∃ k, k = s.l.length := ⟨_, rfl⟩
  have q : WB w p A k c (s.t : Int) s.ov s.li X room iv n := by rw [hkl]; exact h.sr
  obtain ⟨c0, c1, c2, c3, c66, c67, c68⟩ := WB.cells q
  obtain ⟨f0, f1, f2, f3, f67, f68⟩ := WB.froz q
  have hlt := h.lt
  have HM := keepd hm
  have HKL := keepd hkl
  have HOK := keepd hk
  cases hli : s.li
  case true =>
    have e1 : keyE X room s u = typE { s with li := false } room u := by unfold keyE; rw [hli]; rfl
    rw [e1]
    rw [hli] at c3
    have HT := keepd (typeK hm (h.setI false) (s := ⟨s.l, s.t, s.ov, false⟩) hk hn0 hn1 u)
    clear h q hm hkl hk hL hL2 e1
    go_enter Tryd.func42, Tryd.ntmps42
    go_wp2_with fail
    with_reducible refine HT.out.mono ?_
    rintro e w3 ⟨rfl, H⟩
    have HH := keepd H
    clear H
    go_wp2
    go_end0
    exact ⟨rfl, HH.out⟩
  case false =>
    rw [hli] at c3
    obtain ⟨m, hme⟩ : ∃ m, meanF X (u.toNat : Int) = m := ⟨_, rfl⟩
    obtain ⟨z, hz⟩ : ∃ z : Int, (m : Int) = z := ⟨_, rfl⟩
    have ha : keyE X room s u = actE z room s u := by unfold keyE; rw [hli, hme, hz]; rfl
    rw [ha]
    have HME := keepd (meaning_any X (u.toNat : Int) m hme w)
    rw [hz] at HME
    obtain ⟨r1, r2⟩ := WB.facts q
    have HJ := keepd h
    have HZ := keepd hz
    have HL := keepd hli
    clear h q hm hkl hk hL ha hme hz c0 c1 c2 c66 c67 c68 f0 f1 f2 f3 f67 f68 hli
    go_enter Tryd.func42, Tryd.ntmps42
    go_upto_region 4 with (with_reducible refine HME.out.mono ?_; rintro e w2 ⟨rfl, hb2⟩; have HJ2 := keepd (HJ.out.call hb2); clear hb2)
    have hlt2 := HJ2.out.lt
    have q : WB w2 p A k c (s.t : Int) s.ov s.li X room iv n := by rw [HKL.out]; exact HJ2.out.sr
    obtain ⟨c0, c1, c2, c3, c66, c67, c68⟩ := WB.cells q
    obtain ⟨f0, f1, f2, f3, f67, f68⟩ := WB.froz q
    clear q r1 r2 hlt HME
    cases hs : isSig z
    case true =>
      have e1 : actE z room s u = sigE s z := by unfold actE; rw [hs]; rfl
      have HE1 := keepd e1
      have HI := keepd fun V => isSignal_any z true hs V
      have HT := keepd (signalK HM.out HJ2.out hL2 z)
      clear hs e1 c0 c1 c2 c3 c66 c67 c68 f0 f1 f2 f3 f67 f68 hL2
      go_wp2_with fail
      with_reducible refine (HI.out _).mono ?_
      rintro e w3 ⟨rfl, rfl⟩
      go_wp2_with fail
      with_reducible refine HT.out.mono ?_
      rintro e w4 ⟨rfl, H⟩
      have HH := keepd H
      clear H
      go_wp2
      go_end0
      rw [HE1.out]
      exact ⟨rfl, HH.out⟩
    have HI := keepd fun V => isSignal_any z false hs V
    have HSG := keepd hs
    clear hs
    by_cases h0 : z = 0
    · subst h0
      clear HZ HSG
      have e1 : actE 0 room s u = typE s room u := rfl
      rw [e1]
      have HT := keepd (typeK HM.out HJ2.out HOK.out hn0 hn1 u)
      clear e1 c0 c1 c2 c3 c66 c67 c68 f0 f1 f2 f3 f67 f68 hL2
      go_wp2_with fail
      with_reducible refine (HI.out _).mono ?_
      rintro e w3 ⟨rfl, rfl⟩
      go_wp2_with fail
      with_reducible refine HT.out.mono ?_
      rintro e w4 ⟨rfl, H⟩
      have HH := keepd H
      clear H
      go_wp2
      go_end0
      exact ⟨rfl, HH.out⟩
    by_cases h17 : z = 17
    · subst h17
      clear HZ HSG
      have e1 : actE 17 room s u = typE s room u := rfl
      rw [e1]
      have HT := keepd (typeK HM.out HJ2.out HOK.out hn0 hn1 u)
      clear e1 c0 c1 c2 c3 c66 c67 c68 f0 f1 f2 f3 f67 f68 hL2
      go_wp2_with fail
      with_reducible refine (HI.out _).mono ?_
      rintro e w3 ⟨rfl, rfl⟩
      go_wp2_with fail
      with_reducible refine HT.out.mono ?_
      rintro e w4 ⟨rfl, H⟩
      have HH := keepd H
      clear H
      go_wp2
      go_end0
      exact ⟨rfl, HH.out⟩
    by_cases h18 : z = 18
    · subst h18
      clear HZ HSG
      have e1 : actE 18 room s u = typE s room u := rfl
      rw [e1]
      have HT := keepd (typeK HM.out HJ2.out HOK.out hn0 hn1 u)
      clear e1 c0 c1 c2 c3 c66 c67 c68 f0 f1 f2 f3 f67 f68 hL2
      go_wp2_with fail
      with_reducible refine (HI.out _).mono ?_
      rintro e w3 ⟨rfl, rfl⟩
      go_wp2_with fail
      with_reducible refine HT.out.mono ?_
      rintro e w4 ⟨rfl, H⟩
      have HH := keepd H
      clear H
      go_wp2
      go_end0
      exact ⟨rfl, HH.out⟩
    by_cases h31 : z = 31
    · subst h31
      clear HZ HSG
      have e1 : actE 31 room s u = ⟨zE, [⟨1, 0, s.l⟩], 0⟩ := rfl
      rw [e1]
      have HT := keepd (tell_any HJ2.out hL2 ⟨1, 0, A, s.l, c⟩ k HKL.out HJ2.out.rd HJ2.out.fr HJ2.out.fa)
      clear e1 c1 c2 c3 c66 c67 c68 f0 f1 f2 f3 f67 f68 hL2
      go_wp2_with fail
      with_reducible refine (HI.out _).mono ?_
      rintro e w3 ⟨rfl, rfl⟩
      go_wp2_with fail
      with_reducible refine HT.out.mono ?_
      rintro e w5 ⟨rfl, iv5, hj5⟩
      have HE := keepd (begin_any hj5)
      clear hj5
      go_wp2_with fail
      with_reducible refine HE.out.mono ?_
      rintro e w6 ⟨rfl, iv6, hj6⟩
      have HJ6 := keepd hj6
      clear hj6
      go_wp2
      go_end0
      exact gotk_1 HM.out rfl HJ6.out
    by_cases h14 : z = 14
    · subst h14
      clear HZ HSG
      have e1 : actE 14 room s u = ⟨{ s with li := true }, [], 0⟩ := rfl
      rw [e1]
      have HG := keepd (HJ2.out.setI true)
      clear e1 hL2
      go_wp2_with fail
      with_reducible refine (HI.out _).mono ?_
      rintro e w3 ⟨rfl, rfl⟩
      go_wp2
      go_end0
      exact gotk_0 HM.out HG.out
    by_cases h25 : z = 25
    · subst h25
      clear HZ HSG
      have e1 : actE 25 room s u = ⟨{ s with ov := false }, [], 0⟩ := rfl
      rw [e1]
      have HG := keepd (HJ2.out.setO false)
      clear e1 hL2
      go_wp2_with fail
      with_reducible refine (HI.out _).mono ?_
      rintro e w3 ⟨rfl, rfl⟩
      go_wp2
      go_end0
      exact gotk_0 HM.out HG.out
    by_cases h26 : z = 26
    · subst h26
      clear HZ HSG
      have e1 : actE 26 room s u = ⟨{ s with ov := true }, [], 0⟩ := rfl
      rw [e1]
      have HG := keepd (HJ2.out.setO true)
      clear e1 hL2
      go_wp2_with fail
      with_reducible refine (HI.out _).mono ?_
      rintro e w3 ⟨rfl, rfl⟩
      go_wp2
      go_end0
      exact gotk_0 HM.out HG.out
    by_cases h13 : z = 13
    · subst h13
      clear HZ HSG
      have e1 : actE 13 room s u = ⟨s, [], 0⟩ := rfl
      rw [e1]
      have HG := keepd (HJ2.out)
      clear e1 hL2
      go_wp2_with fail
      with_reducible refine (HI.out _).mono ?_
      rintro e w3 ⟨rfl, rfl⟩
      go_wp2
      go_end0
      exact gotk_0 HM.out HG.out
    by_cases h15 : z = 15
    · subst h15
      clear HZ HSG
      have e1 : actE 15 room s u = ⟨s, [], 0⟩ := rfl
      rw [e1]
      have HG := keepd (HJ2.out)
      clear e1 hL2
      go_wp2_with fail
      with_reducible refine (HI.out _).mono ?_
      rintro e w3 ⟨rfl, rfl⟩
      go_wp2
      go_end0
      exact gotk_0 HM.out HG.out
    by_cases h16 : z = 16
    · subst h16
      clear HZ HSG
      have e1 : actE 16 room s u = ⟨s, [], 0⟩ := rfl
      rw [e1]
      have HG := keepd (HJ2.out)
      clear e1 hL2
      go_wp2_with fail
      with_reducible refine (HI.out _).mono ?_
      rintro e w3 ⟨rfl, rfl⟩
      go_wp2
      go_end0
      exact gotk_0 HM.out HG.out
    have HD := keepd (And.intro h0 (And.intro h17 (And.intro h18 (And.intro h31 (And.intro h14 (And.intro h25 (And.intro h26 (And.intro h13 (And.intro h15 h16)))))))))
    have g0 : (z == 0) = false := by simpa using h0
    have g17 : (z == 17) = false := by simpa using h17
    have g18 : (z == 18) = false := by simpa using h18
    have g31 : (z == 31) = false := by simpa using h31
    have g14 : (z == 14) = false := by simpa using h14
    have g25 : (z == 25) = false := by simpa using h25
    have g26 : (z == 26) = false := by simpa using h26
    have g13 : (z == 13) = false := by simpa using h13
    have g15 : (z == 15) = false := by simpa using h15
    have g16 : (z == 16) = false := by simpa using h16
    clear h0 h17 h18 h31 h14 h25 h26 h13 h15 h16
    have e1 : actE z room s u = ⟨⟨(doR s.l s.t z).1, (doR s.l s.t z).2, s.ov, s.li⟩, [], 0⟩ := by
      unfold actE
      rw [HSG.out]
      simp only [Bool.false_eq_true, if_false, HD.out, or_self]
    obtain ⟨l1, t1, hd1⟩ : ∃ l1 t1, doR s.l s.t z = (l1, t1) := ⟨_, _, rfl⟩
    obtain ⟨d, hd⟩ : ∃ d, (doL s.l s.t z).isSome = d := ⟨_, rfl⟩
    obtain ⟨m1, hm1⟩ : ∃ m1, l1.length = m1 := ⟨_, rfl⟩
    rw [hd1] at e1
    have HE1 := keepd e1
    have HT := keepd (do_go A s.l l1 k c s.t t1 m1 z d w2 HKL.out HJ2.out.rd (by rw [HKL.out]; exact HOK.out.2) (by rw [HKL.out]; exact HOK.out.1) hd1 hd hm1)
    have HM1 := keepd hm1
    clear e1 hd1 hd hm1 hL2 c2 c3 c66 c67 c68 f2 f3 f67 f68
    go_wp2_with fail
    with_reducible refine (HI.out _).mono ?_
    rintro e w3 ⟨rfl, rfl⟩
    go_wp2_with fail
    with_reducible refine HT.out.mono ?_
    rintro e w4 ⟨⟨B1, d1, rfl, ho⟩, hb⟩
    have HG := keepd (HJ2.out.setL (t' := t1) hb ho HM1.out)
    have q := (HJ2.out.call hb).sr
    obtain ⟨c0, c1, c2, c3, c66, c67, c68⟩ := WB.cells q
    obtain ⟨f0, f1, f2, f3, f67, f68⟩ := WB.froz q
    have hlt4 := (HJ2.out.call hb).lt
    clear q hb ho c2 c3 c66 c67 c68 f2 f3 f67 f68 HT
    go_wp2
    go_end0
    rw [HE1.out]
    exact gotk_0 HM.out HG.out

end Go.Proofs.YtlfmbfecajhffaaDoor.Fr
