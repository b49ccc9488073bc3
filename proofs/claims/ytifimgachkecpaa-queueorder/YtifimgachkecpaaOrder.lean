/-
  What the law QueueOrder returns.
-/
import Derived.Test.YtifimgachkecpaaParts
import Derived.Test.YtifimgachkecpaaOpenL
namespace Go.Proofs.Ytifimgachkecpaa
open Go.RowKit

/-- Two owned rows are apart. -/
def Apart (v v' : Value) : Prop := ∀ g, v.ownBlock = some g → v'.ownBlock ≠ some g

/-- What holds at each round's head: what was put and what was taken lie in rows of their own, what waits in a block of its own, and what was put is what was taken and what waits. -/
structure OrdR (wr : World) (base b5 : Nat) (cap : Int) (vi vo : Value) (IN OUT Q : List UInt8) (Aq : Option Addr) (cq : Nat) : Prop where
  hi : Own wr base vi IN
  ho : Own wr base vo OUT
  ap : Apart vi vo
  q : QR wr b5 (.int .i64 cap) (.slice Aq Q.length cq)
  rd : Rd wr wr.heap.size Aq Q cq
  nb : base ≤ wr.heap.size
  eq : IN = OUT ++ Q

theorem Own.setBelow {w : World} {base : Nat} {v : Value} {l : List UInt8} (h : Own w base v l) {b : Nat} (hb : b < base) (u u' : Value) : Own ((w.setCell ⟨b, 0, none⟩ u).setCell ⟨b, 1, none⟩ u') base v l :=
  ownsRow_setCell_below (a := ⟨b, 1, none⟩) (ownsRow_setCell_below (a := ⟨b, 0, none⟩) h hb u) hb u'

/-- A struct's two cells and one cell more, in every world that has w1's old memory. -/
theorem sOf3 {w1 W : World} {a b i : Nat} {u0 u1 u2 : Value} (k0 : w1.cell? ⟨a, 0, none⟩ = some u0) (k1 : w1.cell? ⟨a, 1, none⟩ = some u1) (k2 : w1.cell? ⟨b, i, none⟩ = some u2) (ha : a < w1.heap.size) (hb : b < w1.heap.size) (h : Below w1.heap.size w1 W) :
    W.cell? ⟨a, 0, none⟩ = some u0 ∧ W.cell? ⟨a, 1, none⟩ = some u1 ∧ W.cell? ⟨b, i, none⟩ = some u2 ∧ Below w1.heap.size w1 W :=
  ⟨(h.cell (p := ⟨a, 0, none⟩) ha).trans k0, (h.cell (p := ⟨a, 1, none⟩) ha).trans k1, (h.cell (p := ⟨b, i, none⟩) hb).trans k2, h⟩

/-- A round: one of two rows is appended to, and a new queue is stored. -/
theorem round_step {wr wx w4 : World} {base b5 g2 n2 : Nat} {va vb va' x y u : Value} {LA LB LA' Q' : List UInt8} (h5 : b5 < base) (hn : base ≤ wr.heap.size) (ha : Own wr base va LA) (hb : Own wr base vb LB) (hab : Apart va vb)
    (hq : QR wr b5 x y) (hwx : Below wr.heap.size wr wx) (hk : Bk wx g2 Q') (hg2 : wr.heap.size ≤ g2) (ho : Own w4 base va' LA') (hg : wx.grownBy w4 va.ownBlock) (hat : va'.ownBlock = va.ownBlock ∨ va'.ownBlock = some wx.heap.size) :
    (let W := (w4.setCell ⟨b5, 0, none⟩ u).setCell ⟨b5, 1, none⟩ (.slice (some ⟨g2, 0, none⟩) n2 n2)
     Own W base va' LA' ∧ Own W base vb LB ∧ Apart va' vb ∧ Apart vb va' ∧ QR W b5 u (.slice (some ⟨g2, 0, none⟩) n2 n2) ∧ Bk W g2 Q' ∧ base ≤ W.heap.size) := by
  have e1 := hwx.size
  have e2 := hg.size
  have hxa : ∀ k, va.ownBlock = some k → base ≤ k ∧ k < wr.heap.size := ha.ge
  have hxb : ∀ k, vb.ownBlock = some k → base ≤ k ∧ k < wr.heap.size := hb.ge
  have hg2l := hk.lt
  have hq4 : QR w4 b5 x y := (hg.block b5 (by omega) (fun e => by have := (hxa _ e.symm).1; omega)).trans (hq.call hwx (by omega))
  have hk4 : Bk w4 g2 Q' := (hg.block g2 hg2l (fun e => by have := (hxa _ e.symm).2; omega)).trans hk
  have hb4 : Own w4 base vb LB := (hb.below hwx).kept hg (by
    cases e : vb.ownBlock with
    | none => exact .inl rfl
    | some k =>
      refine .inr (fun e' => ?_)
      exact hab k e'.symm e)
  have a1 : Apart va' vb := by
    intro g hgg e
    rcases hat with h | h
    · rw [h] at hgg; exact hab g hgg e
    · rw [h] at hgg; injection hgg with hgg; have := (hxb _ e).2; omega
  refine ⟨ho.setBelow h5 _ _, hb4.setBelow h5 _ _, a1, fun g h1 h2 => a1 g h2 h1, hq4.store _ _, set2_bk hk4 (by omega) _ _, ?_⟩
  rw [set2_size]
  omega

set_option maxRecDepth 100000 in
set_option maxHeartbeats 4000000 in
theorem order_any (R : Nat) (A : Option Addr) (xs : List Ac) (c : Nat) (w : World) (hR : R ≤ 255) (ha : Acts w A xs c) :
    Calls Try.prog 4 #[.int .u8 R, .slice A xs.length c] w fun e w' => e = .returned (.bool true) ∧ Below w.heap.size w w' := by
  have HA := keepd ha
  have c1 := ha.1
  have c2 := ha.2.1
  unfold maxLen at c2
  clear ha
  go_enter Try.func4, Try.ntmps4
  go_wp2_with fail
  with_reducible refine (new_yes (1 + ↑R) _ (by omega) (by omega)).mono ?_
  rintro e w1 ⟨rfl, hb1⟩
  go_wp2_with fail
  go_loopw [7, 8, 9] (fun vi vo i wr => ∃ (k : Nat) (IN OUT Q : List UInt8) (Aq : Option Addr) (cq : Nat), k ≤ 60 ∧ k ≤ xs.length ∧ i = .int .i64 k ∧ Hid (OrdR wr (w1.heap.size + 1) w1.heap.size (1 + ↑R) vi vo IN OUT Q Aq cq) ∧ Hid (IN.length ≤ 200 * k) ∧ Hid (Q.length ≤ 1 + R) ∧ Hid (Below w.heap.size w wr))
    (fun _ _ i _ => 60 - (intOf i).toNat)
  case atStart =>
    refine ⟨0, [], [], [], none, 0, by omega, by omega, rfl, ?_, by show _ ≤ _; simp, by show _ ≤ _; simp, bAlloc hb1 _⟩
    exact ⟨Own.nil _ _, Own.nil _ _, fun g h => by simp [Value.ownBlock] at h, QR.new w1 _ _, Rd.nil _ _, by simp, rfl⟩
  case round =>
    obtain ⟨k, IN, OUT, Q, Aq, cq, hk60, hkx, rfl, HO, HL, HQ, HB⟩ := hrel
    have f1 := HO.out.q.facts
    have x1 := HO.out.q.lt
    by_cases hlt : k < xs.length ∧ k < 60
    · obtain ⟨h1, h2⟩ := hlt
      have g1 : decide (k < xs.length) = true := by simpa using h1
      have g2 : decide ((k : Int) < 60) = true := by simp; omega
      obtain ⟨b, off, hA, hbl, hce⟩ := HA.out.2.2.1 (by rintro rfl; simp at h1)
      subst hA
      obtain ⟨ce1, ce2⟩ := hce k h1
      have ce1' := (HB.out.cell (p := ⟨b, off + k * 2, none⟩) hbl).trans ce1
      have ce2' := (HB.out.cell (p := ⟨b, off + k * 2 + 1, none⟩) hbl).trans ce2
      have hrx := HA.out.2.2.2 xs[k] (List.getElem_mem h1)
      have HRX := keepd (hrx.at_ HB.out)
      generalize xs[k] = X at *
      have HCE1 := keepd ce1'
      have HCE2 := keepd ce2'
      clear hce ce1 ce2 hrx
      go_wp2_with fail
      have d1 : X.l.length ≤ X.c := HRX.out.1
      have d2 : X.c ≤ maxLen := HRX.out.2.1
      with_reducible refine (few_any X.A X.l.length X.c _ d1 d2).mono ?_
      rintro e wr' ⟨rfl, rfl⟩
      have HNa : Hid (min X.l.length 200 = (X.l.take 200).length) := by show _ = _; rw [List.length_take]; omega
      have HRB := keepd (HRX.out.take 200)
      have a2 : min X.l.length 200 ≤ 200 := by omega
      have a3 : min X.l.length 200 ≤ X.c := by omega
      generalize X.l.take 200 = Bl at *
      generalize min X.l.length 200 = a at *
      obtain ⟨ql, hql⟩ : ∃ ql, Q.length = ql := ⟨_, rfl⟩
      have HQl := keepd hql
      rw [hql] at f1
      have q1 : ql ≤ 1 + R := by rw [← hql]; exact HQ.out
      have HMay : Hid (May (1 + ↑R) Q.length) := by show May _ _; rw [hql]; unfold May; omega
      clear hql
      by_cases h0 : 0 < a
      · -- what is put
        obtain ⟨m, hm⟩ : ∃ m, min a (1 + R - ql) = m := ⟨_, rfl⟩
        have m1 : m ≤ a := by omega
        have HE1 : Hid (Q ++ Bl.take (min Bl.length ((1 + (R : Int)).toNat - Q.length)) = Q ++ Bl.take m) := by
          show _ = _
          rw [← HNa.out, HQl.out, ← hm]
          congr 3 <;> omega
        have HE2 : Hid (((min Bl.length ((1 + (R : Int)).toNat - Q.length) : Nat) : Int) = m) := by show _ = _; rw [← HNa.out, HQl.out, ← hm]; omega
        have HL2 : Hid ((Q ++ Bl.take m).length = ql + m) := by show _ = _; rw [List.length_append, List.length_take, ← HNa.out, HQl.out]; omega
        have HLm : Hid (m = (Bl.take m).length) := by show _ = _; rw [List.length_take, ← HNa.out]; omega
        go_wp2_with fail
        with_reducible refine (put_at (1 + ↑R) Aq X.A Q Bl (Q ++ Bl.take m) ql a cq X.c m _ HQl.out.symm HNa.out HE1.out HE2.out HMay.out HO.out.rd HRB.out (by rw [← HNa.out]; omega)).mono ?_
        rintro e w2 ⟨gg, rfl, hgg, hbk2, hb2⟩
        unfold qv
        rw [HL2.out]
        have hwx : Below wr.heap.size wr (w2.alloc (.cells #[.int .i64 (1 + ↑R), .slice (some ⟨gg, 0, none⟩) (ql + m) (ql + m)] 24)) := bAlloc hb2 _
        have HP3 := keepd (QR.new w2 (.int .i64 (1 + ↑R)) (.slice (some ⟨gg, 0, none⟩) (ql + m) (ql + m)))
        have HK3 := keepd (hbk2.alloc (.cells #[.int .i64 (1 + ↑R), .slice (some ⟨gg, 0, none⟩) (ql + m) (ql + m)] 24))
        have HI3 := keepd (HO.out.hi.below hwx)
        have HR3 := keepd ((HRB.out.take m).at_ hwx)
        have HQ3 := keepd (HO.out.q.call hwx x1)
        have HWX := keepd hwx
        have l2 := hb2.size
        clear hb2 hbk2 hwx f1
        go_upto_region 11 with fail
        have f3 := HP3.out.facts
        have y3 := HP3.out.lt
        generalize w2.alloc (.cells #[.int .i64 (1 + ↑R), .slice (some ⟨gg, 0, none⟩) (ql + m) (ql + m)] 24) = W3 at *
        have e8 : a ≤ m ∨ (m < a ∧ ((ql : Int) + (m : Int) != 1 + (R : Int)) = false) := by
          by_cases hh : a ≤ m
          · exact .inl hh
          · refine .inr ⟨by omega, ?_⟩
            simp
            omega
        have e7 : ql + m ≤ 1 + R := by omega
        clear hm
        rcases e8 with e9 | ⟨e9, e6⟩
        all_goals
          go_wp2_with (at_builtin; refine wpList_app _ rfl (.tmp 78) (.tmp 81) rfl (w1.heap.size + 1) _ IN rfl HI3.out W3.heap.size X.A m X.c (Bl.take m) rfl HLm.out HR3.out ?_ ?_ ?_)
          · have := HL.out
            rw [← HLm.out]
            omega
          · have := HO.out.nb
            have := HWX.out.size
            omega
          · intro va w4 ho hg hat
            have hne : ∀ g, u7.ownBlock = some g → g < wr.heap.size := fun g e => (HO.out.hi.ge g e).2
            have hba : ∀ g, u7.ownBlock = some g → w1.heap.size + 1 ≤ g := fun g e => (HO.out.hi.ge g e).1
            have hp4 : QR w4 w2.heap.size _ _ := (hg.block w2.heap.size y3 (fun e => by have := hne _ e.symm; omega)).trans HP3.out
            have hq4 : QR w4 w1.heap.size _ _ := (hg.block w1.heap.size (by have := HWX.out.size; omega) (fun e => by have := hba _ e.symm; omega)).trans HQ3.out
            have f4 := hp4.facts
            have f5 := hq4.facts
            have RS := round_step (u := .int .i64 (1 + ↑R)) (n2 := ql + m) (Nat.lt_succ_self _) HO.out.nb HO.out.hi HO.out.ho HO.out.ap HO.out.q HWX.out HK3.out hgg ho hg hat
            have HRS := keepd RS
            have hb5 : Below w.heap.size w w4 := (bCall HB.out HWX.out).trans (((Below.refl (w1.heap.size + 1) _).grown hg (by have := HWX.out.size; omega) hba).mono (by have := hb1.size; omega))
            have HB5 := keepd hb5
            have w1s := hb1.size
            clear RS hp4 hq4 ho hg hat f3 hb5
            go_wp2
            go_roundw
            case rel =>
              obtain ⟨r1, r2, r3, _, r5, r6, r7⟩ := HRS.out
              refine ⟨k + 1, IN ++ Bl.take m, OUT, Q ++ Bl.take m, some ⟨gg, 0, none⟩, ql + m, by omega, by omega, by go_num, ?_, ?_, ?_, ?_⟩
              · exact ⟨r1, r2, r3, by rw [HL2.out]; exact r5, r6.rdN HL2.out (by omega), r7, by rw [HO.out.eq, List.append_assoc]⟩
              · show _ ≤ _
                have := HL.out
                rw [List.length_append, ← HLm.out]
                omega
              · show _ ≤ _
                rw [HL2.out]
                omega
              · exact set2_below HB5.out (by omega) _ _
            case measure => simp [intOf]; omega
      · -- what is taken
        obtain rfl : a = 0 := by omega
        obtain ⟨kk, hkk⟩ : ∃ kk : Nat, (kk : Int) = max 0 (min X.n (ql : Int)) := ⟨(max 0 (min X.n (ql : Int))).toNat, by omega⟩
        have k1 : kk ≤ ql := by omega
        have HKK : Hid ((kk : Int) = max 0 (min X.n (Q.length : Int))) := by show _ = _; rw [HQl.out]; exact hkk
        have HLr : Hid ((Q.drop kk).length = ql - kk) := by show _ = _; rw [List.length_drop, HQl.out]
        have HLt : Hid ((Q.take kk).length = kk) := by show _ = _; rw [List.length_take, HQl.out]; omega
        have hmx := clip_max X.n
        have hgt : decide (max X.n 0 < (kk : Int)) = false := by simp; omega
        have K0 := keepd f1.1
        have K1 := keepd f1.2.1
        have i1 : (0 : Int) ≤ (k : Int) := by omega
        have i2 : (k : Int) < (xs.length : Int) := by omega
        have hbw : b < wr.heap.size := by have := HB.out.size; omega
        clear hkk
        go_upto_region 15 with fail
        go_cut [14, 15, 16] (fun s14 s15 s16 wx => ∃ g o bz : Nat, s14 = .pointer (some ⟨bz, 0, none⟩) ∧ s15 = .slice (some ⟨o, 0, none⟩) kk kk ∧ s16 = .int .i64 0 ∧ Hid (QR wx bz (.int .i64 (1 + ↑R)) (.slice (some ⟨g, 0, none⟩) (ql - kk) (ql - kk))) ∧ Hid (Bk wx g (Q.drop kk)) ∧ Hid (Bk wx o (Q.take kk)) ∧ Hid (Below wr.heap.size wr wx) ∧ wr.heap.size ≤ g ∧ wr.heap.size ≤ o ∧ wr.heap.size ≤ bz)
        case first =>
          go_region_held3 (fun W => W.cell? ⟨w1.heap.size, 0, none⟩ = some (.int .i64 (1 + ↑R)) ∧ W.cell? ⟨w1.heap.size, 1, none⟩ = some (.slice Aq ql cq) ∧ W.cell? ⟨b, off + k * 2 + 1, none⟩ = some (.int .i64 X.n) ∧ Below wr.heap.size wr W)
            ((refine sOf3 K0.out K1.out HCE2.out x1 hbw ?_; repeat (first | assumption | exact Below.refl _ _ | with_reducible refine bSet ?_ ?_ _ | with_reducible refine bAlloc ?_ _ | with_reducible refine Below.drew ?_ | omega)))
            (first | (go_at_call 17; (with_reducible refine (take_at (1 + ↑R) X.n Aq Q (Q.drop kk) (Q.take kk) ql cq kk _ HQl.out.symm HKK.out rfl rfl HMay.out ?_).mono ?_); (focus (refine HO.out.rd.at_ ?_; repeat (first | assumption | exact Below.refl _ _ | with_reducible refine bSet ?_ ?_ _ | with_reducible refine bAlloc ?_ _ | with_reducible refine Below.drew ?_ | omega))); rintro e w9 ⟨g9, o9, rfl, hg9, ho9, hne9, hbk9, hbo9, hb9⟩; have HB9 := keepd hbk9; have HO9 := keepd hbo9; clear hbk9 hbo9; have hbb : Below wr.heap.size wr w9 := (by refine bCall ?_ hb9; repeat (first | assumption | exact Below.refl _ _ | with_reducible refine bSet ?_ ?_ _ | with_reducible refine bAlloc ?_ _ | with_reducible refine Below.drew ?_ | omega)); have lbb := hbb.size; have hb9' := noDrew hb9; (try simp only [World.size_alloc] at hb9'); obtain ⟨hc9, hf9⟩ := old hb9'; unfold qv; rw [HLr.out, HLt.out]))
          all_goals go_wp2_with fail
          all_goals go_meet
          · refine ⟨g9, o9, _, rfl, rfl, rfl, QR.new w9 _ _, HB9.out.alloc _, HO9.out.alloc _, bAlloc hbb _, hg9, ho9, lbb⟩
          · have q9 := (QR.new wr (.int .i64 0) (.slice none 0 0)).call hb9' (by omega)
            simp at hg9 ho9
            exact ⟨g9, o9, _, rfl, rfl, rfl, q9.store _ _, set2_bk HB9.out (by omega) _ _, set2_bk HO9.out (by omega) _ _, set2_below hbb (Nat.le_refl _) _ _, by omega, by omega, Nat.le_refl _⟩
        case rest =>
          obtain ⟨g9, o9, bz, rfl, rfl, rfl, HZ, HB9, HO9, HWX, hg9, ho9, hz9⟩ := hcut
          have ce3 := (HWX.out.cell (p := ⟨b, off + k * 2 + 1, none⟩) hbw).trans HCE2.out
          have f3 := HZ.out.facts
          have y3 := HZ.out.lt
          have HI3 := keepd (HO.out.ho.below HWX.out)
          have HQ3 := keepd (HO.out.q.call HWX.out x1)
          clear f1 ce1' ce2'
          go_wp2_with (at_builtin; refine wpList_app _ rfl (.tmp 108) (.tmp 109) rfl (w1.heap.size + 1) _ OUT rfl HI3.out wc.heap.size (some ⟨o9, 0, none⟩) kk kk (Q.take kk) rfl HLt.out.symm (HO9.out.rdN HLt.out (by omega)) ?_ ?_ ?_)
          · have h1 := HL.out
            rw [HO.out.eq, List.length_append, HQl.out] at h1
            rw [HLt.out]
            omega
          · have := HO.out.nb
            have := HWX.out.size
            omega
          · intro va w4 ho hg hat
            have hne : ∀ g, u8.ownBlock = some g → g < wr.heap.size := fun g e => (HO.out.ho.ge g e).2
            have hba : ∀ g, u8.ownBlock = some g → w1.heap.size + 1 ≤ g := fun g e => (HO.out.ho.ge g e).1
            have hp4 : QR w4 bz _ _ := (hg.block bz y3 (fun e => by have := hne _ e.symm; omega)).trans HZ.out
            have hq4 : QR w4 w1.heap.size _ _ := (hg.block w1.heap.size (by have := HWX.out.size; omega) (fun e => by have := hba _ e.symm; omega)).trans HQ3.out
            have f4 := hp4.facts
            have f5 := hq4.facts
            have RS := round_step (u := .int .i64 (1 + ↑R)) (n2 := ql - kk) (Nat.lt_succ_self _) HO.out.nb HO.out.ho HO.out.hi (fun g h1 h2 => HO.out.ap g h2 h1) HO.out.q HWX.out HB9.out hg9 ho hg hat
            have HRS := keepd RS
            have hb5 : Below w.heap.size w w4 := (bCall HB.out HWX.out).trans (((Below.refl (w1.heap.size + 1) _).grown hg (by have := HWX.out.size; omega) hba).mono (by have := hb1.size; omega))
            have HB5 := keepd hb5
            have w1s := hb1.size
            clear RS hp4 hq4 ho hg hat f3 hb5 ce3
            go_wp2
            go_roundw
            case rel =>
              obtain ⟨r1, r2, _, r4, r5, r6, r7⟩ := HRS.out
              refine ⟨k + 1, IN, OUT ++ Q.take kk, Q.drop kk, some ⟨g9, 0, none⟩, ql - kk, by omega, by omega, by go_num, ?_, ?_, ?_, ?_⟩
              · exact ⟨r2, r1, r4, by rw [HLr.out]; exact r5, r6.rdN HLr.out (by omega), r7, by rw [HO.out.eq, List.append_assoc, List.take_append_drop]⟩
              · show _ ≤ _
                have := HL.out
                omega
              · show _ ≤ _
                rw [HLr.out]
                omega
              · exact set2_below HB5.out (by omega) _ _
            case measure => simp [intOf]; omega
    · obtain ⟨iA, ic, hvi, hri⟩ := HO.out.hi.rd
      obtain ⟨oA, oc, hvo, hro⟩ := HO.out.ho.rd
      obtain ⟨il, hil⟩ : ∃ il, IN.length = il := ⟨_, rfl⟩
      obtain ⟨ol, hol⟩ : ∃ ol, OUT.length = ol := ⟨_, rfl⟩
      obtain ⟨ql, hql⟩ : ∃ ql, Q.length = ql := ⟨_, rfl⟩
      rw [hil] at hvi
      rw [hol] at hvo
      rw [hql] at f1
      have HIl := keepd hil
      have HOl := keepd hol
      have HQl := keepd hql
      have HRi := keepd hri
      have HRo := keepd hro
      have HRq := keepd HO.out.rd
      have HE : Hid ((OUT ++ Q == IN) = true) := by show _ = _; rw [HO.out.eq]; simp
      have HOQ : Hid ((OUT ++ Q).length = il) := by show _ = _; rw [← HO.out.eq]; exact hil
      have ilb : il ≤ 12000 := by have := HL.out; omega
      have e1 : ol + ql = il := by rw [← hol, ← hql, ← List.length_append, HOQ.out]
      have ole : ol ≤ il := by omega
      have qle : ql ≤ il := by omega
      have K0 := keepd f1.1
      have K1 := keepd f1.2.1
      have s1 := keepd HB.out
      clear HO HL HQ HB hil hol hql hri hro e1 f1
      subst hvi
      subst hvo
      have hor : (decide (k < xs.length) = false) ∨ (decide (k < xs.length) = true ∧ decide ((k : Int) < 60) = false) := by
        by_cases hh : k < xs.length
        · refine .inr ⟨by simpa using hh, ?_⟩
          simp
          omega
        · exact .inl (by simpa using hh)
      clear hlt
      have w0 : IntKind.i64.wrap (R : Int) = (R : Int) := IntWalk.i64_in _ (by omega)
      have w9 : IntKind.i64.wrap (1 + (R : Int)) = 1 + (R : Int) := IntWalk.i64_in _ (by omega)
      have hEq : ((1 + (R : Int)) == (1 + (R : Int))) = true := by simp
      rcases hor with hor | ⟨hor, hor2⟩
      all_goals
        go_wp2_with fail
        go_region_held3 (fun W => W.cell? ⟨w1.heap.size, 0, none⟩ = some (.int .i64 (1 + ↑R)) ∧ W.cell? ⟨w1.heap.size, 1, none⟩ = some (.slice Aq ql cq) ∧ Below wr.heap.size wr W)
          ((refine sOf2 K0.out K1.out x1 ?_; repeat (first | assumption | exact Below.refl _ _ | with_reducible refine bSet ?_ ?_ _ | with_reducible refine bAlloc ?_ _ | with_reducible refine Below.drew ?_ | omega)))
          (first | (refine step_app _ rfl (.tmp 112) (.tmp 113) rfl wr.heap.size _ [] rfl ?_ wr.heap.size oA ol oc OUT rfl HOl.out.symm ?_ ?_ ?_ ?_; (exact (empty_own wr _ (Nat.le_refl _)).drew); (focus (refine HRo.out.below ?_ (Nat.le_refl _); repeat (first | assumption | exact Below.refl _ _ | with_reducible refine bSet ?_ ?_ _ | with_reducible refine bAlloc ?_ _ | with_reducible refine Below.drew ?_ | omega))); (rw [HOl.out]; simp; omega); (first | omega | (focus (simp; omega)) | (focus simp)); intro va wa ho hg hat; have hba := app_below ((bAlloc (Below.refl wr.heap.size wr) _).drew) (empty_own wr _ (Nat.le_refl _)).drew hg; rw [List.nil_append] at ho; have HOa := keepd ho; have lba := hba.size; clear ho hg hat) | (refine step_app _ rfl (.tmp 114) (.tmp 116) rfl wr.heap.size _ OUT rfl HOa.out wr.heap.size Aq ql cq Q rfl HQl.out.symm ?_ ?_ ?_ ?_; (focus (refine HRq.out.below ?_ (Nat.le_refl _); repeat (first | assumption | exact Below.refl _ _ | with_reducible refine bSet ?_ ?_ _ | with_reducible refine bAlloc ?_ _ | with_reducible refine Below.drew ?_ | omega))); (rw [HOl.out, HQl.out]; omega); (first | omega | (focus (simp; omega)) | (focus simp)); intro vb wb ho hg hat; have hbb := app_below hba HOa.out hg; obtain ⟨Av, cv, hv, hrdv⟩ := Own.rd ho; rw [HOQ.out] at hv; subst hv; have HRv := keepd hrdv; have lbb := hbb.size; clear ho hg hat hrdv) | (go_at_call 21; (with_reducible refine (octets_at Av iA (OUT ++ Q) IN il il cv ic _ _ HOQ.out.symm HIl.out.symm HRv.out (HRi.out.at_ hbb)).mono ?_); rintro e wb' ⟨rfl, rfl⟩; rw [HE.out]) | (go_at_call 18; (with_reducible refine (awake_any _).mono ?_); rintro e wz ⟨rfl, hbz⟩; have hbzz := bCall hbb hbz))
        all_goals go_wp2
        all_goals go_ret
        all_goals exact ⟨rfl, bCall s1.out hbzz⟩
end Go.Proofs.Ytifimgachkecpaa
