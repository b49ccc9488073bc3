/-
  The contract of the document's own Put. No conditions beyond those each theorem states.
-/
import Derived.Test.YtflmplnampgflaaS5
namespace Go.Proofs.Ytflmplnampgflaa
open Go.RowKit
set_option maxRecDepth 100000

theorem put_cells (X : Tr) (h : mayT X.f X.lv = true) : #[Value.int .u8 X.f, Value.int .u8 (secI X.lv X.a X.i X.o), Value.int .u8 (X.v.toNat : Int)] = ([u8 X.f, X.sec, X.v].map bv).toArray := by
  have hX := mayT_iff.1 h
  have hsr := secI_rng ⟨hX.2.2.1, hX.2.2.2⟩ X.a X.i X.o
  simp only [List.map_cons, List.map_nil, bv]
  rw [u8_back hX.1 hX.2.1]
  unfold Tr.sec
  rw [u8_back hsr.1 hsr.2]

set_option maxHeartbeats 2000000 in
theorem rput_any (A : Option Addr) (L : List Tr) (n c : Nat) (P : List UInt8) (z : Nat) (v : Bool) (w : World) (hn : n = L.length) (hl : n ≤ 200) (hr : RdT w A L c) (hP : putL L = P) (hz : P.length = z) (hv : allT L = v) :
    Calls Try.prog 30 #[.slice A n c] w fun e w' => ∃ A' c', e = .returned (.tuple #[.slice A' z c', .bool v]) ∧ Rd w' w'.heap.size A' P c' ∧ Below w.heap.size w w' := by
  have HR := keepd hr
  have HN := keepd hn
  have HP := keepd hP
  have HZ := keepd hz
  have HE := keepd hv
  have c1 := hr.1
  have c2 := hr.2.1
  unfold maxLen at c2
  rw [← hn] at c1
  clear hr hn hP hz hv
  go_enter Try.func30, Try.ntmps30
  go_wp2_with fail
  go_loopw [4, 5] (fun vb vi wr => ∃ k : Nat, k ≤ n ∧ vi = .int .i64 k ∧ Hid (Own wr w.heap.size vb (liesL (L.take k))) ∧ Hid (allT (L.take k) = true) ∧ Hid (Below w.heap.size w wr)) (fun _ vi _ => n - (intOf vi).toNat)
  case atStart => exact ⟨0, by omega, rfl, Own.nil _ _, rfl, Below.refl _ _⟩
  case round =>
    obtain ⟨k, hk, rfl, HO, HT, HB⟩ := hrel
    by_cases hlt : k < n
    · have hkL : k < L.length := by rw [← HN.out]; exact hlt
      obtain ⟨b, off, rfl, hbl, hce⟩ := (HR.out.at_ HB.out).get k hkL
      have HS := keepd (liesL_succ L k hkL)
      have HA := keepd (allT_succ L k hkL)
      have HLn : Hid ((liesL (L.take k)).length ≤ 600) := by show _ ≤ _; rw [liesL_len, List.length_take]; omega
      generalize L[k] = X at *
      obtain ⟨e0, e1, e2, e3, e4, e5⟩ := hce
      obtain ⟨m, hm⟩ : ∃ m, mayT X.f X.lv = m := ⟨_, rfl⟩
      have HC := fun w => may_any X.f X.lv X.a X.i X.o (X.v.toNat : Int) m hm w
      have HM := keepd hm
      clear hm
      cases m
      · go_wp2_with fail
        with_reducible refine (HC _).mono ?_
        rintro e w2 ⟨rfl, hb2⟩
        have hb : Below w.heap.size w w2 := bCall HB.out (upA hb2)
        have hno : allT L = false := by
          cases hal : allT L
          · rfl
          · have := allT_take hal (k + 1)
            rw [HA.out, show X.may = false from HM.out, Bool.and_false] at this
            cases this
        obtain ⟨p1, p2⟩ := put_no hno
        rw [HP.out] at p1
        rw [HE.out] at hno
        subst p1 hno
        have hz0 := HZ.out
        simp at hz0
        subst hz0
        have HB2 := keepd hb
        clear hb hb2 HC e0 e1 e2 e3 e4 e5
        go_wp2
        go_returns
        exact ⟨none, 0, rfl, Rd.nil _ _, HB2.out⟩
      · go_wp2_with fail
        with_reducible refine (HC _).mono ?_
        rintro e w2 ⟨rfl, hb2⟩
        have hb : Below wr.heap.size wr w2 := upA hb2
        have q := ((SR.new 60 wr [.int .i64 X.f, .int .i64 X.lv, .bool X.a, .bool X.i, .bool X.o, .int .u8 (X.v.toNat : Int)]).call hb2 (by simp))
        obtain ⟨q0, q1, q2, q3, q4, q5⟩ := sr6 q
        have HO2 := keepd (HO.out.below hb)
        have HB2 := keepd (bCall HB.out hb)
        have hsz := HB2.out.size
        have hX := mayT_iff.1 HM.out
        have hxu := conv_u8 ⟨hX.1, hX.2.1⟩
        have hsr := secI_rng ⟨hX.2.2.1, hX.2.2.2⟩ X.a X.i X.o
        have HCs := keepd (put_cells X HM.out)
        have HA5 : Hid (allT (L.take (k + 1)) = true) := by
          show _ = _
          rw [HA.out, HT.out, show X.may = true from HM.out]
          rfl
        obtain ⟨g, hgw⟩ : ∃ g, wr.heap.size = g := ⟨_, rfl⟩
        rw [hgw] at q0 q1 q2 q3 q4 q5
        rw [hgw]
        obtain ⟨y1, y2, y3, y4⟩ := hX
        clear hb hb2 HC e0 e1 e2 e3 e4 e5 q hgw
        have HCs' := HCs.out
        have hsr' := conv_u8 hsr
        clear HCs hsr
        generalize Go.Proofs.Ytflmplnampgflaa.u8 X.f = F at *
        generalize X.sec = S at *
        obtain ⟨f, lv, a, i, o, u⟩ := X
        simp only [] at *
        cases a <;> cases i <;> cases o
        all_goals
          simp only [secI, wt, if_true, if_false, Bool.false_eq_true, Int.add_zero] at HCs' hsr'
          have HCs := keepd HCs'
          clear HCs'
          go_wp2_with (at_builtin; refine wpList_app _ rfl (.tmp 35) (.tmp 43) rfl w.heap.size _ (liesL (L.take k)) rfl (HO2.out.alloc _) _ (some ⟨w2.heap.size, 0, none⟩) 3 3 [F, S, u] rfl rfl (new_rd w2 _ _ 3 HCs.out rfl (by omega)) (by have := HLn.out; simp only [List.length_cons, List.length_nil]; omega) (by simp only [World.size_alloc]; omega) ?_; intro va w5 ho hg hat)
          have hb5 := app_below (bAlloc HB2.out _) (HO2.out.alloc _) hg
          rw [← HS.out] at ho
          have HO5 := keepd ho
          have HB5 := keepd hb5
          clear ho hg hat hb5 HCs hsr' HO2 HB2 q0 q1 q2 q3 q4 q5
          go_wp2
          go_roundw
          case rel => exact ⟨k + 1, by omega, by go_num, HO5, HA5, HB5⟩
          case measure => simp [intOf]; omega
    · obtain rfl : k = n := by omega
      have H1 : Hid (Own wr w.heap.size u4 (liesL L)) := by
        have := HO.out
        rw [List.take_of_length_le (by rw [← HN.out]; omega)] at this
        exact this
      have h2 : allT L = true := by
        have := HT.out
        rw [List.take_of_length_le (by rw [← HN.out]; omega)] at this
        exact this
      obtain ⟨p1, p2⟩ := put_yes h2
      rw [HP.out] at p1
      rw [HE.out] at h2
      subst p1 h2
      obtain ⟨A', c', rfl, hr'⟩ := H1.out.rd
      have H3 := keepd hr'
      clear hr' H1 HO
      have hz0 := HZ.out
      go_wp2
      go_returns
      exact ⟨A', c', by rw [hz0]; rfl, H3.out, HB.out⟩

end Go.Proofs.Ytflmplnampgflaa
