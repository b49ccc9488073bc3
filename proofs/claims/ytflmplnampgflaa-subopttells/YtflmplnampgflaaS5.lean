/-
  The contract of Put. No conditions beyond those each theorem states.
-/
import Derived.Test.YtflmplnampgflaaS3
namespace Go.Proofs.Ytflmplnampgflaa
open Go.RowKit
set_option maxRecDepth 100000

theorem SR.drew {t : TypeId} {W : World} {b : Nat} {cs : List Value} (h : SR t W b cs) : SR t W.drew b cs := h
theorem SR.grown {t : TypeId} {W W' : World} {b : Nat} {cs : List Value} {r : Option Nat} (h : SR t W b cs) (hg : W.grownBy W' r) (hr : r ≠ some b) : SR t W' b cs := (hg.block b h.lt (fun e => hr e.symm)).trans h
/-- A triple's cells, off its block. -/
theorem sr6 {W : World} {b : Nat} {u0 u1 u2 u3 u4 u5 : Value} (h : SR 60 W b [u0, u1, u2, u3, u4, u5]) :
    W.cell? ⟨b, 0, none⟩ = some u0 ∧ W.cell? ⟨b, 1, none⟩ = some u1 ∧ W.cell? ⟨b, 2, none⟩ = some u2 ∧ W.cell? ⟨b, 3, none⟩ = some u3 ∧ W.cell? ⟨b, 4, none⟩ = some u4 ∧ W.cell? ⟨b, 5, none⟩ = some u5 :=
  ⟨h.cell 0, h.cell 1, h.cell 2, h.cell 3, h.cell 4, h.cell 5⟩

theorem liesL_succ (L : List Tr) (k : Nat) (h : k < L.length) : liesL (L.take (k + 1)) = liesL (L.take k) ++ [u8 L[k].f, L[k].sec, L[k].v] := by
  rw [List.take_succ_eq_append_getElem h, liesL_append]
  rfl
theorem allT_succ (L : List Tr) (k : Nat) (h : k < L.length) : allT (L.take (k + 1)) = (allT (L.take k) && L[k].may) := by
  rw [List.take_succ_eq_append_getElem h, allT_append]
  simp [allT]
theorem allT_take {L : List Tr} (h : allT L = true) (j : Nat) : allT (L.take j) = true := by
  unfold allT at h ⊢
  rw [List.all_eq_true] at h ⊢
  exact fun x hx => h x (List.mem_of_mem_take hx)

theorem conv_u8 {z : Int} (h : 0 ≤ z ∧ z ≤ 255) : IntKind.u8.wrap z = z := by
  simp [IntKind.wrap, IntKind.bits, IntKind.signed]
  omega

/-- Octets in a new block. -/
theorem new_rd (w : World) (cs : Array Value) (l : List UInt8) (n : Nat) (h : cs = (l.map bv).toArray) (hn : l.length = n) (hl : n ≤ 1000) :
    Rd (w.alloc (.cells cs 5)) (w.alloc (.cells cs 5)).heap.size (some ⟨w.heap.size, 0, none⟩) l n := by
  subst h hn
  have hb : Bk (w.alloc (.cells (l.map bv).toArray 5)) w.heap.size l := heap_alloc_new w _
  exact hb.rd (by simp) (Nat.le_refl _) (by unfold maxLen; omega)

set_option maxHeartbeats 1000000 in
theorem tput_any (A : Option Addr) (L : List Tr) (n c : Nat) (P : List UInt8) (z : Nat) (er : Int) (w : World) (hn : n = L.length) (hl : n ≤ 200) (hr : RdT w A L c) (hP : putL L = P) (hz : P.length = z) (he : perr L = er) :
    Calls Try.prog 21 #[.slice A n c] w fun e w' => ∃ A' c', e = .returned (.tuple #[.slice A' z c', .int .i64 er]) ∧ Rd w' w'.heap.size A' P c' ∧ Below w.heap.size w w' := by
  have HR := keepd hr
  have HN := keepd hn
  have HP := keepd hP
  have HZ := keepd hz
  have HE := keepd he
  have c1 := hr.1
  have c2 := hr.2.1
  unfold maxLen at c2
  rw [← hn] at c1
  clear hr hn hP hz he
  obtain ⟨cur, hmk, hown⟩ := makeB_run (3 * n) (by omega) w
  rw [show ((3 * n : Nat) : Int) = 3 * (n : Int) by omega] at hmk
  have HO0 := keepd hown
  have HB0 := keepd (bAlloc (Below.refl w.heap.size w) (.cells cur 5))
  clear hown
  go_enter Try.func21, Try.ntmps21
  go_wp2_with fail
  go_loopw [4, 14] (fun vb vi wr => ∃ k : Nat, k ≤ n ∧ vi = .int .i64 k ∧ Hid (Own wr w.heap.size vb (liesL (L.take k))) ∧ Hid (allT (L.take k) = true) ∧ Hid (Below w.heap.size w wr)) (fun _ vi _ => n - (intOf vi).toNat)
  case atStart => exact ⟨0, by omega, rfl, HO0.out, rfl, HB0.out⟩
  case round =>
    obtain ⟨k, hk, rfl, HO, HT, HB⟩ := hrel
    by_cases hlt : k < n
    · have hkL : k < L.length := by rw [← HN.out]; exact hlt
      obtain ⟨b, off, rfl, hbl, hce⟩ := (HR.out.at_ HB.out).get k hkL
      have HS := keepd (liesL_succ L k hkL)
      have HA := keepd (allT_succ L k hkL)
      have HLn : Hid ((liesL (L.take k)).length ≤ 600) := by show _ ≤ _; rw [liesL_len, List.length_take]; omega
      generalize L[k] = X at *
      obtain ⟨e0, e1, e2, e3, e4, e5⟩ := hce
      obtain ⟨m, hm⟩ : ∃ m, mayT X.f X.lv = m := ⟨_, rfl⟩
      have HC := fun w => check_any X.f X.lv X.a X.i X.o (X.v.toNat : Int) m hm w
      have HM := keepd hm
      clear hm hmk
      cases m
      · go_wp2_with fail
        with_reducible refine (HC _).mono ?_
        rintro e w2 ⟨rfl, hb2⟩
        have hb : Below w.heap.size w w2 := bCall HB.out (upA hb2)
        have hno : allT L = false := by
          cases hal : allT L
          · rfl
          · have := allT_take hal (k + 1)
            rw [HA.out, show X.may = false from HM.out, Bool.and_false] at this
            cases this
        obtain ⟨p1, p2⟩ := put_no hno
        rw [HP.out] at p1
        rw [HE.out] at p2
        subst p1 p2
        have hz0 := HZ.out
        simp at hz0
        subst hz0
        have HB2 := keepd hb
        clear hb hb2 hno HC e0 e1 e2 e3 e4 e5
        go_wp2
        go_returns
        exact ⟨none, 0, rfl, Rd.nil _ _, HB2.out⟩
      · go_wp2_with fail
        with_reducible refine (HC _).mono ?_
        rintro e w2 ⟨rfl, hb2⟩
        have hb : Below wr.heap.size wr w2 := upA hb2
        have q := ((SR.new 60 wr [.int .i64 X.f, .int .i64 X.lv, .bool X.a, .bool X.i, .bool X.o, .int .u8 (X.v.toNat : Int)]).call hb2 (by simp))
        have hql := q.lt
        obtain ⟨q0, q1, q2, q3, q4, q5⟩ := sr6 q
        have HQ := keepd q
        have HO2 := keepd (HO.out.below hb)
        have HB2 := keepd (bCall HB.out hb)
        have hsz := HB2.out.size
        have hX := mayT_iff.1 HM.out
        have hxu := conv_u8 ⟨hX.1, hX.2.1⟩
        have HSec : Hid (∀ w, Calls Try.prog 35 #[.agg #[.int .i64 X.f, .int .i64 X.lv, .bool X.a, .bool X.i, .bool X.o, .int .u8 (X.v.toNat : Int)]] w fun e w' => e = .returned (.int .u8 (X.sec.toNat : Int)) ∧ Below w.heap.size w w') := second_any X ⟨hX.2.2.1, hX.2.2.2⟩
        have HCs : Hid (#[Value.int .u8 X.f, Value.int .u8 (X.sec.toNat : Int), Value.int .u8 (X.v.toNat : Int)] = ([u8 X.f, X.sec, X.v].map bv).toArray) := by
          show _ = _
          simp only [List.map_cons, List.map_nil, bv]
          rw [u8_back hX.1 hX.2.1]
        obtain ⟨g, hgw⟩ : ∃ g, wr.heap.size = g := ⟨_, rfl⟩
        rw [hgw] at HQ hql q0 q1 q2 q3 q4 q5
        rw [hgw]
        clear hb hb2 HC e0 e1 e2 e3 e4 e5 q hX
        go_wp2_with fail
        have hgo : u4.ownBlock ≠ some g := fun e => by
          have := (HO.out.ge g e).2
          omega
        go_region_held3 (fun W => W.cell? ⟨g, 0, none⟩ = some (.int .i64 X.f) ∧ W.cell? ⟨g, 1, none⟩ = some (.int .i64 X.lv) ∧ W.cell? ⟨g, 2, none⟩ = some (.bool X.a) ∧ W.cell? ⟨g, 3, none⟩ = some (.bool X.i) ∧ W.cell? ⟨g, 4, none⟩ = some (.bool X.o) ∧ W.cell? ⟨g, 5, none⟩ = some (.int .u8 (X.v.toNat : Int)))
          ((refine sr6 ?_; repeat (first | assumption | exact HQ.out | with_reducible refine SR.alloc ?_ _ | with_reducible refine SR.drew ?_)))
          (first | (go_at_call 35; (with_reducible refine (HSec.out _).mono ?_); rintro e w4 ⟨rfl, hb4⟩; have hbb : Below w2.heap.size w2 w4 := noDrew hb4; have HO4 := keepd (HO2.out.below hbb); have HB4 := keepd (bCall HB2.out hbb); have hsz4 := HB4.out.size; have hq4 := HQ.out.call hbb hql)
                 | (refine step_app _ rfl (.tmp 23) (.tmp 31) rfl w.heap.size _ (liesL (L.take k)) rfl (HO4.out.alloc _) _ (some ⟨w4.heap.size, 0, none⟩) 3 3 [u8 X.f, X.sec, X.v] rfl rfl (new_rd w4 _ _ 3 HCs.out rfl (by omega)) (by have := HLn.out; simp only [List.length_cons, List.length_nil]; omega) (by simp only [World.size_alloc]; omega) ?_; intro va w5 ho hg hat; have hb5 := app_below (bAlloc HB4.out _) (HO4.out.alloc _) hg; rw [← HS.out] at ho; have HO5 := keepd ho; have HB5 := keepd hb5; have hq5 := (hq4.alloc _).grown hg hgo; clear ho hg hat hb5))
        have HA5 : Hid (allT (L.take (k + 1)) = true) := by
          show _ = _
          rw [HA.out, HT.out, show X.may = true from HM.out]
          rfl
        clear hbb hb4 hq4 hq5 hgo HQ HO4 HB4 HO2 HB2 hsz4 HSec q0 q1 q2 q3 q4 q5
        go_wp2
        go_roundw
        case rel => exact ⟨k + 1, by omega, by go_num, HO5, HA5, HB5⟩
        case measure => simp [intOf]; omega
    · obtain rfl : k = n := by omega
      have H1 : Hid (Own wr w.heap.size u4 (liesL L)) := by
        have := HO.out
        rw [List.take_of_length_le (by rw [← HN.out]; omega)] at this
        exact this
      have h2 : allT L = true := by
        have := HT.out
        rw [List.take_of_length_le (by rw [← HN.out]; omega)] at this
        exact this
      obtain ⟨p1, p2⟩ := put_yes h2
      rw [HP.out] at p1
      rw [HE.out] at p2
      subst p1 p2
      obtain ⟨A', c', rfl, hr'⟩ := H1.out.rd
      have H3 := keepd hr'
      clear hr' h2 H1 HO hmk
      have hz0 := HZ.out
      go_wp2
      go_returns
      exact ⟨A', c', by rw [hz0]; rfl, H3.out, HB.out⟩

end Go.Proofs.Ytflmplnampgflaa
