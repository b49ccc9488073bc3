/-
  The contract of Get. No conditions beyond those each theorem states.
-/
import Derived.Test.YtflmplnampgflaaS5
namespace Go.Proofs.Ytflmplnampgflaa
open Go.RowKit
set_option maxRecDepth 100000

/-- What is got of b is T, and then what is got behind j octets. -/
def Gets (b : List UInt8) (j : Nat) (T : List Tr) : Prop := getL b = (getL (b.drop j)).map (T ++ ·)

theorem Gets.start (b : List UInt8) : Gets b 0 [] := by unfold Gets; simp
theorem drop3 {b : List UInt8} {j : Nat} (h0 : j < b.length) (h1 : j + 1 < b.length) (h2 : j + 2 < b.length) : b.drop j = b[j] :: b[j + 1] :: b[j + 2] :: b.drop (j + 3) := by
  rw [List.drop_eq_getElem_cons h0, List.drop_eq_getElem_cons h1, List.drop_eq_getElem_cons h2]
theorem Gets.step {b : List UInt8} {j : Nat} {T : List Tr} (h : Gets b j T) (h0 : j < b.length) (h1 : j + 1 < b.length) (h2 : j + 2 < b.length) (hs : isS b[j + 1] = true) : Gets b (j + 3) (T ++ [tri b[j] b[j + 1] b[j + 2]]) := by
  unfold Gets at h ⊢
  rw [h, drop3 h0 h1 h2, getL_cons, hs]
  cases getL (b.drop (j + 3)) <;> simp
theorem Gets.stop {b : List UInt8} {j : Nat} {T : List Tr} (h : Gets b j T) (h0 : j < b.length) (h1 : j + 1 < b.length) (h2 : j + 2 < b.length) (hs : isS b[j + 1] = false) : getL b = none := by
  unfold Gets at h
  rw [h, drop3 h0 h1 h2, getL_cons, hs]
  rfl
theorem Gets.short {b : List UInt8} {j : Nat} {T : List Tr} (h : Gets b j T) (h0 : j < b.length) (h2 : b.length < j + 3) : getL b = none := by
  unfold Gets at h
  rw [h, get_short (by rw [List.length_drop]; omega)]
  rfl
theorem Gets.end_ {b : List UInt8} {j : Nat} {T : List Tr} (h : Gets b j T) (h0 : b.length ≤ j) : getL b = some T := by
  unfold Gets at h
  rw [h, List.drop_of_length_le h0, getL_nil]
  simp

theorem SR.rdT {w : World} (X : Tr) : RdT (w.alloc (.cells #[.int .i64 X.f, .int .i64 X.lv, .bool X.a, .bool X.i, .bool X.o, .int .u8 (X.v.toNat : Int)] 60)) (some ⟨w.heap.size, 0, none⟩) [X] 1 := one_rdT w X

theorem appT_below {w1 w w' : World} {v : Value} {L : List Tr} (h : Below w1.heap.size w1 w) (hown : OwnT w w1.heap.size v L) (hg : w.grownBy w' v.ownBlock) : Below w1.heap.size w1 w' :=
  h.trans (ownT_grown hown hg h.size)

/-- Three octets, in every world that has w's old memory. -/
theorem sOct {w W : World} {g o0 o1 o2 : Nat} {u0 u1 u2 : Value} (k0 : w.cell? ⟨g, o0, none⟩ = some u0) (k1 : w.cell? ⟨g, o1, none⟩ = some u1) (k2 : w.cell? ⟨g, o2, none⟩ = some u2) (hg : g < w.heap.size) (h : Below w.heap.size w W) :
    W.cell? ⟨g, o0, none⟩ = some u0 ∧ W.cell? ⟨g, o1, none⟩ = some u1 ∧ W.cell? ⟨g, o2, none⟩ = some u2 ∧ Below w.heap.size w W :=
  ⟨(h.cell (p := ⟨g, _, none⟩) hg).trans k0, (h.cell (p := ⟨g, _, none⟩) hg).trans k1, (h.cell (p := ⟨g, _, none⟩) hg).trans k2, h⟩

set_option maxHeartbeats 1000000 in
theorem tget_any (A : Option Addr) (b : List UInt8) (n c : Nat) (G : List Tr) (z : Nat) (er : Int) (w : World) (hn : n = b.length) (hl : n ≤ 600) (hr : Rd w w.heap.size A b c) (hG : gotL b = G) (hz : G.length = z) (he : gerr b = er) :
    Calls Try.prog 46 #[.slice A n c] w fun e w' => ∃ A' c', e = .returned (.tuple #[.slice A' z c', .int .i64 er]) ∧ RdT w' A' G c' ∧ Below w.heap.size w w' := by
  have HR := keepd hr
  have HN := keepd hn
  have HG := keepd hG
  have HZ := keepd hz
  have HE := keepd he
  have c1 := hr.1
  have c2 := hr.2.1
  unfold maxLen at c2
  rw [← hn] at c1
  clear hr hn hG hz he
  by_cases h3 : n % 3 = 0
  · obtain ⟨m, hm⟩ : ∃ m, n = 3 * m := ⟨n / 3, by omega⟩
    obtain ⟨cur, hmk, hown⟩ := makeT_run m (by omega) w
    have hd : Int.tdiv (n : Int) 3 = (m : Int) := by rw [Int.tdiv_eq_ediv_of_nonneg (by omega)]; omega
    have hrm : Int.tmod (n : Int) 3 = 0 := by rw [Int.tmod_eq_emod_of_nonneg (by omega)]; omega
    have hwm : wrap64 (m : Int) = (m : Int) := by unfold wrap64; omega
    have HO0 := keepd hown
    have HB0 := keepd (bAlloc (Below.refl w.heap.size w) (.cells cur 60))
    clear hown hm
    go_enter Try.func46, Try.ntmps46
    go_wp2_with fail
    go_loopw [4, 5] (fun vl vi wr => ∃ (j : Nat) (T : List Tr), j ≤ n ∧ j % 3 = 0 ∧ 3 * T.length = j ∧ vi = .int .i64 (j : Int) ∧ Hid (OwnT wr w.heap.size vl T) ∧ Hid (Gets b j T) ∧ Hid (Below w.heap.size w wr)) (fun _ vi _ => n - (intOf vi).toNat)
    case atStart => exact ⟨0, [], by omega, rfl, rfl, rfl, HO0.out, Gets.start b, HB0.out⟩
    case round =>
      obtain ⟨j, T, hj, hj3, hT, rfl, HO, HT, HB⟩ := hrel
      clear hwm hd hrm
      by_cases hlt : j < n
      · have h0 : j < b.length := by rw [← HN.out]; exact hlt
        have h1 : j + 1 < b.length := by rw [← HN.out]; omega
        have h2 : j + 2 < b.length := by rw [← HN.out]; omega
        have k2 : j + 2 < n := by omega
        obtain ⟨g, off, rfl, hgl, d0⟩ := HR.out.form h0
        obtain ⟨g', off', hA, _, d1⟩ := HR.out.form h1
        simp only [Option.some.injEq, Addr.mk.injEq, and_true] at hA
        obtain ⟨rfl, rfl⟩ := hA
        obtain ⟨g', off', hA, _, d2⟩ := HR.out.form h2
        simp only [Option.some.injEq, Addr.mk.injEq, and_true] at hA
        obtain ⟨rfl, rfl⟩ := hA
        have D0 := keepd d0
        have D1 := keepd d1
        have D2 := keepd d2
        obtain ⟨e0, e1, e2, _⟩ := sOct d0 d1 d2 hgl HB.out
        clear d0 d1 d2
        have HS := fun h => keepd (HT.out.step h0 h1 h2 h)
        have HS' := fun h => keepd (HT.out.stop h0 h1 h2 h)
        generalize b[j] = x at *
        generalize b[j + 1] = y at *
        generalize b[j + 2] = u at *
        have hy := (bits_of y).2.2.2.2.1
        clear hmk HB0 HO0
        cases hq : isS y
        · rw [hq] at hy
          have hno := (HS' hq).out
          obtain ⟨p1, p2⟩ := got_no hno
          rw [HG.out] at p1
          rw [HE.out] at p2
          subst p1 p2
          have hz0 := HZ.out
          simp at hz0
          subst hz0
          clear HS HS' hno
          simp only [Bool.not_false] at hy
          go_wp2
          go_returns
          exact ⟨none, 0, rfl, RdT.nil _, HB.out⟩
        · rw [hq] at hy
          have HS := HS hq
          clear HS'
          simp only [Bool.not_true] at hy
          have HC : Hid (∀ w, Calls Try.prog 48 #[.int .u8 (x.toNat : Int), .int .u8 (y.toNat : Int), .int .u8 (u.toNat : Int)] w fun e w' => e = .returned (.agg #[.int .i64 (tri x y u).f, .int .i64 (tri x y u).lv, .bool (tri x y u).a, .bool (tri x y u).i, .bool (tri x y u).o, .int .u8 ((tri x y u).v.toNat : Int)]) ∧ Below w.heap.size w w') := triple_any x y u
          generalize tri x y u = X at *
          have hsz := HB.out.size
          have hT9 : T.length ≤ 300 := by omega
          have i0 : (0 : Int) ≤ (j : Int) := by omega
          have i1 : (j : Int) < (n : Int) := by omega
          have i2 : (0 : Int) ≤ (j : Int) + 1 := by omega
          have i3 : (j : Int) + 1 < (n : Int) := by omega
          have i4 : (0 : Int) ≤ (j : Int) + 2 := by omega
          have i5 : (j : Int) + 2 < (n : Int) := by omega
          have w1 : IntKind.i64.wrap ((j : Int) + 1) = (j : Int) + 1 := wrap_small _ (by omega) (by omega)
          have w2 : IntKind.i64.wrap ((j : Int) + 2) = (j : Int) + 2 := wrap_small _ (by omega) (by omega)
          have t1 : ((j : Int) + 1).toNat = j + 1 := by omega
          have t2 : ((j : Int) + 2).toNat = j + 2 := by omega
          go_wp2_with fail
          go_region_held3 (fun W => W.cell? ⟨g, off + j, none⟩ = some (.int .u8 (x.toNat : Int)) ∧ W.cell? ⟨g, off + (j + 1), none⟩ = some (.int .u8 (y.toNat : Int)) ∧ W.cell? ⟨g, off + (j + 2), none⟩ = some (.int .u8 (u.toNat : Int)) ∧ Below w.heap.size w W)
            ((refine sOct D0.out D1.out D2.out hgl ?_; repeat (first | assumption | exact HB.out | with_reducible refine bAlloc ?_ _ | with_reducible refine Below.drew ?_)))
            (first | (go_at_call 48; (with_reducible refine (HC.out _).mono ?_); rintro e w4 ⟨rfl, hb4⟩; have hbb : Below wr.heap.size wr w4 := noDrew hb4; have HO4 := keepd (HO.out.below hbb); have hb5 := bCall HB.out hbb; have hsz4 := hb5.size)
                   | (refine step_appT _ rfl (.tmp 27) (.tmp 43) rfl w.heap.size _ T rfl (HO4.out.alloc _) (some ⟨w4.heap.size, 0, none⟩) 1 1 [X] rfl rfl (one_rdT w4 X) (by simp only [List.length_cons, List.length_nil]; omega) (by simp only [World.size_alloc]; omega) ?_; intro va w5 ho hg hat; have hb6 := appT_below (bAlloc hb5 _) (HO4.out.alloc _) hg; have HO5 := keepd ho; have HB5 := keepd hb6; clear ho hg hat))
          clear hbb hb4 HO4 hb5 hb6 hsz4 HC e0 e1 e2
          go_wp2
          go_roundw
          case rel => exact ⟨j + 3, T ++ [X], by omega, by omega, by simp; omega, by go_num, HO5, HS, HB5⟩
          case measure => simp [intOf]; omega
      · obtain rfl : j = n := by omega
        obtain ⟨p1, p2⟩ := got_yes (HT.out.end_ (by rw [← HN.out]; omega))
        rw [HG.out] at p1
        rw [HE.out] at p2
        subst p1 p2
        obtain ⟨A', c', rfl, hr'⟩ := HO.out.rd
        have H3 := keepd hr'
        have hz0 := HZ.out
        clear hr' HO hmk
        go_wp2
        go_returns
        exact ⟨A', c', by rw [hz0]; rfl, H3.out, HB.out⟩
  · have hno : getL b = none := get_short (by rw [← HN.out]; exact h3)
    obtain ⟨p1, p2⟩ := got_no hno
    rw [HG.out] at p1
    rw [HE.out] at p2
    subst p1 p2
    have hz0 := HZ.out
    simp at hz0
    subst hz0
    have hrm : Int.tmod (n : Int) 3 ≠ 0 := by rw [Int.tmod_eq_emod_of_nonneg (by omega)]; omega
    go_enter Try.func46, Try.ntmps46
    go_wp2
    go_returns
    exact ⟨none, 0, rfl, RdT.nil _, Below.refl _ _⟩

end Go.Proofs.Ytflmplnampgflaa
