/-
  The contracts of the document's own Same, of Whole and of the document's own Whole. No conditions beyond those each theorem states.
-/
import Derived.Test.YtjchkpnfdamgnaaT6
namespace Go.Proofs.Ytjchkpnfdamgnaa
open Go.RowKit
set_option maxRecDepth 100000

attribute [local go_sem ↓] ex_ld31 ex_st31 ex_al31 ex_bu31 ex_ix31 ex_eq31 ex_ne31 ex_eq29 ex_ne29 ex_ld25 ex_st25 ex_al25 ex_bu25 ex_ix25 ex_ld27 ex_st27 ex_eq27 ex_ne27
attribute [local go_sem] ptrB_at okPtr_at aggC_at agg62 isC_at isT_at eqV_t eqV_c isRow_new isRow_newp World.setRow_alloc_new agg6 isRow_new6 isV_at eqV_v

theorem take_eq_succ {L M : List Tr} {k : Nat} (hL : k < L.length) (hM : k < M.length) (h : L.take k = M.take k) (e : L[k] = M[k]) : L.take (k + 1) = M.take (k + 1) := by
  rw [List.take_succ_eq_append_getElem hL, List.take_succ_eq_append_getElem hM, h, e]

theorem same_any (A A' : Option Addr) (L M : List Tr) (n m c c' : Nat) (v : Bool) (w : World) (hn : n = L.length) (hm : m = M.length) (h : RdT w A L c) (h' : RdT w A' M c') (hv : decide (L = M) = v) :
    Calls Try.prog 21 #[.slice A n c, .slice A' m c'] w fun e w' => e = .returned (.bool v) ∧ Below w.heap.size w w' := by
  have HR := keepd h
  have HR' := keepd h'
  have HN := keepd hn
  have HM := keepd hm
  have HV := keepd hv
  have c1 := h.1
  have c2 := h.2.1
  have c3 := h'.1
  have c4 := h'.2.1
  unfold maxLen at c2 c4
  rw [← hn] at c1
  rw [← hm] at c3
  clear h h' hn hm hv
  by_cases hnm : n = m
  · subst hnm
    go_enter Try.func21, Try.ntmps21
    go_wp2_with fail
    go_loopw [5] (fun vi wr => ∃ k : Nat, k ≤ n ∧ vi = .int .i64 k ∧ Hid (L.take k = M.take k) ∧ Hid (Below w.heap.size w wr)) (fun vi _ => n - (intOf vi).toNat)
    case atStart => exact ⟨0, by omega, rfl, by simp [Hid], Below.refl _ _⟩
    case round =>
      obtain ⟨k, hk, rfl, HT, HB⟩ := hrel
      by_cases hlt : k < n
      · have hkL : k < L.length := by rw [← HN.out]; exact hlt
        have hkM : k < M.length := by rw [← HM.out]; exact hlt
        obtain ⟨b, off, rfl, hbl, hce⟩ := (HR.out.at_ HB.out).get k hkL
        obtain ⟨b', off', rfl, hbl', hce'⟩ := (HR'.out.at_ HB.out).get k hkM
        have HX : Hid (L[k] = M[k] → L.take (k + 1) = M.take (k + 1)) := fun e => take_eq_succ hkL hkM HT.out e
        have HY : Hid (L[k] ≠ M[k] → L ≠ M) := fun hne e => hne (by subst e; rfl)
        generalize L[k] = X at *
        generalize M[k] = Y at *
        obtain ⟨f, lv, a, i, o, u⟩ := X
        obtain ⟨f', lv', a', i', o', u'⟩ := Y
        obtain ⟨e0, e1, e2, e3, e4, e5⟩ := hce
        obtain ⟨d0, d1, d2, d3, d4, d5⟩ := hce'
        simp only [] at e0 e1 e2 e3 e4 e5 d0 d1 d2 d3 d4 d5
        have i0 : (0 : Int) ≤ (k : Int) := by omega
        have i1 : (k : Int) < (n : Int) := by omega
        have hs := sameTr_eq ⟨f, lv, a, i, o, u⟩ ⟨f', lv', a', i', o', u'⟩
        cases hq : sameTr ⟨f, lv, a, i, o, u⟩ ⟨f', lv', a', i', o', u'⟩
        · rw [hq] at hs
          have HF : Hid (v = false) := by
            show _ = _
            rw [← HV.out]
            exact decide_eq_false (HY.out (of_decide_eq_false hs.symm))
          clear hs
          go_wp2_with fail
          go_quiet (fail)
          go_wp2
          go_ret
          exact ⟨by rw [HF.out]; rfl, bDrewN HB.out _⟩
        · rw [hq] at hs
          have HF : Hid (L.take (k + 1) = M.take (k + 1)) := HX.out (of_decide_eq_true hs.symm)
          clear hs
          go_wp2_with fail
          go_quiet (fail)
          go_wp2
          go_roundw
          case rel => exact ⟨k + 1, by omega, by go_num, HF, bDrewN HB.out _⟩
          case measure => simp [intOf]; omega
      · obtain rfl : k = n := by omega
        have HF : Hid (v = true) := by
          show _ = _
          rw [← HV.out]
          have := HT.out
          rw [List.take_of_length_le (by rw [← HN.out]; omega), List.take_of_length_le (by rw [← HM.out]; omega)] at this
          exact decide_eq_true this
        go_wp2
        go_ret
        exact ⟨by rw [HF.out]; rfl, HB.out⟩
  · have g1 : ((n : Int) != (m : Int)) = true := by simp; omega
    have HF : Hid (v = false) := by
      show _ = _
      rw [← HV.out]
      exact decide_eq_false (fun e => hnm (by rw [HN.out, HM.out, e]))
    go_enter Try.func21, Try.ntmps21
    go_wp2
    go_ret
    exact ⟨by rw [HF.out]; rfl, Below.refl _ _⟩

/-- A table's cell, in every world that has w's old memory. -/
theorem sTab {w W : World} {b k : Nat} {X : Tb} (h : TB w b X) (hk : k < 31) (hb : Below w.heap.size w W) : W.cell? ⟨b, k * 2, none⟩ = some (.int .i64 (X k).lv) ∧ W.cell? ⟨b, k * 2 + 1, none⟩ = some (.int .u8 (X k).v) ∧ Below w.heap.size w W := by
  obtain ⟨c0, c1⟩ := TB.at (SR.call h hb (SR.lt h)) k hk
  exact ⟨c0, c1, hb⟩
theorem whole_next (X : Tb) {k : Nat} (h : 1 ≤ k) : wholeL X (k - 1) ++ [⟨(k : Int), (X k).lv, false, false, false, (X k).v⟩] = wholeL X k := by
  obtain ⟨j, rfl⟩ : ∃ j, k = j + 1 := ⟨k - 1, by omega⟩
  rw [wholeL_succ]
  rfl

/-- A table as triples, and the error. -/
def wholeF (X : Tb) : List Tr × Int := if mayT X = true then (wholeL X 30, 0) else ([], 1)

set_option maxHeartbeats 2000000 in
theorem whole_any (X : Tb) (L : List Tr) (m : Nat) (er : Int) (h : wholeF X = (L, er)) (hl : L.length = m) (w : World) : Calls Try.prog 12 #[tv X] w fun e w' => ∃ A c, e = .returned (.tuple #[.slice A m c, .int .i64 er]) ∧ RdT w' A L c ∧ Below w.heap.size w w' := by
  go_enter Try.func12, Try.ntmps12
  go_upto_region 1 with fail
  generalize hW : w.alloc (.cells (cs X).toArray 31) = W
  obtain ⟨h1, h2, h3⟩ := one_new _ _ _ _ hW
  clear hW h3
  obtain ⟨r1, k1⟩ := TB.facts h1
  have H1 := keepd h1
  have HB := keepd h2
  clear h1 h2
  obtain ⟨b0, hb0⟩ : ∃ b, w.heap.size = b := ⟨_, rfl⟩
  rw [hb0] at H1 r1 k1 ⊢
  clear hb0
  unfold wholeF at h
  rcases errT_cases X with ⟨hm, he⟩ | ⟨hm, he⟩
  case inr =>
    rw [hm] at h
    simp only [Bool.false_eq_true, if_false, Prod.mk.injEq] at h
    obtain ⟨rfl, rfl⟩ := h
    have hm0 : m = 0 := by rw [← hl]; rfl
    subst hm0
    have HC := keepd (tcheckE_any X 1 he)
    clear hm he hl
    go_wp2_with fail
    with_reducible refine (HC.out _).mono ?_
    rintro e w2 ⟨rfl, hb⟩
    have HB2 := keepd (bCall HB.out hb)
    clear hb r1 k1
    go_wp2
    go_returns
    exact ⟨none, 0, rfl, RdT.nil _, HB2.out⟩
  rw [hm] at h
  simp only [if_true, Prod.mk.injEq] at h
  obtain ⟨rfl, rfl⟩ := h
  obtain rfl : m = 30 := by rw [← hl, wholeL_len]
  have HC := keepd (tcheckE_any X 0 he)
  clear hm he hl
  go_wp2_with fail
  with_reducible refine (HC.out _).mono ?_
  rintro e w2 ⟨rfl, hb⟩
  have H2 := keepd (SR.call H1.out hb (SR.lt H1.out))
  have HB2 := keepd (bCall HB.out hb)
  clear hb r1 k1 H1 HB HC
  obtain ⟨cur, hmk0, hown⟩ := makeT_run 30 (by omega) w2
  have hmk : (Instr.makeSlice 39 (.int .i64 0) (.int .i64 30)).run Try.prog w2 = .ok (.slice (some ⟨w2.heap.size, 0, none⟩) 0 30) (w2.alloc (.cells cur 27)) := hmk0
  have HO0 := keepd hown
  have HB0 := keepd (bAlloc (Below.refl w2.heap.size w2) (.cells cur 27))
  clear hmk0 hown
  go_wp2_with fail
  go_loopw [5, 6] (fun vl vi wr => ∃ k : Nat, 1 ≤ k ∧ k ≤ 31 ∧ vi = .int .i64 (k : Int) ∧ Hid (OwnT wr w2.heap.size vl (wholeL X (k - 1))) ∧ Hid (Below w2.heap.size w2 wr)) (fun _ vi _ => 31 - (intOf vi).toNat)
  case atStart => exact ⟨1, by omega, by omega, rfl, HO0, HB0⟩
  case round =>
    clear HO0 HB0 hmk
    obtain ⟨k, hk1, hk, rfl, HO, HB⟩ := hrel
    by_cases hlt : k < 31
    · obtain ⟨c0, c1, _⟩ := sTab H2.out hlt HB.out
      have HS : Hid (∀ W, Below w2.heap.size w2 W → W.cell? ⟨b0, k * 2, none⟩ = some (.int .i64 (X k).lv) ∧ W.cell? ⟨b0, k * 2 + 1, none⟩ = some (.int .u8 (X k).v) ∧ Below w2.heap.size w2 W) := fun W h => sTab H2.out hlt h
      have HN := keepd (whole_next X hk1)
      have hT := wholeL_len X (k - 1)
      generalize wholeL X (k - 1) = T at *
      generalize X k = c at *
      have hT9 : T.length ≤ 30 := by omega
      have hsz := HB.out.size
      clear hT
      have i0 : (0 : Int) ≤ (k : Int) := by omega
      have i1 : (k : Int) < 31 := by omega
      go_wp2_with fail
      go_region_held3 (fun W => W.cell? ⟨b0, k * 2, none⟩ = some (.int .i64 c.lv) ∧ W.cell? ⟨b0, k * 2 + 1, none⟩ = some (.int .u8 c.v) ∧ Below w2.heap.size w2 W)
        ((refine HS.out _ ?_; repeat (first | assumption | exact HB.out | with_reducible refine bAlloc ?_ _ | with_reducible refine Below.drew ?_)))
        (first | (refine step_appT _ rfl (.tmp 17) (.tmp 28) rfl w2.heap.size _ T rfl (HO.out.drew.alloc _) (some ⟨wr.heap.size, 0, none⟩) 1 1 [⟨(k : Int), c.lv, false, false, false, c.v⟩] rfl rfl ?_ (by simp only [List.length_cons, List.length_nil]; omega) (by show w2.heap.size ≤ (wr.alloc _).heap.size; simp only [World.size_alloc]; omega) ?_; (exact one_rdT wr.drew ⟨(k : Int), c.lv, false, false, false, c.v⟩); intro va w5 ho hg hat; have hb6 := appT_below (bAlloc HB.out.drew _) (HO.out.drew.alloc _) hg; have HO5 := keepd ho; have HB5 := keepd hb6; clear ho hg hat))
      clear hb6 c0 c1
      go_wp2
      go_roundw
      case rel => exact ⟨k + 1, by omega, by omega, by go_num, by rw [Nat.add_sub_cancel, ← HN.out]; exact HO5, HB5⟩
      case measure => simp [intOf]; omega
    · obtain rfl : k = 31 := by omega
      obtain ⟨A', c', rfl, hr'⟩ := HO.out.rd
      have H3 := keepd hr'
      have hlen := wholeL_len X (31 - 1)
      clear hr' HO
      go_wp2
      go_returns
      exact ⟨A', c', by rw [hlen]; rfl, H3.out, bCall HB2.out HB.out⟩

set_option maxHeartbeats 2000000 in
theorem refWhole_any (X : Tb) (w : World) : Calls Try.prog 22 #[tv X] w fun e w' => ∃ A c, e = .returned (.slice A 30 c) ∧ RdT w' A (wholeL X 30) c ∧ Below w.heap.size w w' := by
  go_enter Try.func22, Try.ntmps22
  go_upto_region 1 with fail
  generalize hW : w.alloc (.cells (cs X).toArray 31) = W
  obtain ⟨h1, h2, h3⟩ := one_new _ _ _ _ hW
  clear hW h3
  have H2 := keepd h1
  have HB2 := keepd h2
  clear h1 h2
  obtain ⟨b0, hb0⟩ : ∃ b, w.heap.size = b := ⟨_, rfl⟩
  rw [hb0] at H2 ⊢
  clear hb0
  go_wp2_with fail
  go_loopw [3, 4] (fun vl vi wr => ∃ k : Nat, 1 ≤ k ∧ k ≤ 31 ∧ vi = .int .i64 (k : Int) ∧ Hid (OwnT wr W.heap.size vl (wholeL X (k - 1))) ∧ Hid (Below W.heap.size W wr)) (fun _ vi _ => 31 - (intOf vi).toNat)
  case atStart => exact ⟨1, by omega, by omega, rfl, OwnT.nil _ _, Below.refl _ _⟩
  case round =>
    obtain ⟨k, hk1, hk, rfl, HO, HB⟩ := hrel
    by_cases hlt : k < 31
    · obtain ⟨c0, c1, _⟩ := sTab H2.out hlt HB.out
      have HS : Hid (∀ V, Below W.heap.size W V → V.cell? ⟨b0, k * 2, none⟩ = some (.int .i64 (X k).lv) ∧ V.cell? ⟨b0, k * 2 + 1, none⟩ = some (.int .u8 (X k).v) ∧ Below W.heap.size W V) := fun V h => sTab H2.out hlt h
      have HN := keepd (whole_next X hk1)
      have hT := wholeL_len X (k - 1)
      generalize wholeL X (k - 1) = T at *
      generalize X k = c at *
      have hT9 : T.length ≤ 30 := by omega
      have hsz := HB.out.size
      clear hT
      have i0 : (0 : Int) ≤ (k : Int) := by omega
      have i1 : (k : Int) < 31 := by omega
      go_wp2_with fail
      go_region_held3 (fun V => V.cell? ⟨b0, k * 2, none⟩ = some (.int .i64 c.lv) ∧ V.cell? ⟨b0, k * 2 + 1, none⟩ = some (.int .u8 c.v) ∧ Below W.heap.size W V)
        ((refine HS.out _ ?_; repeat (first | assumption | exact HB.out | with_reducible refine bAlloc ?_ _ | with_reducible refine Below.drew ?_)))
        (first | (refine step_appT _ rfl (.tmp 9) (.tmp 20) rfl W.heap.size _ T rfl (HO.out.drew.alloc _) (some ⟨wr.heap.size, 0, none⟩) 1 1 [⟨(k : Int), c.lv, false, false, false, c.v⟩] rfl rfl ?_ (by simp only [List.length_cons, List.length_nil]; omega) (by show W.heap.size ≤ (wr.alloc _).heap.size; simp only [World.size_alloc]; omega) ?_; (exact one_rdT wr.drew ⟨(k : Int), c.lv, false, false, false, c.v⟩); intro va w5 ho hg hat; have hb6 := appT_below (bAlloc HB.out.drew _) (HO.out.drew.alloc _) hg; have HO5 := keepd ho; have HB5 := keepd hb6; clear ho hg hat))
      clear hb6 c0 c1
      go_wp2
      go_roundw
      case rel => exact ⟨k + 1, by omega, by omega, by go_num, by rw [Nat.add_sub_cancel, ← HN.out]; exact HO5, HB5⟩
      case measure => simp [intOf]; omega
    · obtain rfl : k = 31 := by omega
      obtain ⟨A', c', rfl, hr'⟩ := HO.out.rd
      have H3 := keepd hr'
      have hlen := wholeL_len X (31 - 1)
      clear hr' HO
      go_wp2
      go_ret
      exact ⟨A', c', by rw [hlen]; rfl, H3.out, bCall HB2.out HB.out⟩

end Go.Proofs.Ytjchkpnfdamgnaa
