/-
  LineMoves' walk. No conditions beyond those each theorem states.
-/
import Derived.Test.YtbkpihegagflaaaL0
namespace Go.Proofs.Ytbkpihegagflaaa
open Go.RowKit
set_option maxRecDepth 100000

theorem far24 {w1 : World} {b g : Nat} {ks : List Value} {x y : Value} {t : TypeId} (h : SR t w1 b ks) (hne : b ≠ g) : SR t ((w1.setCell ⟨g, 0, none⟩ x).setCell ⟨g, 1, none⟩ y) b ks :=
  (h.far (p := ⟨g, 0, none⟩) hne x).far (p := ⟨g, 1, none⟩) hne y
/-- The moves. -/
def mvs : List Value := [.int .i64 19, .int .i64 20, .int .i64 21, .int .i64 22, .int .i64 23, .int .i64 24]
theorem mvs_at {q : Nat} (h : q < 6) : mvs[q]? = some (.int .i64 ((19 + q : Nat) : Int)) := by
  match q, h with
  | 0, _ => rfl
  | 1, _ => rfl
  | 2, _ => rfl
  | 3, _ => rfl
  | 4, _ => rfl
  | 5, _ => rfl
/-- A move changes no octet. -/
theorem do_move (x : List UInt8) {s q : Nat} (hs : s ≤ x.length) (h : q < 6) : ∃ s1, doL x s ((19 + q : Nat) : Int) = some (x, s1) ∧ s1 ≤ x.length := by
  have h1 := back_le x s
  have h2 := on_le x hs
  match q, h with
  | 0, _ => exact ⟨s - 1, by simp [doL], by omega⟩
  | 1, _ => exact ⟨min (s + 1) x.length, by simp [doL], by omega⟩
  | 2, _ => exact ⟨backL x s, by simp [doL], by omega⟩
  | 3, _ => exact ⟨onL x s, by simp [doL], by omega⟩
  | 4, _ => exact ⟨0, by simp [doL], by omega⟩
  | 5, _ => exact ⟨x.length, by simp [doL], by omega⟩
theorem sR2 {V W : World} {g h o i j : Nat} {x y u v : Value} (k0 : V.cell? ⟨g, 0, none⟩ = some x) (k1 : V.cell? ⟨g, 1, none⟩ = some y) (k2 : V.cell? ⟨h, o, none⟩ = some u) (k3 : V.cell? ⟨i, j, none⟩ = some v) (hg : g < V.heap.size) (hh : h < V.heap.size) (hi : i < V.heap.size) (b : Below V.heap.size V W) :
    W.cell? ⟨g, 0, none⟩ = some x ∧ W.cell? ⟨g, 1, none⟩ = some y ∧ W.cell? ⟨h, o, none⟩ = some u ∧ W.cell? ⟨i, j, none⟩ = some v ∧ Below V.heap.size V W :=
  ⟨(b.cell (p := ⟨g, 0, none⟩) hg).trans k0, (b.cell (p := ⟨g, 1, none⟩) hg).trans k1, (b.cell (p := ⟨h, o, none⟩) hh).trans k2, (b.cell (p := ⟨i, j, none⟩) hi).trans k3, b⟩
theorem at_mvs (w : World) (x y : Value) (V : World) (hV : (w.alloc (.cells #[x, y] 24)).alloc (.cells #[.int .i64 19, .int .i64 20, .int .i64 21, .int .i64 22, .int .i64 23, .int .i64 24] 3) = V) : Hid (SR 24 V w.heap.size [x, y]) ∧ Hid (SR 3 V (w.heap.size + 1) mvs) ∧ Hid (Below w.heap.size w V) := by
  subst hV
  refine ⟨row_alloc (heap_alloc_new w _), ?_, bAlloc (bAlloc (Below.refl _ _) _) _⟩
  have := heap_alloc_new (w.alloc (.cells #[x, y] 24)) (.cells #[.int .i64 19, .int .i64 20, .int .i64 21, .int .i64 22, .int .i64 23, .int .i64 24] 3)
  rw [World.size_alloc] at this
  exact this

set_option maxHeartbeats 8000000 in
theorem moves_law (A : Option Addr) (l : List UInt8) (c : Nat) (z : Int) (A2 : Option Addr) (K : List UInt8) (c2 : Nat) (w : World) (hr : Rd w w.heap.size A l c) (hr2 : Rd w w.heap.size A2 K c2) :
    Calls Try.prog 7 #[.agg #[.slice A l.length c, .int .i64 z], .slice A2 K.length c2] w fun e w' => e = .returned (.bool true) ∧ Below w.heap.size w w' := by
  obtain ⟨n, hn⟩ : ∃ n, n = l.length := ⟨_, rfl⟩
  obtain ⟨n1, hn1⟩ : ∃ n1, n1 = K.length := ⟨_, rfl⟩
  rw [← hn, ← hn1]
  have HKR := keepd hr2
  have HN1 := keepd hn1
  clear hr2 hn1
  have HN := keepd hn
  have HR0 := keepd hr
  obtain ⟨m, hm⟩ : ∃ m, (fewL l).length = m := ⟨_, rfl⟩
  have HM := keepd hm
  have hm1 : m ≤ 4100 := by rw [← hm]; exact (few_le l).1
  clear hn hr hm
  go_enter Try.func7, Try.ntmps7
  go_upto_region 1 with fail
  generalize hV : w.alloc (.cells #[.slice A n c, .int .i64 z] 24) = V
  obtain ⟨H, HB⟩ := line_new _ _ _ _ hV
  obtain ⟨k0, k1, k2, k3, kt⟩ := line_facts H.out
  have CF := keepd (few_any A l n c m z V HN.out (HR0.out.at_ HB.out) HM.out)
  clear hV
  go_wp2_with fail
  with_reducible refine CF.out.mono ?_
  rintro e w1 ⟨rfl, hb1⟩
  have H1 := keepd (SR.call H.out hb1 H.out.lt)
  have HB1 := keepd (bCall HB.out hb1)
  obtain ⟨k0, k1, k2, k3, kt⟩ := line_facts H1.out
  clear hb1 CF H HB
  go_upto_region 2 with fail
  generalize hV : (w1.setCell ⟨w.heap.size, 0, none⟩ (.slice A m c)).setCell ⟨w.heap.size, 1, none⟩ (.int .i64 z) = V
  obtain ⟨H, HB⟩ := few_set (Nat.le_refl _) H1.out HB1.out _ hV
  have HR := keepd (HR0.out.few.at_ HB.out)
  have HR0x := keepd HR0.out.few
  generalize fewL l = x at *
  obtain ⟨k0, k1, k2, k3, kt⟩ := line_facts H.out
  clear hV H1 HB1 HR0 HN
  rcases Nat.lt_or_ge 200 m with h2 | h2
  case inl =>
    have y0 : (m : Int) > 200 := by omega
    have y1 : (200 : Int) < (m : Int) := by omega
    go_wp2_with fail
    with_reducible refine (awake_any _).mono ?_
    rintro e wz ⟨rfl, hbz⟩
    have HBz := keepd (bCall HB.out hbz)
    clear hbz
    go_wp2_with fail
    go_ret
    exact ⟨rfl, HBz.out⟩
  have y0 : ¬ (m : Int) > 200 := by omega
  have y1 : ¬ (200 : Int) < (m : Int) := by omega
  have y2 : ¬ 200 < m := by omega
  cases hv : mayV m z
  case false =>
    have CK := keepd (check_bad A m c z V hv)
    go_wp2_with fail
    with_reducible refine CK.out.mono ?_
    rintro e w2 ⟨rfl, hb2⟩
    have HB2 := keepd (bCall HB.out hb2)
    clear hb2
    go_wp2_with fail
    with_reducible refine (awake_any _).mono ?_
    rintro e wz ⟨rfl, hbz⟩
    have HBz := keepd (bCall HB2.out hbz)
    clear hbz
    go_wp2_with fail
    go_ret
    exact ⟨rfl, HBz.out⟩
  obtain ⟨h4, t, rfl, ht⟩ := mayV_inv hv
  have CK := keepd (check_ok A m c t V h4 ht)
  clear hv hm1
  go_wp2_with fail
  with_reducible refine CK.out.mono ?_
  rintro e w2 ⟨rfl, hb2⟩
  have HB2 := keepd (bCall HB.out hb2)
  have H2 := keepd (SR.call H.out hb2 H.out.lt)
  have HR2 := keepd (HR.out.at_ hb2)
  obtain ⟨k0, k1, k2, k3, kt⟩ := line_facts H2.out
  have HW2 := keepd kt
  clear hb2 CK HB H HR
  go_upto_region 6 with fail
  generalize hV7 : (w2.alloc (.cells #[.slice A m c, .int .i64 (t : Int)] 24)).alloc (.cells #[.int .i64 19, .int .i64 20, .int .i64 21, .int .i64 22, .int .i64 23, .int .i64 24] 3) = V7
  obtain ⟨HG5, HM6, HBV⟩ := at_mvs _ _ _ _ hV7
  have HB7 := keepd (bCall HB2.out HBV.out)
  have HG2 := keepd (SR.call H2.out HBV.out H2.out.lt)
  have HR7 := keepd (HR2.out.at_ HBV.out)
  clear HB2 HR2 H2 HBV hV7 k0 k1 k2 k3 kt y0 y1 y2
  go_wp2_with fail
  go_loopw [7] (fun vi wr => ∃ (k : Nat) (B : Option Addr) (d s : Nat), k ≤ n1 ∧ vi = .int .i64 k ∧ Hid (s ≤ m) ∧ Hid (SR 24 wr w2.heap.size [.slice B m d, .int .i64 (s : Int)]) ∧ Hid (SR 3 wr (w2.heap.size + 1) mvs) ∧ Hid (SR 24 wr w.heap.size [.slice A m c, .int .i64 (t : Int)]) ∧ Hid (Rd wr wr.heap.size B x d) ∧ Hid (Below w.heap.size w wr)) (fun vi _ => n1 - (intOf vi).toNat)
  case atStart => exact ⟨0, A, c, t, by omega, rfl, ht, HG5, HM6, HG2, HR7, HB7⟩
  clear HG5 HM6 HG2 HR7 HB7
  case round =>
    obtain ⟨k, B, d, s, hk, rfl, HS, HL, HMV, HG, HR, HB⟩ := hrel
    by_cases hgo : k < n1 ∧ k < 40
    case neg =>
      rcases Nat.lt_or_ge k n1 with hlt | hge
      · have z0 : (k : Int) < (n1 : Int) := by omega
        have z1 : ¬ (k : Int) < 40 := by omega
        have z2 : ¬ k < 40 := by omega
        clear hgo hlt
        obtain ⟨w6, hw6⟩ : ∃ W, W = wr := ⟨_, rfl⟩
        subst hw6
        obtain ⟨k0, k1, k2, k3, kt⟩ := line_facts HG.out
        have CD := keepd (do_any A x x m c t m m 24 w6 HM.out.symm (HR0x.out.at_ HB.out) h4 ht (by rw [← HM.out]; simp [doL]) HM.out)
        have HW6 := keepd HG.out.lt
        go_wp2_with fail
        with_reducible refine CD.out.mono ?_
        rintro e w7 ⟨⟨B1, e1, rfl, ho⟩, hb7⟩
        have HO7 := keepd ho.rdOf
        clear CD ho
        go_upto_region 14 with fail
        generalize hV8 : w7.alloc (.cells #[.slice B1 m e1, .int .i64 (m : Int)] 24) = V8
        obtain ⟨H10, HBV, _⟩ := line_new1 _ _ _ _ hV8
        have hb8 := bCall hb7 HBV.out
        have HG8 := keepd (SR.call HG.out hb8 HG.out.lt)
        have HB8 := keepd (bCall HB.out hb8)
        have HR8 := keepd (HO7.out.at_ HBV.out)
        have HW7 := keepd (show w.heap.size < w7.heap.size from Nat.lt_of_lt_of_le HW6.out hb7.size)
        clear hV8 HBV hb7 hb8 HO7 HG HB HL HMV HR k0 k1 k2 k3 kt
        go_wp2_with fail
        go_loopw [12] (fun vi wr => ∃ (i : Nat) (B : Option Addr) (d s : Nat), i ≤ m ∧ vi = .int .i64 i ∧ Hid (s + i ≤ m) ∧ Hid (SR 24 wr w7.heap.size [.slice B m d, .int .i64 (s : Int)]) ∧ Hid (SR 24 wr w.heap.size [.slice A m c, .int .i64 (t : Int)]) ∧ Hid (Rd wr wr.heap.size B x d) ∧ Hid (Below w.heap.size w wr)) (fun vi _ => m - (intOf vi).toNat)
        case atStart => exact ⟨0, B1, e1, m, by omega, rfl, keepd (by omega), H10, HG8, HR8, HB8⟩
        clear H10 HG8 HR8 HB8
        case round =>
          obtain ⟨i, B, d, s, hi, rfl, HS, HL, HG, HR, HB⟩ := hrel
          obtain ⟨k0, k1, k2, k3, kt⟩ := line_facts HL.out
          obtain ⟨g0, g1, _, _, _⟩ := line_facts HG.out
          rcases Nat.lt_or_ge i m with hlt | hge
          case inr =>
            have z5 : ¬ (i : Int) < (m : Int) := by omega
            have z6 : ¬ i < m := by omega
            obtain rfl : s = 0 := by have := HS.out; omega
            go_wp2_with fail
            with_reducible refine (awake_any _).mono ?_
            rintro e wz ⟨rfl, hbz⟩
            have HBz := keepd (bCall HB.out hbz)
            clear hbz
            go_wp2_with fail
            go_ret
            exact ⟨rfl, HBz.out⟩
          have z5 : (i : Int) < (m : Int) := by omega
          have z7 : (0 : Int) ≤ (i : Int) := by omega
          have hsm : s ≤ m := by have := HS.out; omega
          obtain ⟨s1, hs1⟩ : ∃ s1, backL x s = s1 := ⟨_, rfl⟩
          have hle := back_le x s
          have hsp := (back_spec x s).2
          rw [hs1] at hle hsp
          have CD := keepd (do_any B x x m d s s1 m 21 wr HM.out.symm HR.out h4 hsm (by rw [← hs1]; simp [doL]) HM.out)
          have KT := keepd kt
          clear hs1
          go_wp2_with fail
          with_reducible refine CD.out.mono ?_
          rintro e w5 ⟨⟨B1, e1, rfl, ho⟩, hb5⟩
          have HO5 := keepd ho
          clear CD ho
          go_upto_region 18 with fail
          generalize hV5 : w5.alloc (.cells #[.slice B1 m e1, .int .i64 (s1 : Int)] 24) = V5
          obtain ⟨H13, HBV, _⟩ := line_new1 _ _ _ _ hV5
          have hb := bCall hb5 HBV.out
          have HOb := keepd (HO5.out.below HBV.out)
          have HLb := keepd (SR.call HL.out hb HL.out.lt)
          have HGb := keepd (SR.call HG.out hb HG.out.lt)
          have HBb := keepd (bCall HB.out hb)
          clear hV5 hb hb5 HO5 HBV
          have hfin := few_set (w := w) (Nat.le_of_lt HW7.out) HLb.out HBb.out (x' := .slice B1 m e1) (y' := .int .i64 (s1 : Int)) _ rfl
          have hgf := keepd (far24 (x := .slice B1 m e1) (y := .int .i64 (s1 : Int)) HGb.out (Nat.ne_of_lt HW7.out))
          have hfr := keepd (rd_set HOb.out KT.out (x := .slice B1 m e1) (y := .int .i64 (s1 : Int)))
          obtain ⟨k0, k1, k2, k3, kt⟩ := line_facts HLb.out
          obtain ⟨j0, j1, j2, j3, jt⟩ := line_facts H13.out
          have HS1 : Hid (s1 + (i + 1) ≤ m) := by
            show _ ≤ _
            have := HS.out
            rcases hsp with h | h
            · omega
            · have := h.1; omega
          rcases Nat.eq_zero_or_pos s with hs0 | hs0
          · have x0 : ¬ (s : Int) > 0 := by omega
            have x1 : ¬ (0 : Int) < (s : Int) := by omega
            have x2 : ¬ 0 < s := by omega
            clear hs0 hsp hle
            go_wp2_with fail
            go_roundw
            case rel => exact ⟨i + 1, B1, e1, s1, by omega, by go_num, HS1, hfin.1, hgf, hfr, hfin.2⟩
            case measure => simp [intOf]; omega
          · have x0 : (s : Int) > 0 := by omega
            have x1 : (0 : Int) < (s : Int) := by omega
            have x3 : ¬ (s1 : Int) ≥ (s : Int) := by
              rcases hsp with h | h
              · omega
              · have := h.1; omega
            have x4 : ¬ (s : Int) ≤ (s1 : Int) := x3
            have x5 : (s1 : Int) < (s : Int) := by omega
            clear hsp hle
            go_wp2_with fail
            go_roundw
            case rel => exact ⟨i + 1, B1, e1, s1, by omega, by go_num, HS1, hfin.1, hgf, hfr, hfin.2⟩
            case measure => simp [intOf]; omega
      · have z0 : ¬ (k : Int) < (n1 : Int) := by omega
        have z1 : ¬ k < n1 := by omega
        clear hgo hge
        obtain ⟨w6, hw6⟩ : ∃ W, W = wr := ⟨_, rfl⟩
        subst hw6
        obtain ⟨k0, k1, k2, k3, kt⟩ := line_facts HG.out
        have CD := keepd (do_any A x x m c t m m 24 w6 HM.out.symm (HR0x.out.at_ HB.out) h4 ht (by rw [← HM.out]; simp [doL]) HM.out)
        have HW6 := keepd HG.out.lt
        go_wp2_with fail
        with_reducible refine CD.out.mono ?_
        rintro e w7 ⟨⟨B1, e1, rfl, ho⟩, hb7⟩
        have HO7 := keepd ho.rdOf
        clear CD ho
        go_upto_region 14 with fail
        generalize hV8 : w7.alloc (.cells #[.slice B1 m e1, .int .i64 (m : Int)] 24) = V8
        obtain ⟨H10, HBV, _⟩ := line_new1 _ _ _ _ hV8
        have hb8 := bCall hb7 HBV.out
        have HG8 := keepd (SR.call HG.out hb8 HG.out.lt)
        have HB8 := keepd (bCall HB.out hb8)
        have HR8 := keepd (HO7.out.at_ HBV.out)
        have HW7 := keepd (show w.heap.size < w7.heap.size from Nat.lt_of_lt_of_le HW6.out hb7.size)
        clear hV8 HBV hb7 hb8 HO7 HG HB HL HMV HR k0 k1 k2 k3 kt
        go_wp2_with fail
        go_loopw [12] (fun vi wr => ∃ (i : Nat) (B : Option Addr) (d s : Nat), i ≤ m ∧ vi = .int .i64 i ∧ Hid (s + i ≤ m) ∧ Hid (SR 24 wr w7.heap.size [.slice B m d, .int .i64 (s : Int)]) ∧ Hid (SR 24 wr w.heap.size [.slice A m c, .int .i64 (t : Int)]) ∧ Hid (Rd wr wr.heap.size B x d) ∧ Hid (Below w.heap.size w wr)) (fun vi _ => m - (intOf vi).toNat)
        case atStart => exact ⟨0, B1, e1, m, by omega, rfl, keepd (by omega), H10, HG8, HR8, HB8⟩
        clear H10 HG8 HR8 HB8
        case round =>
          obtain ⟨i, B, d, s, hi, rfl, HS, HL, HG, HR, HB⟩ := hrel
          obtain ⟨k0, k1, k2, k3, kt⟩ := line_facts HL.out
          obtain ⟨g0, g1, _, _, _⟩ := line_facts HG.out
          rcases Nat.lt_or_ge i m with hlt | hge
          case inr =>
            have z5 : ¬ (i : Int) < (m : Int) := by omega
            have z6 : ¬ i < m := by omega
            obtain rfl : s = 0 := by have := HS.out; omega
            go_wp2_with fail
            with_reducible refine (awake_any _).mono ?_
            rintro e wz ⟨rfl, hbz⟩
            have HBz := keepd (bCall HB.out hbz)
            clear hbz
            go_wp2_with fail
            go_ret
            exact ⟨rfl, HBz.out⟩
          have z5 : (i : Int) < (m : Int) := by omega
          have z7 : (0 : Int) ≤ (i : Int) := by omega
          have hsm : s ≤ m := by have := HS.out; omega
          obtain ⟨s1, hs1⟩ : ∃ s1, backL x s = s1 := ⟨_, rfl⟩
          have hle := back_le x s
          have hsp := (back_spec x s).2
          rw [hs1] at hle hsp
          have CD := keepd (do_any B x x m d s s1 m 21 wr HM.out.symm HR.out h4 hsm (by rw [← hs1]; simp [doL]) HM.out)
          have KT := keepd kt
          clear hs1
          go_wp2_with fail
          with_reducible refine CD.out.mono ?_
          rintro e w5 ⟨⟨B1, e1, rfl, ho⟩, hb5⟩
          have HO5 := keepd ho
          clear CD ho
          go_upto_region 18 with fail
          generalize hV5 : w5.alloc (.cells #[.slice B1 m e1, .int .i64 (s1 : Int)] 24) = V5
          obtain ⟨H13, HBV, _⟩ := line_new1 _ _ _ _ hV5
          have hb := bCall hb5 HBV.out
          have HOb := keepd (HO5.out.below HBV.out)
          have HLb := keepd (SR.call HL.out hb HL.out.lt)
          have HGb := keepd (SR.call HG.out hb HG.out.lt)
          have HBb := keepd (bCall HB.out hb)
          clear hV5 hb hb5 HO5 HBV
          have hfin := few_set (w := w) (Nat.le_of_lt HW7.out) HLb.out HBb.out (x' := .slice B1 m e1) (y' := .int .i64 (s1 : Int)) _ rfl
          have hgf := keepd (far24 (x := .slice B1 m e1) (y := .int .i64 (s1 : Int)) HGb.out (Nat.ne_of_lt HW7.out))
          have hfr := keepd (rd_set HOb.out KT.out (x := .slice B1 m e1) (y := .int .i64 (s1 : Int)))
          obtain ⟨k0, k1, k2, k3, kt⟩ := line_facts HLb.out
          obtain ⟨j0, j1, j2, j3, jt⟩ := line_facts H13.out
          have HS1 : Hid (s1 + (i + 1) ≤ m) := by
            show _ ≤ _
            have := HS.out
            rcases hsp with h | h
            · omega
            · have := h.1; omega
          rcases Nat.eq_zero_or_pos s with hs0 | hs0
          · have x0 : ¬ (s : Int) > 0 := by omega
            have x1 : ¬ (0 : Int) < (s : Int) := by omega
            have x2 : ¬ 0 < s := by omega
            clear hs0 hsp hle
            go_wp2_with fail
            go_roundw
            case rel => exact ⟨i + 1, B1, e1, s1, by omega, by go_num, HS1, hfin.1, hgf, hfr, hfin.2⟩
            case measure => simp [intOf]; omega
          · have x0 : (s : Int) > 0 := by omega
            have x1 : (0 : Int) < (s : Int) := by omega
            have x3 : ¬ (s1 : Int) ≥ (s : Int) := by
              rcases hsp with h | h
              · omega
              · have := h.1; omega
            have x4 : ¬ (s : Int) ≤ (s1 : Int) := x3
            have x5 : (s1 : Int) < (s : Int) := by omega
            clear hsp hle
            go_wp2_with fail
            go_roundw
            case rel => exact ⟨i + 1, B1, e1, s1, by omega, by go_num, HS1, hfin.1, hgf, hfr, hfin.2⟩
            case measure => simp [intOf]; omega
    obtain ⟨hlt, h40⟩ := hgo
    have z0 : (k : Int) < (n1 : Int) := by omega
    have z1 : (k : Int) < 40 := by omega
    have z2 : (0 : Int) ≤ (k : Int) := by omega
    obtain ⟨fb, fo, hKA, hfb⟩ := HKR.out.addr (by rw [← HN1.out]; omega)
    cases hKA
    have f0 := (HKR.out.at_ HB.out).cellk (k := k) (by rw [← HN1.out]; exact hlt)
    have F0 := keepd f0
    generalize K.getD k 0 = v at *
    have fbl : fb < wr.heap.size := Nat.lt_of_lt_of_le hfb HB.out.size
    obtain ⟨q, hq, hq6⟩ : ∃ q : Nat, (v.toNat : Int) % 6 = (q : Int) ∧ q < 6 := ⟨v.toNat % 6, by omega, Nat.mod_lt _ (by omega)⟩
    have hq2 : (v.toNat : Int).tmod 6 = (q : Int) := by rw [← hq, Int.tmod_eq_emod_of_nonneg (by omega)]
    have hqi : (q : Int) < 6 := by omega
    have hqj : (0 : Int) ≤ (q : Int) := by omega
    have hvv := v.toNat_lt
    have hwv : IntKind.i64.wrap (v.toNat : Int) = (v.toNat : Int) := by rw [IntKind.wrap_i64]; omega
    have hwq : IntKind.i64.wrap (q : Int) = (q : Int) := by rw [IntKind.wrap_i64]; omega
    obtain ⟨s1, hdo, hs1⟩ := do_move x (s := s) (q := q) (by rw [HM.out]; exact HS.out) hq6
    obtain ⟨f, hf⟩ : ∃ f : Int, ((19 + q : Nat) : Int) = f := ⟨_, rfl⟩
    have c6 : wr.cell? ⟨w2.heap.size + 1, q, none⟩ = some (.int .i64 f) := by
      rw [← hf, ← mvs_at hq6]
      exact HMV.out.cell q
    have C6 := keepd c6
    rw [hf] at hdo
    rw [HM.out] at hs1
    have ltm := HMV.out.lt
    obtain ⟨k0, k1, k2, k3, kt⟩ := line_facts HL.out
    have K0 := keepd k0
    have K1 := keepd k1
    have KT := keepd kt
    have HD := keepd fun (W : World) (hb : Below wr.heap.size wr W) => do_any B x x m d s s1 m f W HM.out.symm (HR.out.at_ hb) h4 HS.out hdo HM.out
    have HS1 := keepd hs1
    clear hdo hs1 hf hvv
    go_wp2_with fail
    go_cut [8, 9] from 39 to 55 (fun s8 s9 wx => ∃ (b8 : Nat) (B1 : Option Addr) (e1 : Nat), s8 = .pointer (some ⟨b8, 0, none⟩) ∧ s9 = .bool true ∧ Hid (Mid wr b8 B1 m e1 x (s1 : Int) wx))
    case first =>
      go_region_held3 (fun W => W.cell? ⟨w2.heap.size, 0, none⟩ = some (.slice B m d) ∧ W.cell? ⟨w2.heap.size, 1, none⟩ = some (.int .i64 (s : Int)) ∧ W.cell? ⟨fb, fo + k, none⟩ = some (.int .u8 (v.toNat : Int)) ∧ W.cell? ⟨w2.heap.size + 1, q, none⟩ = some (.int .i64 f) ∧ Below wr.heap.size wr W)
        ((refine sR2 K0.out K1.out F0.out C6.out KT.out fbl ltm ?_; repeat (first | assumption | exact Below.refl _ _ | with_reducible refine Below.setCell ?_ (Nat.le_refl wr.heap.size) _ | with_reducible refine bAlloc ?_ _ | with_reducible refine Below.drew ?_)))
        (first | (go_at_call 12; (with_reducible refine (HD.out _ ?_).mono ?_); (focus (repeat (first | assumption | exact Below.refl _ _ | with_reducible refine bAlloc ?_ _ | with_reducible refine Below.drew ?_))); rintro e w4 ⟨⟨B1, e1, rfl, ho⟩, hb4⟩; have hbb : Below wr.heap.size wr w4 := (by first | exact noDrew hb4 | exact upD hb4); (first | (have HMid := keepd (mid_b (z := (s1 : Int)) ho hb4); obtain ⟨m0, m1, m2, m3, lt⟩ := z_of hb4) | have HMid := keepd (mid_a (wr := wr) (z := (s1 : Int)) ho (Nat.le_refl _) hbb)); clear ho))
      all_goals go_wp2_with fail
      all_goals go_meet
      all_goals exact ⟨_, _, _, rfl, rfl, HMid⟩
    case rest =>
      obtain ⟨b8, B1, e1, rfl, rfl, HMid⟩ := hcut
      obtain ⟨V3, hV3⟩ : ∃ V3, V3 = wc := ⟨_, rfl⟩
      subst hV3
      have H8 := keepd HMid.out.1
      have hb3 := HMid.out.2.2
      have HG5 := keepd (SR.call HL.out hb3 HL.out.lt)
      have HM5 := keepd (SR.call HMV.out hb3 HMV.out.lt)
      have HGG := keepd (SR.call HG.out hb3 HG.out.lt)
      have HB3 := keepd (bCall HB.out hb3)
      have CO := keepd (octets_any B1 A x x m m e1 c true V3 HM.out.symm HM.out.symm HMid.out.rd (HR0x.out.at_ HB3.out) (by simp))
      have hs1 := HS1.out
      have x0 : ¬ (s1 : Int) < 0 := by omega
      have x1 : ¬ (s1 : Int) > (m : Int) := by omega
      have x2 : ¬ (m : Int) < (s1 : Int) := by omega
      have x3 : ¬ m < s1 := by omega
      have hfin := few_set (w := w) (Nat.le_of_lt HW2.out) HG5.out HB3.out (x' := .slice B1 m e1) (y' := .int .i64 (s1 : Int)) _ rfl
      have hgf := keepd (far24 (x := .slice B1 m e1) (y := .int .i64 (s1 : Int)) HGG.out (Nat.ne_of_lt HW2.out))
      have hmf := keepd (far24 (x := .slice B1 m e1) (y := .int .i64 (s1 : Int)) HM5.out (Nat.succ_ne_self _))
      have hfr := keepd (rd_set HMid.out.2.1 KT.out (x := .slice B1 m e1) (y := .int .i64 (s1 : Int)))
      obtain ⟨k0, k1, k2, k3, kt⟩ := line_facts HG5.out
      obtain ⟨j0, j1, j2, j3, jt⟩ := line_facts H8.out
      obtain ⟨g0, g1, _, _, _⟩ := line_facts HGG.out
      clear hb3 f0 F0 K0 K1 KT HD c6 C6 hq hq2 hqi hqj hwv hwq
      go_wp2_with fail
      with_reducible refine CO.out.mono ?_
      rintro e V3 ⟨rfl, rfl⟩
      go_wp2_with fail
      go_roundw
      case rel => exact ⟨k + 1, B1, e1, s1, by omega, by go_num, HS1, hfin.1, hmf, hgf, hfr, hfin.2⟩
      case measure => simp [intOf]; omega

end Go.Proofs.Ytbkpihegagflaaa
