/-
  The contracts of first, once, toBeginning. No conditions beyond those each theorem states.
-/
import Derived.Test.YtecihodifgjkoaaDoorN1
import Derived.Test.YtecihodifgjkoaaDoorN2
namespace Go.Proofs.YtecihodifgjkoaaDoor
open Go.RowKit
set_option maxRecDepth 100000

attribute [local go_sem ↓] ex_ld25 ex_st25 ex_al25 ex_bu25 ex_ix25 ex_eq25 ex_ne25 ex_eq23 ex_ne23 ex_ld25o ex_st65 ex_al65 ex_bu65 ex_bu65s
attribute [local go_sem] ptrB_at okPtr_at aggC_at agg62 agg69 isC_at isT_at eqV_t eqV_c isRow_new isRow_new65 World.setRow_alloc_new ptr4_at okPtr4_at cutT_at isI_at isS_at bW_at bWs_at

/-- What a call answers that makes octets. -/
def GotR (w : World) (l : List UInt8) (n : Nat) (e : Ending) (w' : World) : Prop := (∃ A c, e = .returned (.slice A n c) ∧ Rd w' w'.heap.size A l c) ∧ Below w.heap.size w w'
/-- Moves in memory. -/
def mvs (ms : List (Int × Nat)) : List Value := ms.flatMap fun m => [.int .i64 m.1, .int .i64 (m.2 : Int)]
theorem mvs_at {ms : List (Int × Nat)} {k : Nat} (h : k < ms.length) : (mvs ms)[k * 2]? = some (.int .i64 ms[k].1) ∧ (mvs ms)[k * 2 + 1]? = some (.int .i64 (ms[k].2 : Int)) := by
  unfold mvs
  rw [pair_at0, pair_at1, List.getElem?_eq_getElem h]
  exact ⟨rfl, rfl⟩
abbrev MV (W : World) (g : Nat) (ms : List (Int × Nat)) : Prop := SR 74 W g (mvs ms)
theorem MV.at {W : World} {g k : Nat} {ms : List (Int × Nat)} (h : MV W g ms) (hk : k < ms.length) : W.cell? ⟨g, k * 2, none⟩ = some (.int .i64 ms[k].1) ∧ W.cell? ⟨g, k * 2 + 1, none⟩ = some (.int .i64 (ms[k].2 : Int)) :=
  ⟨(SR.cell h _).trans (mvs_at hk).1, (SR.cell h _).trans (mvs_at hk).2⟩
theorem firstL_no {X : Tb} {ms : List (Int × Nat)} {k : Nat} (hk : k < ms.length) (h : (keyF X ms[k].1).2 = false) : firstL X (ms.drop k) = firstL X (ms.drop (k + 1)) := by
  rw [List.drop_eq_getElem_cons hk]
  rw [firstL, if_neg (by rw [h]; decide)]
theorem firstL_yes {X : Tb} {ms : List (Int × Nat)} {k : Nat} (hk : k < ms.length) (h : (keyF X ms[k].1).2 = true) : firstL X (ms.drop k) = List.replicate ms[k].2 (okt (keyF X ms[k].1).1) := by
  rw [List.drop_eq_getElem_cons hk]
  rw [firstL, if_pos h]
theorem move_new (w : World) (x y : Value) (V : World) (hV : w.alloc (.cells #[x, y] 74) = V) : Hid (SR 74 V w.heap.size [x, y]) ∧ Hid (Below w.heap.size w V) := by
  subst hV
  exact ⟨SR.new 74 w _, bAlloc (Below.refl _ _) _⟩

set_option maxHeartbeats 2000000 in
theorem first_any (X : Tb) (hX : TbO X) (ms : List (Int × Nat)) (g K : Nat) (L : List UInt8) (n : Nat) (w : World) (hg : MV w g ms) (hK : K = ms.length) (hk1 : K ≤ 10) (hms : ∀ m ∈ ms, 1 ≤ m.2 ∧ m.2 ≤ 4096) (hL : firstL X ms = L) (hn : L.length = n) :
    Calls Tryd.prog 42 #[tv X, .slice (some ⟨g, 0, none⟩) K K] w (GotR w L n) := by
  have HG := keepd hg
  have HK := keepd hK
  have HM := keepd hms
  have HL0 : Hid (firstL X (ms.drop 0) = L) := hL
  have HN := keepd hn
  have HX := keepd hX
  clear hg hK hms hL hn hX
  go_enter Tryd.func42, Tryd.ntmps42
  go_upto_region 1 with fail
  generalize hV : w.alloc (.cells (cs X).toArray 25) = V
  obtain ⟨HT, HB⟩ := tab_new _ _ _ hV
  have HGV : Hid (MV V g ms) := SR.call HG.out HB.out HG.out.lt
  clear hV HG
  go_wp2_with fail
  go_loopw [11] (fun vi wr => ∃ k : Nat, k ≤ K ∧ vi = .int .i64 k ∧ Hid (firstL X (ms.drop k) = L) ∧ Hid (Below V.heap.size V wr)) (fun vi _ => K - (intOf vi).toNat)
  case atStart => exact ⟨0, by omega, rfl, HL0, (Below.refl _ _)⟩
  case round =>
    obtain ⟨k, hk, rfl, HLk, HBk⟩ := hrel
    by_cases hlt : k < K
    case neg =>
      obtain rfl : k = K := by omega
      have hl := HLk.out
      rw [HK.out, List.drop_length] at hl
      have hl2 : L = [] := hl.symm
      subst hl2
      have HB9 := keepd (bCall HB.out HBk.out)
      have hn := HN.out
      rw [List.length_nil] at hn
      subst hn
      go_wp2_with fail
      go_ret
      exact ⟨⟨none, 0, rfl, Rd.nil _ _⟩, HB9.out⟩
    have hkl : k < ms.length := by rw [← HK.out]; exact hlt
    have hmk := HM.out _ (List.getElem_mem hkl)
    obtain ⟨c0, c1⟩ := (show MV wr g ms from SR.call HGV.out HBk.out HGV.out.lt).at hkl
    have HNO := keepd (fun h => firstL_no (X := X) hkl h)
    have HYES := keepd (fun h => firstL_yes (X := X) hkl h)
    obtain ⟨⟨f, m⟩, hfm⟩ : ∃ p, ms[k] = p := ⟨_, rfl⟩
    rw [hfm] at hmk c0 c1 HNO HYES
    simp only at hmk c0 c1 HNO HYES
    clear hfm hkl
    obtain ⟨kk, b, hkey⟩ : ∃ kk b, keyF X f = (kk, b) := ⟨_, _, rfl⟩
    have CK := keepd fun W : World => key_any X f kk b hkey W
    have hkb := keyF_bound HX.out f
    rw [hkey] at HNO HYES hkb
    simp only at HNO HYES hkb
    clear hkey
    obtain ⟨u, hu⟩ : ∃ u, okt kk = u := ⟨_, rfl⟩
    have huz : (u.toNat : Int) = kk := by rw [← hu]; exact okt_nat hkb.1 hkb.2
    rw [hu] at HYES
    subst huz
    clear hu hkb
    have i0 : (0 : Int) ≤ (k : Int) := by omega
    have i1 : (k : Int) < (K : Int) := by omega
    go_upto_region 4 with fail
    generalize hW : wr.alloc (.cells #[.int .i64 f, .int .i64 (m : Int)] 74) = W
    generalize hb6 : wr.heap.size = b6
    have H6 : Hid (SR 74 W b6 [.int .i64 f, .int .i64 (m : Int)]) := by rw [← hW, ← hb6]; exact heap_alloc_new wr _
    have HBW : Hid (Below V.heap.size V W) := by rw [← hW]; exact bAlloc HBk.out _
    clear hW hb6
    obtain ⟨q0, q1⟩ := TB.facts (show TB W w.heap.size X from SR.call HT.out HBW.out (SR.lt HT.out))
    have k0 := SR.cell H6.out 0
    have k1 := SR.cell H6.out 1
    simp only [List.getElem?_cons_zero, List.getElem?_cons_succ] at k0 k1
    clear c0 c1 HBk
    go_wp2_with fail
    with_reducible refine (CK.out _).mono ?_
    rintro e w2 ⟨rfl, hb2⟩
    have HB2 := keepd (bCall HBW.out hb2)
    have H62 : Hid (SR 74 w2 b6 [.int .i64 f, .int .i64 (m : Int)]) := SR.call H6.out hb2 H6.out.lt
    clear hb2 CK q0 q1 k0 k1 H6 HBW
    have k1 := SR.cell H62.out 1
    have kl : b6 < w2.heap.size := H62.out.lt
    simp only [List.getElem?_cons_zero, List.getElem?_cons_succ] at k1
    cases b
    case false =>
      have HL2 : Hid (firstL X (ms.drop (k + 1)) = L) := (HNO.out rfl).symm.trans HLk.out
      clear HNO HYES HLk
      go_wp2_with fail
      go_roundw
      case rel => exact ⟨k + 1, by omega, by go_num, HL2, HB2⟩
      case measure => simp [intOf]; omega
    have HL2 : Hid (List.replicate m u = L) := (HYES.out rfl).symm.trans HLk.out
    clear HNO HYES HLk
    have CR := keepd (fun W : World => fun h => repeat_any (some ⟨W.heap.size, 0, none⟩) u 1 m (W.alloc (.cells #[.int .u8 (u.toNat : Int)] 5)) h hmk.1 hmk.2)
    have CR2 := keepd (CR.out w2 (by have := one_rdb w2 u; rw [World.size_alloc]; exact this))
    clear CR
    have HMN : Hid (m = n) := by
      have h1 := congrArg List.length HL2.out
      rw [List.length_replicate] at h1
      exact h1.trans HN.out
    go_wp2_with fail
    with_reducible refine CR2.out.mono ?_
    rintro e w3 ⟨⟨B, rfl, hr⟩, hb3⟩
    have HB3 := keepd (bCall (bCall HB.out HB2.out) (upA hb3))
    have HR3 := keepd hr
    clear hr hb3 CR2
    go_wp2_with fail
    go_ret
    have hr := HR3.out
    rw [HL2.out] at hr
    exact ⟨⟨_, _, ret_slice HMN.out, hr⟩, HB3.out⟩

/-- One move. -/
theorem kL_first (X : Tb) (f : Int) : firstL X [(f, 1)] = kL X f := by unfold firstL firstL kL kN; rfl
theorem once_any (X : Tb) (hX : TbO X) (f : Int) (L : List UInt8) (n : Nat) (w : World) (hL : kL X f = L) (hn : L.length = n) : Calls Tryd.prog 28 #[tv X, .int .i64 f] w (GotR w L n) := by
  have C := keepd fun (W : World) (h : MV W (W.heap.size - 1) [(f, 1)]) => first_any X hX [(f, 1)] (W.heap.size - 1) 1 L n W h rfl (by omega) (by simp) ((kL_first X f).trans hL) hn
  clear hX hL hn
  go_enter Tryd.func28, Tryd.ntmps28
  go_upto_region 1 with fail
  generalize hV : w.alloc (.cells (cs X).toArray 25) = V
  obtain ⟨HT, HB⟩ := tab_new _ _ _ hV
  obtain ⟨q0, q1⟩ := TB.facts HT.out
  clear hV
  have C2 := keepd (C.out (V.alloc (.cells #[.int .i64 f, .int .i64 1] 74)) (by rw [World.size_alloc]; exact SR.new 74 V _))
  rw [World.size_alloc, Nat.add_sub_cancel] at C2
  clear C
  go_wp2_with fail
  with_reducible refine C2.out.mono ?_
  rintro e w3 ⟨⟨A, c, rfl, hr⟩, hb3⟩
  have HB3 := keepd (bCall HB.out (upA hb3))
  have HR3 := keepd hr
  clear hr hb3 C2
  go_wp2_with fail
  go_ret
  exact ⟨⟨_, _, rfl, HR3.out⟩, HB3.out⟩
theorem home_any (X : Tb) (hX : TbO X) (k : Nat) (L : List UInt8) (n : Nat) (w : World) (hk : k ≤ 4096) (hL : homeL X k = L) (hn : L.length = n) : Calls Tryd.prog 27 #[tv X, .int .i64 (k : Int)] w (GotR w L n) := by
  rcases Nat.eq_zero_or_pos k with h0 | h0
  · subst h0
    have hl : L = [] := hL.symm
    subst hl
    rw [List.length_nil] at hn
    subst hn
    go_enter Tryd.func27, Tryd.ntmps27
    go_upto_region 1 with fail
    generalize hV : w.alloc (.cells (cs X).toArray 25) = V
    obtain ⟨HT, HB⟩ := tab_new _ _ _ hV
    clear hV
    go_wp2_with fail
    go_ret
    exact ⟨⟨none, 0, rfl, Rd.nil _ _⟩, HB.out⟩
  have h1 : ¬ (k : Int) = 0 := by omega
  have h2 : ((k : Int) == 0) = false := by simp; omega
  have hl : firstL X [(23, 1), (19, k), (21, k)] = L := by rw [← hL]; unfold homeL; rw [if_neg (by omega)]
  have C := keepd fun (W : World) (h : MV W (W.heap.size - 1) [(23, 1), (19, k), (21, k)]) => first_any X hX [(23, 1), (19, k), (21, k)] (W.heap.size - 1) 3 L n W h rfl (by omega) (by simp; omega) hl hn
  clear hX hL hn hl
  go_enter Tryd.func27, Tryd.ntmps27
  go_upto_region 1 with fail
  generalize hV : w.alloc (.cells (cs X).toArray 25) = V
  obtain ⟨HT, HB⟩ := tab_new _ _ _ hV
  obtain ⟨q0, q1⟩ := TB.facts HT.out
  clear hV
  have C2 := keepd (C.out (V.alloc (.cells #[.int .i64 23, .int .i64 1, .int .i64 19, .int .i64 (k : Int), .int .i64 21, .int .i64 (k : Int)] 74)) (by rw [World.size_alloc]; exact SR.new 74 V _))
  rw [World.size_alloc, Nat.add_sub_cancel] at C2
  clear C
  go_wp2_with fail
  with_reducible refine C2.out.mono ?_
  rintro e w3 ⟨⟨A, c, rfl, hr⟩, hb3⟩
  have HB3 := keepd (bCall HB.out (upA hb3))
  have HR3 := keepd hr
  clear hr hb3 C2
  go_wp2_with fail
  go_ret
  exact ⟨⟨_, _, rfl, HR3.out⟩, HB3.out⟩

end Go.Proofs.YtecihodifgjkoaaDoor
