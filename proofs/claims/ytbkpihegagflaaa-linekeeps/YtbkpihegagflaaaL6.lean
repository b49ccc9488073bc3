/-
  LineKeeps' walk. No conditions beyond those each theorem states.
-/
import Derived.Test.YtbkpihegagflaaaL0
namespace Go.Proofs.Ytbkpihegagflaaa
open Go.RowKit
set_option maxRecDepth 100000

theorem xor_all : ∀ k : Fin 256, 0 ≤ bits .xor .u8 (k.val : Int) 255 ∧ bits .xor .u8 (k.val : Int) 255 ≤ 255 := by decide +kernel
theorem xor_oct (u : UInt8) : ∃ v : UInt8, bits .xor .u8 (u.toNat : Int) 255 = (v.toNat : Int) := by
  obtain ⟨h0, h1⟩ := xor_all ⟨u.toNat, u.toNat_lt⟩
  refine ⟨UInt8.ofNat (bits .xor .u8 (u.toNat : Int) 255).toNat, ?_⟩
  simp only at h0 h1
  rw [UInt8.toNat_ofNat']
  omega
/-- The slice's row holds octets, in a block that may be written. -/
def RowU (w : World) (A : Option Addr) (n : Nat) : Prop :=
  n = 0 ∨ ∃ g cur, A = some ⟨g, 0, none⟩ ∧ w.heap[g]? = some (.cells cur 5 (0, 0)) ∧ n ≤ cur.size ∧ ∀ j, j < n → ∃ u : UInt8, cur[j]? = some (bv u)
theorem Own.rowU {w : World} {base n c : Nat} {A : Option Addr} {l : List UInt8} (h : Own w base (.slice A n c) l) : RowU w A n := by
  obtain ⟨h0, h1⟩ := h
  rcases h1 with ⟨e, _⟩ | ⟨g, cap, cur, e, _, hg, hc, _, hs, ht⟩
  · injection e with _ e
    exact .inl e
  · injection e with e1 e2 e3
    have hsz : l.length ≤ cur.size := by rw [hs]; omega
    rw [e1, e2]
    refine .inr ⟨g, cur, rfl, hg, hsz, fun j hj => ⟨l.getD j 0, ?_⟩⟩
    have := congrArg (·[j]?) ht
    simp only [List.getElem?_take, List.getElem?_map] at this
    rw [if_pos (by omega), List.getElem?_eq_getElem hj] at this
    rw [getD_at hj]
    simpa using this
theorem grown_set {w : World} (g i : Nat) (u : Value) : w.grownBy (w.setCell ⟨g, i, none⟩ u) (some g) :=
  ⟨rfl, rfl, rfl, by simp [World.setCell], fun k _ hk => Below.heap_setCell _ ⟨g, i, none⟩ _ k (fun e => hk (by rw [e]))⟩
theorem grown_trans {w w1 w2 : World} {ro : Option Nat} (h : w.grownBy w1 ro) (h2 : w1.grownBy w2 ro) : w.grownBy w2 ro :=
  ⟨h2.os.trans h.os, h2.tape.trans h.tape, h2.output.trans h.output, Nat.le_trans h.size h2.size, fun k hk hne => (h2.block k (Nat.lt_of_lt_of_le hk h.size) hne).trans (h.block k hk hne)⟩
theorem SR.kept {t : TypeId} {V W : World} {b : Nat} {cs : List Value} {ro : Option Nat} (h : SR t V b cs) (hg : V.grownBy W ro) (hne : some b ≠ ro) : SR t W b cs := (hg.block b h.lt hne).trans h

set_option maxHeartbeats 8000000 in
theorem keeps_law (A : Option Addr) (l : List UInt8) (c : Nat) (z : Int) (u : UInt8) (f : Int) (w : World) (hr : Rd w w.heap.size A l c) :
    Calls Try.prog 8 #[.agg #[.slice A l.length c, .int .i64 z], .int .u8 (u.toNat : Int), .int .i64 f] w fun e w' => e = .returned (.bool true) ∧ Below w.heap.size w w' := by
  obtain ⟨n, hn⟩ : ∃ n, n = l.length := ⟨_, rfl⟩
  rw [← hn]
  have HN := keepd hn
  have HR0 := keepd hr
  obtain ⟨m, hm⟩ : ∃ m, (fewL l).length = m := ⟨_, rfl⟩
  have HM := keepd hm
  have hm1 : m ≤ 4100 := by rw [← hm]; exact (few_le l).1
  clear hn hr hm
  go_enter Try.func8, Try.ntmps8
  go_upto_region 1 with fail
  generalize hV : w.alloc (.cells #[.slice A n c, .int .i64 z] 24) = V
  obtain ⟨H, HB⟩ := line_new _ _ _ _ hV
  obtain ⟨k0, k1, k2, k3, kt⟩ := line_facts H.out
  have CF := keepd (few_any A l n c m z V HN.out (HR0.out.at_ HB.out) HM.out)
  clear hV
  go_wp2_with fail
  with_reducible refine CF.out.mono ?_
  rintro e w1 ⟨rfl, hb1⟩
  have H1 := keepd (SR.call H.out hb1 H.out.lt)
  have HB1 := keepd (bCall HB.out hb1)
  obtain ⟨k0, k1, k2, k3, kt⟩ := line_facts H1.out
  clear hb1 CF H HB
  go_upto_region 2 with fail
  generalize hV : (w1.setCell ⟨w.heap.size, 0, none⟩ (.slice A m c)).setCell ⟨w.heap.size, 1, none⟩ (.int .i64 z) = V
  obtain ⟨H, HB⟩ := few_set (Nat.le_refl _) H1.out HB1.out _ hV
  have HR := keepd (HR0.out.few.at_ HB.out)
  have HR0x := keepd HR0.out.few
  generalize fewL l = x at *
  obtain ⟨k0, k1, k2, k3, kt⟩ := line_facts H.out
  clear hV H1 HB1 HR0 HN
  obtain ⟨ya, pa, za, da, hpa, htt⟩ : ∃ ya pa za da, ya.length = pa ∧ ∀ W, Below V.heap.size V W → Calls Try.prog 11 #[.agg #[.slice A m c, .int .i64 z], .int .i64 4096, .bool false, .int .u8 (u.toNat : Int)] W (GotD W ya pa za da) := by
    cases hv : mayV m z
    · exact ⟨x, m, z, false, HM.out, fun W hb => ty_bad A x m c z 4096 false u W HM.out.symm (HR.out.at_ hb) (by omega) hv⟩
    · obtain ⟨h4, t, rfl, ht⟩ := mayV_inv hv
      exact ⟨_, _, _, _, rfl, fun W hb => ty_go A x _ m c t _ _ 4096 false u _ W HM.out.symm (HR.out.at_ hb) h4 ht rfl rfl rfl⟩
  obtain ⟨yb, pb, zb, db, hpb, hsame, hd⟩ : ∃ yb pb zb db, yb.length = pb ∧ (mayV m z = true → db = false → yb = x) ∧ ∀ W, Below V.heap.size V W → Calls Try.prog 12 #[.agg #[.slice A m c, .int .i64 z], .int .i64 f] W (GotD W yb pb zb db) := by
    cases hv : mayV m z
    · exact ⟨x, m, z, false, HM.out, fun _ _ => rfl, fun W hb => do_bad A x m c z f W HM.out.symm (HR.out.at_ hb) (by omega) hv⟩
    · obtain ⟨h4, t, rfl, ht⟩ := mayV_inv hv
      exact ⟨_, _, _, _, rfl, fun _ e => ((doR_spec (by rw [HM.out]; exact ht) rfl).2.2 e).1, fun W hb => do_go A x _ m c t _ _ f _ W HM.out.symm (HR.out.at_ hb) h4 ht rfl rfl rfl⟩
  have HT := keepd htt
  have HD := keepd hd
  have HPA := keepd hpa
  have HPB := keepd hpb
  have HSM := keepd hsame
  obtain ⟨sX, hsX⟩ : ∃ s : ByteArray, (⟨x.toArray⟩ : ByteArray) = s := ⟨_, rfl⟩
  obtain ⟨sY, hsY⟩ : ∃ s : ByteArray, (⟨yb.toArray⟩ : ByteArray) = s := ⟨_, rfl⟩
  have HSX := keepd hsX
  have HSY := keepd hsY
  have cv := conv_str HR.out
  rw [HM.out, hsX] at cv
  clear htt hd hpa hpb hsame hsX hsY
  go_wp2_with fail
  with_reducible refine (HT.out _ (Below.refl _ _)).mono ?_
  rintro e w3 ⟨⟨Aa, ca, rfl, ho⟩, hb3⟩
  have HO3 := keepd ho
  have HB3 := keepd hb3
  clear ho HT cv k0 k1 k2 k3 kt
  go_upto_region 4 with fail
  generalize hV4 : w3.alloc (.cells #[.slice Aa pa ca, .int .i64 za] 24) = V4
  obtain ⟨H8, HBV, _⟩ := line_new1 _ _ _ _ hV4
  have HO4 := keepd (HO3.out.below HBV.out)
  have HB4 := keepd (bCall HB3.out HBV.out)
  have HG4 := keepd (SR.call H.out HB4.out H.out.lt)
  have H34 := keepd (HBV.out.size)
  obtain ⟨k0, k1, k2, k3, kt⟩ := line_facts HG4.out
  clear hV4 hb3
  go_wp2_with fail
  with_reducible refine (HD.out _ HB4.out).mono ?_
  rintro e w5 ⟨⟨Ab, cb, rfl, ho⟩, hb5⟩
  have HOb5 := keepd ho
  have HB45 := keepd hb5
  clear ho HD k0 k1 k2 k3 kt hb5
  go_upto_region 5 with fail
  generalize hV6 : w5.alloc (.cells #[.slice Ab pb cb, .int .i64 zb] 24) = V6
  obtain ⟨H10, HBV6, _⟩ := line_new1 _ _ _ _ hV6
  have HB46 := keepd (bCall HB45.out HBV6.out)
  have HOb6 := keepd (HOb5.out.below HBV6.out)
  have HO6 := keepd (HO4.out.below HB46.out)
  have H86 := keepd (SR.call H8.out HB46.out H8.out.lt)
  have HG6 := keepd (SR.call HG4.out HB46.out HG4.out.lt)
  have HB6 := keepd (bCall HB.out (bCall HB4.out HB46.out))
  obtain ⟨k0, k1, k2, k3, kt⟩ := line_facts HG6.out
  clear hV6 HBV6 HOb5
  cases hv : mayV m z
  case false =>
    have CK := keepd (check_bad A m c z V6 hv)
    go_wp2_with fail
    with_reducible refine CK.out.mono ?_
    rintro e w7 ⟨rfl, hb7⟩
    have HB7 := keepd (bCall HB6.out hb7)
    clear hb7
    go_wp2_with fail
    with_reducible refine (awake_any _).mono ?_
    rintro e wz ⟨rfl, hbz⟩
    have HBz := keepd (bCall HB7.out hbz)
    clear hbz
    go_wp2_with fail
    go_ret
    exact ⟨rfl, HBz.out⟩
  have HSM2 := keepd (HSM.out hv)
  obtain ⟨h4, t, rfl, ht⟩ := mayV_inv hv
  have CK := keepd (check_ok A m c t V6 h4 ht)
  clear hv hm1 HSM
  go_wp2_with fail
  with_reducible refine CK.out.mono ?_
  rintro e w7 ⟨rfl, hb7⟩
  have HB7 := keepd (bCall HB6.out hb7)
  have HOb := keepd (HOb6.out.below hb7)
  have HOa := keepd (HO6.out.below hb7)
  have Ha := keepd (SR.call H86.out hb7 H86.out.lt)
  have Hb := keepd (SR.call H10.out hb7 H10.out.lt)
  have HG := keepd (SR.call HG6.out hb7 HG6.out.lt)
  clear hb7 CK k0 k1 k2 k3 kt HOb6 HO6 H86 H10 HG6 HB6
  obtain ⟨a0, a1, _, _, _⟩ := line_facts Ha.out
  obtain ⟨b0, b1, _, _, _⟩ := line_facts Hb.out
  obtain ⟨g0, g1, _, _, _⟩ := line_facts HG.out
  have cvb := conv_str HOb.out.rdOf
  rw [HPB.out, HSY.out] at cvb
  obtain ⟨ro, hro⟩ : ∃ ro, (Value.slice Aa pa ca).ownBlock = ro := ⟨_, rfl⟩
  have HROW : Hid (∀ k, ro = some k → V.heap.size ≤ k ∧ k < w3.heap.size) := fun k hk => by
    have := HO3.out.ge k (hro.trans hk)
    exact this
  have HRO := keepd hro
  have HRU := keepd HOa.out.rowU
  have HPA2 : Hid (pa ≤ ca) := by
    have := HOa.out.rdOf.1
    rw [HPA.out] at this
    exact this
  have hca : Hid (ca ≤ maxLen) := HOa.out.rdOf.2.1
  have HVw := keepd HB.out.size
  have H3V4 := keepd H34.out
  have H45 := keepd HB45.out.size
  have HGV := keepd (show w.heap.size < V.heap.size from H.out.lt)
  clear hro H34 HO4 HO3
  -- what stands behind the loop, whatever was written into the row
  have HEND : Hid (∀ wr : World, w7.grownBy wr ro → SR 24 wr w.heap.size [.slice A m c, .int .i64 (t : Int)] ∧ SR 24 wr w3.heap.size [.slice Aa pa ca, .int .i64 za] ∧ SR 24 wr w5.heap.size [.slice Ab pb cb, .int .i64 zb] ∧ Below w.heap.size w wr ∧ Own wr V4.heap.size (.slice Ab pb cb) yb) := fun wr hg => by
    have hV := HVw.out
    have hG := HGV.out
    have h34 := H3V4.out
    have h45 := H45.out
    refine ⟨HG.out.kept hg (fun e => ?_), Ha.out.kept hg (fun e => ?_), Hb.out.kept hg (fun e => ?_), HB7.out.grown hg HB7.out.size (fun k hk => ?_), HOb.out.kept hg ?_⟩
    · have := HROW.out _ e.symm; omega
    · have := HROW.out _ e.symm; omega
    · have := HROW.out _ e.symm; omega
    · have := HROW.out _ hk; omega
    · cases hq : (Value.slice Ab pb cb).ownBlock with
      | none => exact .inl rfl
      | some k =>
        refine .inr (fun e => ?_)
        have h1 := HOb.out.ge k hq
        have h2 := HROW.out k e.symm
        omega
  cases da
  · have hE := HEND.out w7 (World.grownBy.refl w7 ro)
    have cvl := conv_str (HR0x.out.at_ hE.2.2.2.1)
    rw [HM.out, HSX.out] at cvl
    clear hE
    have HBF := HB7
    cases db
    · have hyx : sY = sX := by rw [← HSY.out, ← HSX.out, HSM2.out rfl]
      go_wp2_with fail
      with_reducible refine (awake_any _).mono ?_
      rintro e wz ⟨rfl, hbz⟩
      have HBz := keepd (bCall HBF.out hbz)
      clear hbz
      go_wp2_with fail
      go_ret
      exact ⟨rfl, HBz.out⟩
    · go_wp2_with fail
      with_reducible refine (awake_any _).mono ?_
      rintro e wz ⟨rfl, hbz⟩
      have HBz := keepd (bCall HBF.out hbz)
      clear hbz
      go_wp2_with fail
      go_ret
      exact ⟨rfl, HBz.out⟩
  · go_wp2_with fail
    clear cvb a0 a1 b0 b1 g0 g1
    go_loopw [42] (fun vi wr => ∃ k : Nat, k ≤ pa ∧ vi = .int .i64 k ∧ Hid (w7.grownBy wr ro) ∧ Hid (RowU wr Aa pa)) (fun vi _ => pa - (intOf vi).toNat)
    case atStart => exact ⟨0, by omega, rfl, World.grownBy.refl w7 ro, HRU⟩
    case round =>
      obtain ⟨k, hk, rfl, HGR, HU⟩ := hrel
      obtain ⟨HG', Ha', Hb', HBF0, HOb'⟩ := HEND.out wr HGR.out
      have HBF := keepd HBF0
      obtain ⟨a0, a1, _, _, _⟩ := line_facts Ha'
      obtain ⟨b0, b1, _, _, _⟩ := line_facts Hb'
      obtain ⟨g0, g1, _, _, _⟩ := line_facts HG'
      rcases Nat.lt_or_ge k pa with hlt | hge
      · have z0 : (k : Int) < (pa : Int) := by omega
        have z2 : (0 : Int) ≤ (k : Int) := by omega
        have hpm := Nat.le_trans HPA2.out hca.out
        unfold maxLen at hpm
        obtain ⟨ga, cur, hA, hh, hsz, hall⟩ : ∃ g cur, Aa = some ⟨g, 0, none⟩ ∧ wr.heap[g]? = some (.cells cur 5 (0, 0)) ∧ pa ≤ cur.size ∧ ∀ j, j < pa → ∃ u : UInt8, cur[j]? = some (bv u) := by
          rcases HU.out with h | h
          · omega
          · exact h
        subst hA
        have hrog : ro = some ga := HRO.out.symm
        obtain ⟨v, hv⟩ := hall k hlt
        obtain ⟨v2, hv2⟩ := xor_oct v
        have c0 : wr.cell? ⟨ga, k, none⟩ = some (.int .u8 (v.toNat : Int)) := by rw [cell_of_row wr ga k cur 5 (0, 0) hh]; exact hv
        have f0 : wr.frozen? ⟨ga, k, none⟩ = false := by simp [World.frozen?, hh]
        have hna : w3.heap.size ≠ ga := by have := HROW.out ga hrog; omega
        have HN : Hid (w7.grownBy (wr.setCell ⟨ga, k, none⟩ (.int .u8 (v2.toNat : Int))) ro) := by
          show World.grownBy _ _ _
          rw [hrog]
          exact grown_trans (hrog ▸ HGR.out) (grown_set ga k _)
        have HU2 : Hid (RowU (wr.setCell ⟨ga, k, none⟩ (.int .u8 (v2.toNat : Int))) (some ⟨ga, 0, none⟩) pa) := by
          refine .inr ⟨ga, _, rfl, row_set wr ga k _ cur 5 hh, by simpa using hsz, fun j hj => ?_⟩
          rw [Array.getElem?_setIfInBounds]
          by_cases e : k = j
          · rw [if_pos e, if_pos (by omega)]
            exact ⟨v2, rfl⟩
          · rw [if_neg e]
            exact hall j hj
        clear hh hsz hall hv hrog HBF0 HG' Ha' Hb' HOb'
        go_wp2_with fail
        go_roundw
        case rel => exact ⟨k + 1, by omega, by go_num, HN, HU2⟩
        case measure => simp [intOf]; omega
      · have z0 : ¬ (k : Int) < (pa : Int) := by omega
        have z1 : ¬ k < pa := by omega
        have cvl := conv_str (HR0x.out.at_ HBF0)
        rw [HM.out, HSX.out] at cvl
        have cvb := conv_str HOb'.rdOf
        rw [HPB.out, HSY.out] at cvb
        clear HG' Ha' Hb' HOb' HBF0
        cases db
        · have hyx : sY = sX := by rw [← HSY.out, ← HSX.out, HSM2.out rfl]
          go_wp2_with fail
          with_reducible refine (awake_any _).mono ?_
          rintro e wz ⟨rfl, hbz⟩
          have HBz := keepd (bCall HBF.out hbz)
          clear hbz
          go_wp2_with fail
          go_ret
          exact ⟨rfl, HBz.out⟩
        · go_wp2_with fail
          with_reducible refine (awake_any _).mono ?_
          rintro e wz ⟨rfl, hbz⟩
          have HBz := keepd (bCall HBF.out hbz)
          clear hbz
          go_wp2_with fail
          go_ret
          exact ⟨rfl, HBz.out⟩

end Go.Proofs.Ytbkpihegagflaaa
