/-
  The contracts of telling, and of what tells. No conditions beyond those each theorem states.
-/
import Derived.Test.YtecihodifgjkoaaDoorN3
namespace Go.Proofs.YtecihodifgjkoaaDoor
open Go.RowKit
set_option maxRecDepth 100000

attribute [local go_sem ↓] ex_ld25 ex_st25 ex_al25 ex_bu25 ex_ix25 ex_eq25 ex_ne25 ex_eq23 ex_ne23 ex_ld25o ex_st65 ex_al65 ex_bu65 ex_bu65s
attribute [local go_sem] ptrB_at okPtr_at aggC_at agg62 agg69 isC_at isT_at eqV_t eqV_c isRow_new isRow_new65 World.setRow_alloc_new ptr4_at okPtr4_at cutT_at isI_at isS_at bW_at bWs_at

/-- What telling answers: a function, and what it captures. -/
def GotF (w : World) (X : Tb) (e : Ending) (w' : World) : Prop :=
  ∃ g h A c, e = .returned (.func (.func 40) #[] #[.pointer (some ⟨g, 0, none⟩), .pointer (some ⟨h, 0, none⟩)]) ∧ TB w' g X ∧ SR 26 w' h [.slice A (kL X 14).length c] ∧ Rd w' w'.heap.size A (kL X 14) c ∧ Below w.heap.size w w'
theorem telling_any (X : Tb) (hX : TbO X) (w : World) : Calls Tryd.prog 25 #[tv X] w (GotF w X) := by
  obtain ⟨n, hn⟩ : ∃ n, (kL X 14).length = n := ⟨_, rfl⟩
  have C := keepd fun W : World => once_any X hX 14 _ n W rfl hn
  have HN := keepd hn
  have hmf : ∀ (fn : Fn) (first cap : Array Value) (w : World), (Instr.makeFunc fn first cap).run Tryd.prog w = .ok (.func fn first cap) w := fun _ _ _ _ => rfl
  clear hX hn
  go_enter Tryd.func25, Tryd.ntmps25
  go_upto_region 1 with fail
  generalize hV : w.alloc (.cells (cs X).toArray 25) = V
  obtain ⟨HT, HB⟩ := tab_new _ _ _ hV
  obtain ⟨q0, q1⟩ := TB.facts HT.out
  clear hV
  go_wp2_with fail
  with_reducible refine (C.out _).mono ?_
  rintro e w2 ⟨⟨A, c, rfl, hr⟩, hb2⟩
  have HR2 := keepd hr
  have HB2 := keepd hb2
  clear hr hb2 C q0 q1
  go_upto_region 2 with fail
  generalize hV : w2.alloc (.cells #[.slice A n c] 26) = V2
  generalize hb6 : w2.heap.size = b6
  have H6 : Hid (SR 26 V2 b6 [.slice A n c]) := by rw [← hV, ← hb6]; exact heap_alloc_new w2 _
  have HB3 : Hid (Below V.heap.size V V2) := by rw [← hV]; exact bAlloc HB2.out _
  have HR3 : Hid (Rd V2 V2.heap.size A (kL X 14) c) := by rw [← hV]; exact HR2.out.at_ (bAlloc (Below.refl _ _) _)
  clear hV hb6 HB2 HR2
  go_wp2_with fail
  go_ret
  have h6 := H6.out
  rw [← HN.out] at h6
  exact ⟨_, _, _, _, rfl, SR.call HT.out HB3.out (SR.lt HT.out), h6, HR3.out, bCall HB.out HB3.out⟩

set_option maxHeartbeats 2000000 in
theorem told_any (X : Tb) (A B : Option Addr) (l : List UInt8) (n c d g h : Nat) (L : List UInt8) (m : Nat) (w : World) (hn : n = l.length) (hr : Rd w w.heap.size A l c) (hl : n ≤ 4096) (hg : TB w g X) (hh : SR 26 w h [.slice B (kL X 14).length d]) (hb : Rd w w.heap.size B (kL X 14) d) (hL : toldL X l = L) (hm : L.length = m) :
    Calls Tryd.prog 40 #[.slice A n c, .pointer (some ⟨g, 0, none⟩), .pointer (some ⟨h, 0, none⟩)] w (GotR w L m) := by
  obtain ⟨j, hj⟩ : ∃ j, (kL X 14).length = j := ⟨_, rfl⟩
  have hj1 : j ≤ 1 := by rw [← hj]; exact kN_len X 14 1
  rw [hj] at hh
  have HN := keepd hn
  have HR0 := keepd hr
  have HG := keepd hg
  have HH := keepd hh
  have HB0 := keepd hb
  have HL := keepd hL
  have HM := keepd hm
  have HJ := keepd hj.symm
  have hc : n ≤ c := by rw [hn]; exact hr.1
  have hcm := hr.2.1
  unfold maxLen at hcm
  have CP := keepd fun (u : UInt8) (W : World) => plain_any X u _ rfl W
  clear hn hr hg hh hb hL hm hj
  go_enter Tryd.func40, Tryd.ntmps40
  go_wp2_with fail
  go_loopw [5, 10] (fun v vi wr => ∃ k : Nat, k ≤ n ∧ vi = .int .i64 k ∧ Hid (Own wr w.heap.size v (toldL X (l.take k))) ∧ Hid (Below w.heap.size w wr)) (fun _ vi _ => n - (intOf vi).toNat)
  case atStart => exact ⟨0, by omega, rfl, (by show Own _ _ _ _; simpa [toldL] using Own.nil w w.heap.size), (Below.refl _ _)⟩
  case round =>
    obtain ⟨k, hk, rfl, HO, HBk⟩ := hrel
    by_cases hlt : k < n
    case neg =>
      obtain rfl : k = n := by omega
      have ho := HO.out
      rw [List.take_of_length_le (by rw [← HN.out]; omega), HL.out] at ho
      obtain ⟨A, c, he, hr⟩ := ho.rd
      rw [show L.length = m from HM.out] at he
      have HR := keepd hr
      have HE := keepd he
      clear ho he hr
      go_wp2_with fail
      go_ret
      exact ⟨⟨A, c, congrArg Ending.returned HE.out, HR.out⟩, HBk.out⟩
    have hkl : k < l.length := by rw [← HN.out]; exact hlt
    have hsu := toldL_succ X hkl
    have hlen := (toldL_len X (l.take k)).2
    rw [List.length_take] at hlen
    obtain ⟨bA, offA, hA, hbA⟩ := HR0.out.addr (by omega)
    subst hA
    have hce := (HR0.out.at_ HBk.out).cellk hkl
    have hu0 : l.getD k 0 = l[k] := getD_at hkl
    rw [hu0] at hce
    generalize l[k] = u at *
    have hq0 : rowOf wr g = (cs X).toArray ∧ isRow wr 25 g 62 = true := TB.facts (show TB wr g X from SR.call HG.out HBk.out (SR.lt HG.out))
    obtain ⟨q0, q1⟩ := hq0
    have HSU := keepd hsu
    have HLE : Hid ((toldL X (l.take k)).length ≤ 8192) := by show _ ≤ _; omega
    have i0 : (0 : Int) ≤ (k : Int) := by omega
    have i1 : (k : Int) < (n : Int) := by omega
    have hbA2 : bA < wr.heap.size := Nat.lt_of_lt_of_le hbA HBk.out.size
    clear hsu hlen hu0 hkl
    obtain ⟨r, hr⟩ : ∃ r, plainB X u = r := ⟨_, rfl⟩
    have CP2 := keepd (CP.out u wr)
    rw [hr] at CP2
    go_wp2_with fail
    with_reducible refine CP2.out.mono ?_
    rintro e w2 ⟨rfl, hb2⟩
    have HB2 := keepd (bCall HBk.out hb2)
    have HO2 := keepd (HO.out.below hb2)
    clear hb2 CP2 HO HBk q0 q1 hce
    have HT1 : Hid (tell1 X u = if r then [u] else kL X 14 ++ [u]) := by show _ = _; unfold tell1; rw [hr]
    clear hr
    cases r
    case true =>
      go_wp2_with (at_builtin; refine wpList_app _ rfl (.tmp 21) (.tmp 23) rfl w.heap.size u5 (toldL X (l.take k)) rfl (HO2.out.alloc _) _ _ 1 1 [u] rfl rfl ((one_rdb w2 u)) (by have := HLE.out; simp; omega) ?_ ?_)
      · exact (bAlloc HB2.out _).size
      intro v3 w3 ho3 hg3 _
      have HB3 := keepd (app_below (bAlloc HB2.out _) (HO2.out.alloc _) hg3)
      have HO4 : Hid (Own w3 w.heap.size v3 (toldL X (l.take (k + 1)))) := by
        show Own _ _ _ _
        rw [HSU.out, HT1.out]
        exact ho3
      clear ho3 hg3 HO2 HB2
      go_wp2_with fail
      go_roundw
      case rel => exact ⟨k + 1, by omega, by go_num, HO4, HB3⟩
      case measure => simp [intOf]; omega
    case false =>
      have kh := SR.cell (show SR 26 w2 h [.slice B j d] from SR.call HH.out HB2.out HH.out.lt) 0
      simp only [List.getElem?_cons_zero] at kh
      go_wp2_with (at_builtin; refine wpList_app _ rfl (.tmp 18) (.tmp 19) rfl w.heap.size u5 (toldL X (l.take k)) rfl HO2.out _ B j d (kL X 14) rfl HJ.out (HB0.out.at_ HB2.out) (by have h1 := HLE.out; have h2 := HJ.out; omega) ?_ ?_)
      · exact HB2.out.size
      intro v3 w3 ho3 hg3 _
      have HB3 := keepd (app_below HB2.out HO2.out hg3)
      have HO3 := keepd ho3
      clear ho3 hg3 HO2 HB2 kh
      go_wp2_with (at_builtin; refine wpList_app _ rfl (.tmp 21) (.tmp 23) rfl w.heap.size v3 (toldL X (l.take k) ++ kL X 14) rfl (HO3.out.alloc _) _ _ 1 1 [u] rfl rfl ((one_rdb w3 u)) (by have h1 := HLE.out; have h2 := HJ.out; rw [List.length_append]; simp; omega) ?_ ?_)
      · exact (bAlloc HB3.out _).size
      intro v4 w4 ho4 hg4 _
      have HB4 := keepd (app_below (bAlloc HB3.out _) (HO3.out.alloc _) hg4)
      have HO4 : Hid (Own w4 w.heap.size v4 (toldL X (l.take (k + 1)))) := by
        show Own _ _ _ _
        rw [HSU.out, HT1.out]
        exact ho4
      clear ho4 hg4 HO3 HB3
      go_wp2_with fail
      go_roundw
      case rel => exact ⟨k + 1, by omega, by go_num, HO4, HB4⟩
      case measure => simp [intOf]; omega

end Go.Proofs.YtecihodifgjkoaaDoor
