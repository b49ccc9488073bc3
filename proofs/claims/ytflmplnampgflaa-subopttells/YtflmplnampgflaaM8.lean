/-
  The contract of the document's own Put. No conditions beyond those each theorem states.
-/
import Derived.Test.YtflmplnampgflaaM6
namespace Go.Proofs.Ytflmplnampgflaa
open Go.RowKit
set_option maxRecDepth 100000

attribute [local go_sem ↓] ex_ld23 ex_st23 ex_al23 ex_bu23 ex_eq23 ex_ne23
attribute [local go_sem] ptrB_at okPtr_at aggC_at agg32 isM_at eqV_m isRow_new World.setRow_alloc_new

set_option maxHeartbeats 1000000 in
theorem refPut_any (X : Mk) (w : World) : Calls Try.prog 33 #[mv X] w (GotL w (trimM X)) := by
  obtain ⟨T, hT⟩ : ∃ T, trimN X = T := ⟨_, rfl⟩
  have HTr : Hid (X.l.take T = trimM X) := by
    show _ = _
    rw [← hT]
    rfl
  have HT := keepd hT
  clear hT
  go_enter Try.func33, Try.ntmps33
  go_upto_region 1 with fail
  generalize hW : w.alloc (.cells (ms X).toArray 23) = W
  obtain ⟨h1, h2, h3⟩ := one_new _ _ _ _ hW
  clear hW h3
  have H1 := keepd h1
  have HB := keepd h2
  clear h1 h2
  go_wp2_with fail
  go_loopw [3] (fun vi wr => ∃ n : Nat, n ≤ 32 ∧ vi = .int .i64 n ∧ Hid (tn X.l n = T) ∧ Hid (MB wr w.heap.size X) ∧ Hid (Below w.heap.size w wr)) (fun vi _ => (intOf vi).toNat)
  case atStart => exact ⟨32, by omega, rfl, HT, H1, HB⟩
  case round =>
    clear H1 HB HT
    obtain ⟨n, hn, rfl, HT, H1, HB⟩ := hrel
    rcases Nat.eq_zero_or_pos n with h0 | h0
    · have e : T = n := by
        rw [← HT.out, h0]
        rfl
      subst e
      have hp : ¬ (0 : Int) < (T : Int) := by omega
      have hp2 : decide ((0 : Int) < (T : Int)) = false := decide_eq_false hp
      clear h0 HT
      go_upto_region 4 with fail
      have i32 : (T : Int) ≤ 32 := by omega
      have i00 : (0 : Int) ≤ (T : Int) := by omega
      have HRd := keepd (MB.rd (SR.alloc H1.out (.cells #[] 5)) (B := wr.heap.size + 1) (Nat.lt_trans (SR.lt H1.out) (Nat.lt_succ_self _)) (n := T) (by omega))
      have HLen : Hid (T = (X.l.take T).length) := by
        show _ = _
        rw [List.length_take, X.h]
        omega
      have HBs : Hid (wr.heap.size ≤ (wr.alloc (.cells #[] 5)).heap.size) := by
        show _ ≤ _
        simp
      have HO := keepd (empty_own wr wr.heap.size (Nat.le_refl _))
      have HBA := keepd (bAlloc HB.out (.cells #[] 5))
      have HZ := keepd HB.out.size
      obtain ⟨L, hL⟩ : ∃ L, X.l.take T = L := ⟨_, rfl⟩
      rw [hL] at HRd HLen HTr
      clear hL
      go_wp2_with (at_builtin; refine wpList_app _ rfl (.tmp 15) (.tmp 17) rfl wr.heap.size _ [] rfl HO.out (wr.heap.size + 1) (some ⟨w.heap.size, 0, none⟩) T 32 L rfl HLen.out HRd.out ?_ HBs.out ?_)
      · have := HLen.out
        simp
        omega
      intro vb wb ho hg hat
      have hgb := grown_below HO.out hg HBs.out
      have hsz : w.heap.size ≤ wr.heap.size := HZ.out
      have HB4 := keepd (HBA.out.trans (hgb.mono hsz))
      try rw [List.nil_append] at ho
      obtain ⟨Bv, dv, rfl, hrv⟩ := ho.rd
      have H4 := keepd hrv
      clear ho hg hat hgb hrv HBA HRd HO
      go_wp2
      go_ret
      refine ⟨Bv, dv, ?_, ?_, HB4.out⟩
      · rw [← HTr.out]
        rfl
      · rw [← HTr.out]
        exact H4.out
    · obtain ⟨k, hkn⟩ : ∃ k, n = k + 1 := ⟨n - 1, by omega⟩
      have hk : k < 32 := by omega
      have hc := MB.at H1.out hk
      have HU : Hid (tn X.l n = if X.at k = 0 then tn X.l k else n) := by
        show _ = _
        rw [hkn]
        rfl
      have i1 : (0 : Int) ≤ (k : Int) := by omega
      have i2 : (k : Int) < 32 := by omega
      have hp : (0 : Int) < (n : Int) := by omega
      have hp2 : decide ((0 : Int) < (n : Int)) = true := decide_eq_true hp
      have hki : (n : Int) - 1 = (k : Int) := by omega
      have HK := keepd hkn
      obtain ⟨x, hx⟩ : ∃ x, X.at k = x := ⟨_, rfl⟩
      rw [hx] at hc HU
      clear hx hkn h0
      by_cases hx : x = 0
      · subst hx
        have HT2 : Hid (tn X.l k = T) := by
          have := HU.out
          rw [if_pos rfl] at this
          show _ = _
          rw [← this]
          exact HT.out
        clear HU
        have hc0 : wr.cell? ⟨w.heap.size, k, none⟩ = some (.int .u8 0) := hc
        clear hc
        go_wp2_with fail
        go_roundw
        case rel => exact ⟨k, by omega, rfl, HT2, H1, HB⟩
        case measure =>
          have := HK.out
          simp [intOf]
          omega
      · have e : T = n := by
          have := HU.out
          rw [if_neg hx] at this
          rw [← HT.out, this]
        subst e
        obtain ⟨z, hz⟩ : ∃ z, (x.toNat : Int) = z := ⟨_, rfl⟩
        have nz : ¬ z = 0 := by
          have : ¬ x.toNat = 0 := fun e => hx (UInt8.toNat_inj.1 e)
          omega
        have gz : (z == 0) = false := by simpa using nz
        rw [hz] at hc
        clear HU HT hx hz nz
        go_upto_region 4 with fail
        have i32 : (T : Int) ≤ 32 := by omega
        have i00 : (0 : Int) ≤ (T : Int) := by omega
        have HRd := keepd (MB.rd (SR.alloc H1.out (.cells #[] 5)) (B := wr.heap.size + 1) (Nat.lt_trans (SR.lt H1.out) (Nat.lt_succ_self _)) (n := T) (by omega))
        have HLen : Hid (T = (X.l.take T).length) := by
          show _ = _
          rw [List.length_take, X.h]
          omega
        have HBs : Hid (wr.heap.size ≤ (wr.alloc (.cells #[] 5)).heap.size) := by
          show _ ≤ _
          simp
        have HO := keepd (empty_own wr wr.heap.size (Nat.le_refl _))
        have HBA := keepd (bAlloc HB.out (.cells #[] 5))
        have HZ := keepd HB.out.size
        obtain ⟨L, hL⟩ : ∃ L, X.l.take T = L := ⟨_, rfl⟩
        rw [hL] at HRd HLen HTr
        clear hL
        go_wp2_with (at_builtin; refine wpList_app _ rfl (.tmp 15) (.tmp 17) rfl wr.heap.size _ [] rfl HO.out (wr.heap.size + 1) (some ⟨w.heap.size, 0, none⟩) T 32 L rfl HLen.out HRd.out ?_ HBs.out ?_)
        · have := HLen.out
          simp
          omega
        intro vb wb ho hg hat
        have hgb := grown_below HO.out hg HBs.out
        have hsz : w.heap.size ≤ wr.heap.size := HZ.out
        have HB4 := keepd (HBA.out.trans (hgb.mono hsz))
        try rw [List.nil_append] at ho
        obtain ⟨Bv, dv, rfl, hrv⟩ := ho.rd
        have H4 := keepd hrv
        clear ho hg hat hgb hrv HBA HRd HO
        go_wp2
        go_ret
        refine ⟨Bv, dv, ?_, ?_, HB4.out⟩
        · rw [← HTr.out]
          rfl
        · rw [← HTr.out]
          exact H4.out

end Go.Proofs.Ytflmplnampgflaa
