/-
  The contract of Keys. No conditions beyond those each theorem states.
-/
import Derived.Test.YtopomoghkedbkaaT3
namespace Go.Proofs.Ytopomoghkedbkaa
open Go.RowKit
set_option maxRecDepth 100000

attribute [local go_sem ↓] ex_ld23 ex_st23 ex_al23 ex_bu23 ex_eq23 ex_ne23 ex_ld45 ex_st45 ex_al45 ex_bu45
attribute [local go_sem] ptrB_at okPtr_at aggC_at agg32 agg256 isM_at eqV_m isRow_new isRow_newr World.setRow_alloc_new

/-- Octets answered, new or nil. -/
def GotL (w : World) (l : List UInt8) (e : Ending) (w' : World) : Prop :=
  ∃ A c, e = .returned (.slice A l.length c) ∧ Rd w' w'.heap.size A l c ∧ Below w.heap.size w w'

theorem wrap_u8 {n : Nat} (hn : n < 256) : IntKind.u8.wrap (n : Int) = (n : Int) := by
  have h : ∀ m : Fin 256, IntKind.u8.wrap (m.1 : Int) = (m.1 : Int) := by decide +kernel
  exact h ⟨n, hn⟩

set_option maxHeartbeats 1000000 in
theorem keys_any (X : Mk) (w : World) : Calls Try.prog 19 #[mv X] w (GotL w (keysM X)) := by
  go_enter Try.func19, Try.ntmps19
  go_upto_region 1 with fail
  generalize hW : w.alloc (.cells (ms X).toArray 23) = W
  obtain ⟨h1, h2, h3⟩ := one_new _ _ _ _ hW
  clear hW h3
  have H1 := keepd h1
  have HB := keepd h2
  clear h1 h2
  go_wp2_with fail
  go_loopw [3, 6] (fun vk vi wr => ∃ (k : Nat) (Av : Option Addr) (cv : Nat), k ≤ 256 ∧ vi = .int .i64 k ∧ vk = .slice Av (keysU X k).length cv ∧ Hid (MB wr w.heap.size X) ∧ Hid (Own wr (w.heap.size + 1) (.slice Av (keysU X k).length cv) (keysU X k)) ∧ Hid (Below w.heap.size w wr) ∧ Hid (w.heap.size + 1 ≤ wr.heap.size)) (fun _ vi _ => 256 - (intOf vi).toNat)
  case atStart => exact ⟨0, none, 0, by omega, rfl, rfl, H1, Own.nil _ _, HB, SR.lt H1.out⟩
  case round =>
    clear H1 HB
    obtain ⟨k, Av, cv, hk, rfl, rfl, H1, HO, HB, HZ⟩ := hrel
    by_cases hlt : k < 256
    · have hw := wrap_u8 hlt
      obtain ⟨r1, k1⟩ := MB.facts H1.out
      have HY := keepd (@keysU_yes X k)
      have HN := keepd (@keysU_no X k)
      have HL := keepd (keysU_len X k)
      obtain ⟨m, hm⟩ : ∃ m, has X k = m := ⟨_, rfl⟩
      have HH := fun w => has_any X k hlt m hm w
      rw [hm] at HY HN
      clear hm
      generalize keysU X k = d at *
      obtain ⟨D, hD⟩ : ∃ D, keysU X (k + 1) = D := ⟨_, rfl⟩
      rw [hD] at HY HN
      have HD := keepd hD
      clear hD
      cases m
      · have e := HN.out rfl
        subst e
        go_wp2_with (with_reducible refine (HH _).mono ?_; rintro e w2 ⟨rfl, hb⟩)
        have HB2 := keepd (bCall HB.out hb)
        have HO2 := keepd (HO.out.below hb)
        have HZ2 := keepd (Nat.le_trans HZ.out hb.size)
        have H12 := keepd (SR.call H1.out hb (SR.lt H1.out))
        rw [← HD.out] at HO2 ⊢
        go_roundw
        case rel => exact ⟨k + 1, Av, cv, by omega, by go_num, rfl, H12, HO2, HB2, HZ2⟩
        case measure => simp [intOf]; omega
      · have e := HY.out rfl
        subst e
        go_wp2_with (first | (with_reducible refine (HH _).mono ?_; rintro e w2 ⟨rfl, hb⟩; have HB2 := keepd (bCall HB.out hb); have HO2 := keepd (HO.out.below hb); have HZ2 := keepd (Nat.le_trans HZ.out hb.size); have H12 := keepd (SR.call H1.out hb (SR.lt H1.out))) | (at_builtin; refine wpList_app _ rfl (.tmp 14) (.tmp 16) rfl (w.heap.size + 1) _ d rfl (HO2.out.alloc _) (w2.heap.size + 1) (some ⟨w2.heap.size, 0, none⟩) 1 1 [UInt8.ofNat k] rfl rfl (one_rd w2 (k : Int) _ (by omega) (by omega) (by omega)) ?_ ?_ ?_))
        · have := HL.out
          simp
          omega
        · have := HZ2.out
          simp
          omega
        · intro vb wb ho hg hat
          have hbase : w.heap.size + 1 ≤ (w2.alloc (.cells #[.int .u8 (k : Int)] 5)).heap.size := by
            have := HZ2.out
            simp
            omega
          have hgb := grown_below (HO2.out.alloc _) hg hbase
          have HB5 := keepd ((bAlloc HB2.out _).trans (hgb.mono (by omega)))
          have h15 := SR.call (SR.alloc H12.out _) hgb (by omega)
          have HOb := keepd ho
          obtain ⟨Bv, dv, hv2, hrv2⟩ := HOb.out.rd
          subst hv2
          have HZ5 := keepd (Nat.le_trans hbase hgb.size)
          have H15 := keepd h15
          clear ho hg hat hgb hbase hrv2 h15
          rw [← HD.out] at HOb ⊢
          go_wp2
          go_roundw
          case rel => exact ⟨k + 1, Bv, dv, by omega, by go_num, rfl, H15, HOb, HB5, HZ5⟩
          case measure => simp [intOf]; omega
    · obtain rfl : k = 256 := by omega
      go_wp2_with fail
      go_ret
      exact ⟨Av, cv, rfl, HO.out.rdOf, HB.out⟩

end Go.Proofs.Ytopomoghkedbkaa
