/-
  The document's own Alike. No conditions beyond those each theorem states.
-/
import Derived.Test.YtjhocmeenejjpaaDoorD4
namespace Go.Proofs.YtjhocmeenejjpaaDoor
open Go.RowKit
set_option maxRecDepth 100000

attribute [local go_sem ↓] ex_ld25 ex_st25 ex_al25 ex_bu25 ex_ix25 ex_eq25 ex_ne25 ex_eq23 ex_ne23 ex_ld25o ex_st65 ex_al65 ex_bu65 ex_bu65s ex_ld25d
attribute [local go_sem] ptrB_at okPtr_at aggC_at agg62 agg69 isC_at isT_at eqV_t eqV_c isRow_new isRow_new65 World.setRow_alloc_new ptr4_at okPtr4_at cutT_at isI_at isS_at bW_at bWs_at ptrD_at okPtrD_at cutD_at

theorem ev_gr {V : World} {b o : Nat} {k f : Int} {v : Value} (c0 : V.cell? ⟨b, o, none⟩ = some (.int .i64 k)) (c1 : V.cell? ⟨b, o + 1, none⟩ = some (.int .i64 f)) (c2 : V.cell? ⟨b, o + 2, none⟩ = some v) (hb : b < V.heap.size) :
    (∀ x : Gr V, x.W.cell? ⟨b, o, none⟩ = some (.int .i64 k)) ∧ (∀ x : Gr V, x.W.cell? ⟨b, o + 1, none⟩ = some (.int .i64 f)) ∧ (∀ x : Gr V, x.W.cell? ⟨b, o + 2, none⟩ = some v) :=
  ⟨fun x => (x.h.cell (p := ⟨b, _, none⟩) hb).trans c0, fun x => (x.h.cell (p := ⟨b, _, none⟩) hb).trans c1, fun x => (x.h.cell (p := ⟨b, _, none⟩) hb).trans c2⟩

set_option maxHeartbeats 8000000 in
/-- The document's own Alike. -/
theorem ralike_any (A A' : Option Addr) (L M : List EvM) (n n' c c' : Nat) (r : Bool) (w : World) (hn : n = L.length) (hn' : n' = M.length) (h : RdE w A L c) (h' : RdE w A' M c') (hr : likeE (L.map EvM.abs) (M.map EvM.abs) = r) (hl : n ≤ 1000000) :
    Calls Tryd.prog 20 #[.slice A n c, .slice A' n' c'] w fun e w' => e = .returned (.bool r) ∧ Below w.heap.size w w' := by
  have HR := keepd hr.symm
  have HN := keepd hn
  have HN' := keepd hn'
  have HH := keepd h
  have HH' := keepd h'
  have hnc : n ≤ c := by rw [hn]; exact h.1
  have hnc' : n' ≤ c' := by rw [hn']; exact h'.1
  have hcm := h.2.1
  have hcm' := h'.2.1
  unfold maxLen at hcm hcm'
  clear hr hn hn' h h'
  by_cases he : n = n'
  case neg =>
    have e1 : ((n : Int) == (n' : Int)) = false := by simp; omega
    have e2 : ¬ (n : Int) = (n' : Int) := by omega
    have e3 : r = false := by rw [HR.out]; exact like_len (by rw [List.length_map, List.length_map, ← HN.out, ← HN'.out]; exact he)
    go_enter Tryd.func20, Tryd.ntmps20
    go_wp2_with fail
    go_ret
    exact ⟨by rw [e3]; rfl, Below.refl _ _⟩
  subst he
  go_enter Tryd.func20, Tryd.ntmps20
  go_wp2_with fail
  go_loopw [5] (fun vi wr => ∃ k : Nat, k ≤ n ∧ vi = .int .i64 k ∧ Hid (Upto (L.map EvM.abs) (M.map EvM.abs) k) ∧ Hid (Below w.heap.size w wr)) (fun vi _ => n - (intOf vi).toNat)
  case atStart => exact ⟨0, by omega, rfl, rfl, Below.refl _ _⟩
  case round =>
    obtain ⟨k, hk, rfl, HU, HB⟩ := hrel
    rcases Nat.lt_or_ge k n with hlt | hge
    case inr =>
      obtain rfl : k = n := by omega
      have z0 : ¬ (k : Int) < (k : Int) := by omega
      have e3 : r = true := by rw [HR.out]; exact upto_all HU.out HN.out.symm HN'.out.symm
      have E3 := keepd e3
      clear e3
      go_wp2_with fail
      go_ret
      exact ⟨by rw [E3.out]; rfl, HB.out⟩
    have z0 : (k : Int) < (n : Int) := by omega
    have z2 : (0 : Int) ≤ (k : Int) := by omega
    have hkL : k < L.length := by rw [← HN.out]; exact hlt
    have hkM : k < M.length := by rw [← HN'.out]; exact hlt
    obtain ⟨b, off, hA, hb, c0, c1, c2, rx⟩ := (HH.out.at_ HB.out).at hkL
    obtain ⟨b', off', hA', hb', d0, d1, d2, ry⟩ := (HH'.out.at_ HB.out).at hkM
    subst hA hA'
    have HS := keepd (upto_step HU.out hkL hkM)
    have HT := keepd (upto_not hkL hkM)
    generalize L[k] = x at *
    generalize M[k] = y at *
    obtain ⟨xk, xf, xA, xl, xc⟩ := x
    obtain ⟨yk, yf, yA, yl, yc⟩ := y
    simp only [EvM.abs] at c0 c1 c2 d0 d1 d2 rx ry HS HT
    obtain ⟨p, hp⟩ : ∃ p, p = xl.length := ⟨_, rfl⟩
    obtain ⟨p', hp'⟩ : ∃ p, p = yl.length := ⟨_, rfl⟩
    rw [← hp] at c2
    rw [← hp'] at d2
    have ee1 : ∀ m : Nat, (convert 26 9 (.slice xA p xc)).run Tryd.prog (wr.drewN m) = .ok (.string ⟨xl.toArray⟩) (wr.drewN m) := fun m => by
      have := conv_str (rx.at_ (bDrewN (Below.refl _ _) m))
      rw [← hp] at this
      exact this
    have ee2 : ∀ m : Nat, (convert 26 9 (.slice yA p' yc)).run Tryd.prog (wr.drewN m) = .ok (.string ⟨yl.toArray⟩) (wr.drewN m) := fun m => by
      have := conv_str (ry.at_ (bDrewN (Below.refl _ _) m))
      rw [← hp'] at this
      exact this
    obtain ⟨q, hq⟩ : ∃ q, (xl == yl) = q := ⟨_, rfl⟩
    have HEV : Hid (evS ⟨xk, xf, xl⟩ ⟨yk, yf, yl⟩ = ((xk == yk) && ((xf == yf) && q))) := by rw [← hq]; rfl
    have hst : ((⟨xl.toArray⟩ : ByteArray).toList == (⟨yl.toArray⟩ : ByteArray).toList) = q := by rw [ByteArray.toList_mk, ByteArray.toList_mk]; exact hq
    generalize (⟨xl.toArray⟩ : ByteArray) = sx at *
    generalize (⟨yl.toArray⟩ : ByteArray) = sy at *
    rw [HEV.out] at HS HT
    clear hkL hkM rx ry hp hp' hq HU HH HH'
    cases hk1 : (xk == yk)
    case false =>
      have hk2 : (xk != yk) = true := by unfold bne; rw [hk1]; rfl
      go_wp2_with fail
      go_quiet (fail)
      have e3 : r = false := by rw [HR.out]; exact HT.out (by first | rw [hk1]; rfl | rw [hk1, hk3]; rfl)
      have E3 := keepd e3
      clear e3
      go_wp2_with fail
      go_ret
      exact ⟨by rw [E3.out]; rfl, bDrewN HB.out _⟩
    have hk2 : (xk != yk) = false := by unfold bne; rw [hk1]; rfl
    cases hk3 : (xf == yf)
    case false =>
      have hk4 : (xf != yf) = true := by unfold bne; rw [hk3]; rfl
      go_wp2_with fail
      go_quiet (fail)
      have e3 : r = false := by rw [HR.out]; exact HT.out (by first | rw [hk1]; rfl | rw [hk1, hk3]; rfl)
      have E3 := keepd e3
      clear e3
      go_wp2_with fail
      go_ret
      exact ⟨by rw [E3.out]; rfl, bDrewN HB.out _⟩
    have hk4 : (xf != yf) = false := by unfold bne; rw [hk3]; rfl
    cases q
    case false =>
      go_wp2_with fail
      go_quiet (fail)
      have e3 : r = false := by rw [HR.out]; exact HT.out (by first | rw [hk1]; rfl | rw [hk1, hk3]; rfl)
      have E3 := keepd e3
      clear e3
      go_wp2_with fail
      go_ret
      exact ⟨by rw [E3.out]; rfl, bDrewN HB.out _⟩
    go_wp2_with fail
    go_quiet (fail)
    have HS2 := keepd (HS.out (by rw [hk1, hk3]; rfl))
    go_wp2_with fail
    go_roundw
    case rel => exact ⟨k + 1, by omega, by go_num, HS2, keepd (bDrewN HB.out _)⟩
    case measure => simp [intOf]; omega

end Go.Proofs.YtjhocmeenejjpaaDoor
