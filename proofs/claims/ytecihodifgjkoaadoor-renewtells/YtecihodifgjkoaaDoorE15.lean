/-
  Rows of events compared. No conditions beyond those each theorem states.
-/
import Derived.Test.YtecihodifgjkoaaDoorE14
namespace Go.Proofs.YtecihodifgjkoaaDoor
open Go.RowKit
set_option maxRecDepth 100000

attribute [local go_sem ↓] ex_ld25 ex_st25 ex_al25 ex_bu25 ex_ix25 ex_eq25 ex_ne25 ex_eq23 ex_ne23 ex_ld25o ex_st65 ex_al65 ex_bu65 ex_bu65s
attribute [local go_sem] ptrB_at okPtr_at aggC_at agg62 agg69 isC_at isT_at eqV_t eqV_c isRow_new isRow_new65 World.setRow_alloc_new ptr4_at okPtr4_at cutT_at isI_at isS_at bW_at bWs_at

/-- Event k of a row. -/
theorem RdE.at {w : World} {A : Option Addr} {L : List EvM} {c k : Nat} (h : RdE w A L c) (hk : k < L.length) : ∃ b off, A = some ⟨b, off, none⟩ ∧ b < w.heap.size ∧
    w.cell? ⟨b, off + k * 3, none⟩ = some (.int .i64 L[k].k) ∧ w.cell? ⟨b, off + k * 3 + 1, none⟩ = some (.int .i64 L[k].f) ∧ w.cell? ⟨b, off + k * 3 + 2, none⟩ = some (.slice L[k].A L[k].l.length L[k].c) ∧ Rd w w.heap.size L[k].A L[k].l L[k].c := by
  obtain ⟨b, off, e, hlt, hce⟩ := h.2.2.1 (by rintro rfl; simp at hk)
  obtain ⟨c0, c1, c2⟩ := hce k hk
  exact ⟨b, off, e, hlt, c0, c1, c2, h.2.2.2 _ (List.getElem_mem hk)⟩

set_option maxHeartbeats 4000000 in
theorem equalFunc_any (A A' : Option Addr) (L M : List EvM) (n n' c c' : Nat) (r : Bool) (w : World) (hn : n = L.length) (hn' : n' = M.length) (h : RdE w A L c) (h' : RdE w A' M c') (hr : likeE (L.map EvM.abs) (M.map EvM.abs) = r) (hl : n ≤ 1000000) :
    Calls Tryd.prog 37 #[.slice A n c, .slice A' n' c', .func (.func 38) #[] #[]] w fun e w' => e = .returned (.bool r) ∧ Below w.heap.size w w' := by
  have HR := keepd hr.symm
  have HN := keepd hn
  have HN' := keepd hn'
  have HH := keepd h
  have HH' := keepd h'
  have hnc : n ≤ c := by rw [hn]; exact h.1
  have hnc' : n' ≤ c' := by rw [hn']; exact h'.1
  have hcm := h.2.1
  have hcm' := h'.2.1
  unfold maxLen at hcm hcm'
  clear hr hn hn' h h'
  by_cases he : n = n'
  case neg =>
    have e1 : ((n : Int) == (n' : Int)) = false := by simp; omega
    have e2 : ¬ (n : Int) = (n' : Int) := by omega
    have e3 : r = false := by rw [HR.out]; exact like_len (by rw [List.length_map, List.length_map, ← HN.out, ← HN'.out]; exact he)
    go_enter Tryd.func37, Tryd.ntmps37
    go_wp2_with fail
    go_ret
    exact ⟨by rw [e3]; rfl, Below.refl _ _⟩
  subst he
  go_enter Tryd.func37, Tryd.ntmps37
  go_wp2_with fail
  go_loopw [17] (fun vi wr => ∃ k : Nat, k ≤ n ∧ vi = .int .i64 k ∧ Hid (Upto (L.map EvM.abs) (M.map EvM.abs) k) ∧ Hid (Below w.heap.size w wr)) (fun vi _ => n - (intOf vi).toNat)
  case atStart => exact ⟨0, by omega, rfl, rfl, Below.refl _ _⟩
  case round =>
    obtain ⟨k, hk, rfl, HU, HB⟩ := hrel
    rcases Nat.lt_or_ge k n with hlt | hge
    case inr =>
      obtain rfl : k = n := by omega
      have z0 : ¬ (k : Int) < (k : Int) := by omega
      have e3 : r = true := by rw [HR.out]; exact upto_all HU.out HN.out.symm HN'.out.symm
      have E3 := keepd e3
      clear e3
      go_wp2_with fail
      go_ret
      exact ⟨by rw [E3.out]; rfl, HB.out⟩
    have z0 : (k : Int) < (n : Int) := by omega
    have z2 : (0 : Int) ≤ (k : Int) := by omega
    have hkL : k < L.length := by rw [← HN.out]; exact hlt
    have hkM : k < M.length := by rw [← HN'.out]; exact hlt
    obtain ⟨b, off, hA, hb, c0, c1, c2, rx⟩ := (HH.out.at_ HB.out).at hkL
    obtain ⟨b', off', hA', hb', d0, d1, d2, ry⟩ := (HH'.out.at_ HB.out).at hkM
    subst hA hA'
    have HS := keepd (upto_step HU.out hkL hkM)
    have HT := keepd (upto_not hkL hkM)
    generalize L[k] = x at *
    generalize M[k] = y at *
    obtain ⟨xk, xf, xA, xl, xc⟩ := x
    obtain ⟨yk, yf, yA, yl, yc⟩ := y
    simp only [EvM.abs] at c0 c1 c2 d0 d1 d2 rx ry HS HT
    obtain ⟨q, hq⟩ : ∃ q, evS ⟨xk, xf, xl⟩ ⟨yk, yf, yl⟩ = q := ⟨_, rfl⟩
    obtain ⟨p, hp⟩ : ∃ p, p = xl.length := ⟨_, rfl⟩
    obtain ⟨p', hp'⟩ : ∃ p, p = yl.length := ⟨_, rfl⟩
    rw [← hp] at c2
    rw [← hp'] at d2
    rw [hq] at HS HT
    have HC := keepd fun (W : World) (hb : Below wr.heap.size wr W) => same_ev xk yk xf yf xA yA xl yl p p' xc yc q W hp hp' (rx.at_ hb) (ry.at_ hb) hq
    clear hkL hkM rx ry hp hp' hq HU HH HH'
    go_upto_region 7 with fail
    generalize hV : (wr.alloc (.cells #[.int .i64 xk, .int .i64 xf, .slice xA p xc] 67)).alloc (.cells #[.int .i64 yk, .int .i64 yf, .slice yA p' yc] 67) = V
    obtain ⟨H1, H2, HBV⟩ := ev_new2 _ _ _ _ _ _ _ _ hV
    obtain ⟨k0, k1, k2, _, _, _, kt⟩ := told_facts H1.out
    obtain ⟨j0, j1, j2, _, _, _, jt⟩ := told_facts H2.out
    clear hV c0 c1 c2 d0 d1 d2
    go_wp2_with fail
    with_reducible refine (HC.out V HBV.out).mono ?_
    rintro e w1 ⟨rfl, hb1⟩
    have HB1 := keepd (bCall (bCall HB.out HBV.out) hb1)
    clear hb1 HC k0 k1 k2 kt j0 j1 j2 jt H1 H2 HBV HB
    cases q
    · have e3 : r = false := by rw [HR.out]; exact HT.out rfl
      have E3 := keepd e3
      clear e3
      go_wp2_with fail
      go_ret
      exact ⟨by rw [E3.out]; rfl, HB1.out⟩
    · go_wp2_with fail
      go_roundw
      case rel => exact ⟨k + 1, by omega, by go_num, HS.out trivial, HB1⟩
      case measure => simp [intOf]; omega

theorem alike_any (A A' : Option Addr) (L M : List EvM) (n n' c c' : Nat) (r : Bool) (w : World) (hn : n = L.length) (hn' : n' = M.length) (h : RdE w A L c) (h' : RdE w A' M c') (hr : likeE (L.map EvM.abs) (M.map EvM.abs) = r) (hl : n ≤ 1000000) :
    Calls Tryd.prog 20 #[.slice A n c, .slice A' n' c'] w fun e w' => e = .returned (.bool r) ∧ Below w.heap.size w w' := by
  have HC := keepd (equalFunc_any A A' L M n n' c c' r w hn hn' h h' hr hl)
  clear hn hn' h h' hr
  go_enter Tryd.func20, Tryd.ntmps20
  go_wp2_with fail
  with_reducible refine HC.out.mono ?_
  rintro e w1 ⟨rfl, hb1⟩
  have HB := keepd hb1
  clear hb1
  go_wp2_with fail
  go_ret
  exact ⟨rfl, HB.out⟩

end Go.Proofs.YtecihodifgjkoaaDoor
