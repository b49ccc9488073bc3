/-
  Several texts in one: E14 E15. No conditions beyond those each theorem states.
-/
import Derived.Test.YtlfmbfecajhffaaDoorE8
/-
  Two events compared. No conditions beyond those each theorem states.
-/
namespace Go.Proofs.YtlfmbfecajhffaaDoor
open Go.RowKit
set_option maxRecDepth 100000

attribute [local go_sem ↓] ex_ld25 ex_st25 ex_al25 ex_bu25 ex_ix25 ex_eq25 ex_ne25 ex_eq23 ex_ne23 ex_ld25o ex_st65 ex_al65 ex_bu65 ex_bu65s
attribute [local go_sem] ptrB_at okPtr_at aggC_at agg62 agg69 isC_at isT_at eqV_t eqV_c isRow_new isRow_new65 World.setRow_alloc_new ptr4_at okPtr4_at cutT_at isI_at isS_at bW_at bWs_at

noncomputable def likeE (a b : List Ev) : Bool := @decide (a = b) (Classical.propDecidable _)
theorem likeE_iff {a b : List Ev} : likeE a b = true ↔ a = b := by simp [likeE]
def evS (x y : Ev) : Bool := (x.k == y.k) && ((x.f == y.f) && (x.b == y.b))
theorem evS_iff {x y : Ev} : evS x y = true ↔ x = y := by
  obtain ⟨a, b, c⟩ := x
  obtain ⟨d, e, f⟩ := y
  simp [evS]
theorem like_len {a b : List Ev} (h : a.length ≠ b.length) : likeE a b = false := by
  cases hl : likeE a b
  · rfl
  · exact absurd (congrArg List.length (likeE_iff.1 hl)) h
/-- So far they are the same. -/
def Upto (a b : List Ev) (k : Nat) : Prop := a.take k = b.take k
theorem upto_step {L M : List EvM} {k : Nat} (h : Upto (L.map EvM.abs) (M.map EvM.abs) k) (hL : k < L.length) (hM : k < M.length) (he : evS L[k].abs M[k].abs = true) : Upto (L.map EvM.abs) (M.map EvM.abs) (k + 1) := by
  unfold Upto at h ⊢
  rw [List.take_succ_eq_append_getElem (by simpa using hL), List.take_succ_eq_append_getElem (by simpa using hM), h]
  simp only [List.getElem_map]
  rw [evS_iff.1 he]
theorem upto_not {L M : List EvM} {k : Nat} (hL : k < L.length) (hM : k < M.length) (he : evS L[k].abs M[k].abs = false) : likeE (L.map EvM.abs) (M.map EvM.abs) = false := by
  cases hl : likeE (L.map EvM.abs) (M.map EvM.abs)
  · rfl
  · exfalso
    have e := likeE_iff.1 hl
    have e1 : (L.map EvM.abs)[k]? = (M.map EvM.abs)[k]? := by rw [e]
    rw [List.getElem?_eq_getElem (by simpa using hL), List.getElem?_eq_getElem (by simpa using hM)] at e1
    simp only [List.getElem_map, Option.some.injEq] at e1
    rw [evS_iff.2 e1] at he
    cases he
theorem upto_all {L M : List EvM} {k : Nat} (h : Upto (L.map EvM.abs) (M.map EvM.abs) k) (hL : L.length = k) (hM : M.length = k) : likeE (L.map EvM.abs) (M.map EvM.abs) = true := by
  unfold Upto at h
  rw [List.take_of_length_le (by simp; omega), List.take_of_length_le (by simp; omega)] at h
  exact likeE_iff.2 h

theorem ev_new2 (w : World) (a b d a' b' d' : Value) (V : World) (hV : (w.alloc (.cells #[a, b, d] 69)).alloc (.cells #[a', b', d'] 69) = V) : Hid (SR 69 V w.heap.size [a, b, d]) ∧ Hid (SR 69 V (w.heap.size + 1) [a', b', d']) ∧ Hid (Below w.heap.size w V) := by
  subst hV
  refine ⟨row_alloc (heap_alloc_new w _), ?_, bAlloc (bAlloc (Below.refl _ _) _) _⟩
  have := heap_alloc_new (w.alloc (.cells #[a, b, d] 69)) (.cells #[a', b', d'] 69)
  rw [World.size_alloc] at this
  exact this

set_option maxHeartbeats 2000000 in
/-- Two events compared. -/
theorem same_ev (k k' f f' : Int) (A A' : Option Addr) (l l' : List UInt8) (n n' c c' : Nat) (r : Bool) (w : World) (hn : n = l.length) (hn' : n' = l'.length) (h : Rd w w.heap.size A l c) (h' : Rd w w.heap.size A' l' c') (hr : evS ⟨k, f, l⟩ ⟨k', f', l'⟩ = r) :
    Calls Tryd.prog 45 #[.agg #[.int .i64 k, .int .i64 f, .slice A n c], .agg #[.int .i64 k', .int .i64 f', .slice A' n' c']] w fun e w' => e = .returned (.bool r) ∧ Below w.heap.size w w' := by
  unfold evS at hr
  simp only at hr
  obtain ⟨q, hq⟩ : ∃ q, (l == l') = q := ⟨_, rfl⟩
  rw [hq] at hr
  have HR := keepd hr.symm
  have HN := keepd hn
  have HN' := keepd hn'
  have HH := keepd h
  have HH' := keepd h'
  clear hr hn hn' h h'
  go_enter Tryd.func45, Tryd.ntmps45
  go_upto_region 1 with fail
  generalize hV : (w.alloc (.cells #[.int .i64 k, .int .i64 f, .slice A n c] 69)).alloc (.cells #[.int .i64 k', .int .i64 f', .slice A' n' c'] 69) = V
  obtain ⟨H1, H2, HB⟩ := ev_new2 _ _ _ _ _ _ _ _ hV
  obtain ⟨k0, k1, k2, _, _, _, kt⟩ := told_facts H1.out
  obtain ⟨j0, j1, j2, _, _, _, jt⟩ := told_facts H2.out
  have CK := keepd (equal_any A A' l l' n n' c c' q V HN.out HN'.out (HH.out.at_ HB.out) (HH'.out.at_ HB.out) hq)
  clear hV hq
  cases ho : (k == k')
  · go_wp2_with fail
    go_ret
    exact ⟨by rw [HR.out, ho]; rfl, HB.out⟩
  · cases hi : (f == f')
    · go_wp2_with fail
      go_ret
      exact ⟨by rw [HR.out, ho, hi]; rfl, HB.out⟩
    · go_wp2_with fail
      with_reducible refine CK.out.mono ?_
      rintro e w1 ⟨rfl, rfl⟩
      go_wp2_with fail
      go_ret
      exact ⟨by rw [HR.out, ho, hi]; cases q <;> rfl, HB.out⟩

end Go.Proofs.YtlfmbfecajhffaaDoor
/-
  Rows of events compared. No conditions beyond those each theorem states.
-/
namespace Go.Proofs.YtlfmbfecajhffaaDoor
open Go.RowKit
set_option maxRecDepth 100000

attribute [local go_sem ↓] ex_ld25 ex_st25 ex_al25 ex_bu25 ex_ix25 ex_eq25 ex_ne25 ex_eq23 ex_ne23 ex_ld25o ex_st65 ex_al65 ex_bu65 ex_bu65s
attribute [local go_sem] ptrB_at okPtr_at aggC_at agg62 agg69 isC_at isT_at eqV_t eqV_c isRow_new isRow_new65 World.setRow_alloc_new ptr4_at okPtr4_at cutT_at isI_at isS_at bW_at bWs_at

/-- Event k of a row. -/
theorem RdE.at {w : World} {A : Option Addr} {L : List EvM} {c k : Nat} (h : RdE w A L c) (hk : k < L.length) : ∃ b off, A = some ⟨b, off, none⟩ ∧ b < w.heap.size ∧
    w.cell? ⟨b, off + k * 3, none⟩ = some (.int .i64 L[k].k) ∧ w.cell? ⟨b, off + k * 3 + 1, none⟩ = some (.int .i64 L[k].f) ∧ w.cell? ⟨b, off + k * 3 + 2, none⟩ = some (.slice L[k].A L[k].l.length L[k].c) ∧ Rd w w.heap.size L[k].A L[k].l L[k].c := by
  obtain ⟨b, off, e, hlt, hce⟩ := h.2.2.1 (by rintro rfl; simp at hk)
  obtain ⟨c0, c1, c2⟩ := hce k hk
  exact ⟨b, off, e, hlt, c0, c1, c2, h.2.2.2 _ (List.getElem_mem hk)⟩

set_option maxHeartbeats 4000000 in
theorem equalFunc_any (A A' : Option Addr) (L M : List EvM) (n n' c c' : Nat) (r : Bool) (w : World) (hn : n = L.length) (hn' : n' = M.length) (h : RdE w A L c) (h' : RdE w A' M c') (hr : likeE (L.map EvM.abs) (M.map EvM.abs) = r) (hl : n ≤ 1000000) :
    Calls Tryd.prog 44 #[.slice A n c, .slice A' n' c', .func (.func 45) #[] #[]] w fun e w' => e = .returned (.bool r) ∧ Below w.heap.size w w' := by
  have HR := keepd hr.symm
  have HN := keepd hn
  have HN' := keepd hn'
  have HH := keepd h
  have HH' := keepd h'
  have hnc : n ≤ c := by rw [hn]; exact h.1
  have hnc' : n' ≤ c' := by rw [hn']; exact h'.1
  have hcm := h.2.1
  have hcm' := h'.2.1
  unfold maxLen at hcm hcm'
  clear hr hn hn' h h'
  by_cases he : n = n'
  case neg =>
    have e1 : ((n : Int) == (n' : Int)) = false := by simp; omega
    have e2 : ¬ (n : Int) = (n' : Int) := by omega
    have e3 : r = false := by rw [HR.out]; exact like_len (by rw [List.length_map, List.length_map, ← HN.out, ← HN'.out]; exact he)
    go_enter Tryd.func44, Tryd.ntmps44
    go_wp2_with fail
    go_ret
    exact ⟨by rw [e3]; rfl, Below.refl _ _⟩
  subst he
  go_enter Tryd.func44, Tryd.ntmps44
  go_wp2_with fail
  go_loopw [17] (fun vi wr => ∃ k : Nat, k ≤ n ∧ vi = .int .i64 k ∧ Hid (Upto (L.map EvM.abs) (M.map EvM.abs) k) ∧ Hid (Below w.heap.size w wr)) (fun vi _ => n - (intOf vi).toNat)
  case atStart => exact ⟨0, by omega, rfl, rfl, Below.refl _ _⟩
  case round =>
    obtain ⟨k, hk, rfl, HU, HB⟩ := hrel
    rcases Nat.lt_or_ge k n with hlt | hge
    case inr =>
      obtain rfl : k = n := by omega
      have z0 : ¬ (k : Int) < (k : Int) := by omega
      have e3 : r = true := by rw [HR.out]; exact upto_all HU.out HN.out.symm HN'.out.symm
      have E3 := keepd e3
      clear e3
      go_wp2_with fail
      go_ret
      exact ⟨by rw [E3.out]; rfl, HB.out⟩
    have z0 : (k : Int) < (n : Int) := by omega
    have z2 : (0 : Int) ≤ (k : Int) := by omega
    have hkL : k < L.length := by rw [← HN.out]; exact hlt
    have hkM : k < M.length := by rw [← HN'.out]; exact hlt
    obtain ⟨b, off, hA, hb, c0, c1, c2, rx⟩ := (HH.out.at_ HB.out).at hkL
    obtain ⟨b', off', hA', hb', d0, d1, d2, ry⟩ := (HH'.out.at_ HB.out).at hkM
    subst hA hA'
    have HS := keepd (upto_step HU.out hkL hkM)
    have HT := keepd (upto_not hkL hkM)
    generalize L[k] = x at *
    generalize M[k] = y at *
    obtain ⟨xk, xf, xA, xl, xc⟩ := x
    obtain ⟨yk, yf, yA, yl, yc⟩ := y
    simp only [EvM.abs] at c0 c1 c2 d0 d1 d2 rx ry HS HT
    obtain ⟨q, hq⟩ : ∃ q, evS ⟨xk, xf, xl⟩ ⟨yk, yf, yl⟩ = q := ⟨_, rfl⟩
    obtain ⟨p, hp⟩ : ∃ p, p = xl.length := ⟨_, rfl⟩
    obtain ⟨p', hp'⟩ : ∃ p, p = yl.length := ⟨_, rfl⟩
    rw [← hp] at c2
    rw [← hp'] at d2
    rw [hq] at HS HT
    have HC := keepd fun (W : World) (hb : Below wr.heap.size wr W) => same_ev xk yk xf yf xA yA xl yl p p' xc yc q W hp hp' (rx.at_ hb) (ry.at_ hb) hq
    clear hkL hkM rx ry hp hp' hq HU HH HH'
    go_upto_region 7 with fail
    generalize hV : (wr.alloc (.cells #[.int .i64 xk, .int .i64 xf, .slice xA p xc] 69)).alloc (.cells #[.int .i64 yk, .int .i64 yf, .slice yA p' yc] 69) = V
    obtain ⟨H1, H2, HBV⟩ := ev_new2 _ _ _ _ _ _ _ _ hV
    obtain ⟨k0, k1, k2, _, _, _, kt⟩ := told_facts H1.out
    obtain ⟨j0, j1, j2, _, _, _, jt⟩ := told_facts H2.out
    clear hV c0 c1 c2 d0 d1 d2
    go_wp2_with fail
    with_reducible refine (HC.out V HBV.out).mono ?_
    rintro e w1 ⟨rfl, hb1⟩
    have HB1 := keepd (bCall (bCall HB.out HBV.out) hb1)
    clear hb1 HC k0 k1 k2 kt j0 j1 j2 jt H1 H2 HBV HB
    cases q
    · have e3 : r = false := by rw [HR.out]; exact HT.out rfl
      have E3 := keepd e3
      clear e3
      go_wp2_with fail
      go_ret
      exact ⟨by rw [E3.out]; rfl, HB1.out⟩
    · go_wp2_with fail
      go_roundw
      case rel => exact ⟨k + 1, by omega, by go_num, HS.out trivial, HB1⟩
      case measure => simp [intOf]; omega

theorem alike_any (A A' : Option Addr) (L M : List EvM) (n n' c c' : Nat) (r : Bool) (w : World) (hn : n = L.length) (hn' : n' = M.length) (h : RdE w A L c) (h' : RdE w A' M c') (hr : likeE (L.map EvM.abs) (M.map EvM.abs) = r) (hl : n ≤ 1000000) :
    Calls Tryd.prog 23 #[.slice A n c, .slice A' n' c'] w fun e w' => e = .returned (.bool r) ∧ Below w.heap.size w w' := by
  have HC := keepd (equalFunc_any A A' L M n n' c c' r w hn hn' h h' hr hl)
  clear hn hn' h h' hr
  go_enter Tryd.func23, Tryd.ntmps23
  go_wp2_with fail
  with_reducible refine HC.out.mono ?_
  rintro e w1 ⟨rfl, hb1⟩
  have HB := keepd hb1
  clear hb1
  go_wp2_with fail
  go_ret
  exact ⟨rfl, HB.out⟩

end Go.Proofs.YtlfmbfecajhffaaDoor
