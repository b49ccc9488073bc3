/-
  Two events compared. No conditions beyond those each theorem states.
-/
import Derived.Test.YtecihodifgjkoaaDoorE8
namespace Go.Proofs.YtecihodifgjkoaaDoor
open Go.RowKit
set_option maxRecDepth 100000

attribute [local go_sem ↓] ex_ld25 ex_st25 ex_al25 ex_bu25 ex_ix25 ex_eq25 ex_ne25 ex_eq23 ex_ne23 ex_ld25o ex_st65 ex_al65 ex_bu65 ex_bu65s
attribute [local go_sem] ptrB_at okPtr_at aggC_at agg62 agg69 isC_at isT_at eqV_t eqV_c isRow_new isRow_new65 World.setRow_alloc_new ptr4_at okPtr4_at cutT_at isI_at isS_at bW_at bWs_at

noncomputable def likeE (a b : List Ev) : Bool := @decide (a = b) (Classical.propDecidable _)
theorem likeE_iff {a b : List Ev} : likeE a b = true ↔ a = b := by simp [likeE]
def evS (x y : Ev) : Bool := (x.k == y.k) && ((x.f == y.f) && (x.b == y.b))
theorem evS_iff {x y : Ev} : evS x y = true ↔ x = y := by
  obtain ⟨a, b, c⟩ := x
  obtain ⟨d, e, f⟩ := y
  simp [evS]
theorem like_len {a b : List Ev} (h : a.length ≠ b.length) : likeE a b = false := by
  cases hl : likeE a b
  · rfl
  · exact absurd (congrArg List.length (likeE_iff.1 hl)) h
/-- So far they are the same. -/
def Upto (a b : List Ev) (k : Nat) : Prop := a.take k = b.take k
theorem upto_step {L M : List EvM} {k : Nat} (h : Upto (L.map EvM.abs) (M.map EvM.abs) k) (hL : k < L.length) (hM : k < M.length) (he : evS L[k].abs M[k].abs = true) : Upto (L.map EvM.abs) (M.map EvM.abs) (k + 1) := by
  unfold Upto at h ⊢
  rw [List.take_succ_eq_append_getElem (by simpa using hL), List.take_succ_eq_append_getElem (by simpa using hM), h]
  simp only [List.getElem_map]
  rw [evS_iff.1 he]
theorem upto_not {L M : List EvM} {k : Nat} (hL : k < L.length) (hM : k < M.length) (he : evS L[k].abs M[k].abs = false) : likeE (L.map EvM.abs) (M.map EvM.abs) = false := by
  cases hl : likeE (L.map EvM.abs) (M.map EvM.abs)
  · rfl
  · exfalso
    have e := likeE_iff.1 hl
    have e1 : (L.map EvM.abs)[k]? = (M.map EvM.abs)[k]? := by rw [e]
    rw [List.getElem?_eq_getElem (by simpa using hL), List.getElem?_eq_getElem (by simpa using hM)] at e1
    simp only [List.getElem_map, Option.some.injEq] at e1
    rw [evS_iff.2 e1] at he
    cases he
theorem upto_all {L M : List EvM} {k : Nat} (h : Upto (L.map EvM.abs) (M.map EvM.abs) k) (hL : L.length = k) (hM : M.length = k) : likeE (L.map EvM.abs) (M.map EvM.abs) = true := by
  unfold Upto at h
  rw [List.take_of_length_le (by simp; omega), List.take_of_length_le (by simp; omega)] at h
  exact likeE_iff.2 h

theorem ev_new2 (w : World) (a b d a' b' d' : Value) (V : World) (hV : (w.alloc (.cells #[a, b, d] 67)).alloc (.cells #[a', b', d'] 67) = V) : Hid (SR 67 V w.heap.size [a, b, d]) ∧ Hid (SR 67 V (w.heap.size + 1) [a', b', d']) ∧ Hid (Below w.heap.size w V) := by
  subst hV
  refine ⟨row_alloc (heap_alloc_new w _), ?_, bAlloc (bAlloc (Below.refl _ _) _) _⟩
  have := heap_alloc_new (w.alloc (.cells #[a, b, d] 67)) (.cells #[a', b', d'] 67)
  rw [World.size_alloc] at this
  exact this

set_option maxHeartbeats 2000000 in
/-- Two events compared. -/
theorem same_ev (k k' f f' : Int) (A A' : Option Addr) (l l' : List UInt8) (n n' c c' : Nat) (r : Bool) (w : World) (hn : n = l.length) (hn' : n' = l'.length) (h : Rd w w.heap.size A l c) (h' : Rd w w.heap.size A' l' c') (hr : evS ⟨k, f, l⟩ ⟨k', f', l'⟩ = r) :
    Calls Tryd.prog 38 #[.agg #[.int .i64 k, .int .i64 f, .slice A n c], .agg #[.int .i64 k', .int .i64 f', .slice A' n' c']] w fun e w' => e = .returned (.bool r) ∧ Below w.heap.size w w' := by
  unfold evS at hr
  simp only at hr
  obtain ⟨q, hq⟩ : ∃ q, (l == l') = q := ⟨_, rfl⟩
  rw [hq] at hr
  have HR := keepd hr.symm
  have HN := keepd hn
  have HN' := keepd hn'
  have HH := keepd h
  have HH' := keepd h'
  clear hr hn hn' h h'
  go_enter Tryd.func38, Tryd.ntmps38
  go_upto_region 1 with fail
  generalize hV : (w.alloc (.cells #[.int .i64 k, .int .i64 f, .slice A n c] 67)).alloc (.cells #[.int .i64 k', .int .i64 f', .slice A' n' c'] 67) = V
  obtain ⟨H1, H2, HB⟩ := ev_new2 _ _ _ _ _ _ _ _ hV
  obtain ⟨k0, k1, k2, _, _, _, kt⟩ := told_facts H1.out
  obtain ⟨j0, j1, j2, _, _, _, jt⟩ := told_facts H2.out
  have CK := keepd (equal_any A A' l l' n n' c c' q V HN.out HN'.out (HH.out.at_ HB.out) (HH'.out.at_ HB.out) hq)
  clear hV hq
  cases ho : (k == k')
  · go_wp2_with fail
    go_ret
    exact ⟨by rw [HR.out, ho]; rfl, HB.out⟩
  · cases hi : (f == f')
    · go_wp2_with fail
      go_ret
      exact ⟨by rw [HR.out, ho, hi]; rfl, HB.out⟩
    · go_wp2_with fail
      with_reducible refine CK.out.mono ?_
      rintro e w1 ⟨rfl, rfl⟩
      go_wp2_with fail
      go_ret
      exact ⟨by rw [HR.out, ho, hi]; cases q <;> rfl, HB.out⟩

end Go.Proofs.YtecihodifgjkoaaDoor
