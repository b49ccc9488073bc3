/-
  Several texts in one: N6 N8. No conditions beyond those each theorem states.
-/
import Derived.Test.YtlfmbfecajhffaaDoorN5
/-
  Keys of any state. No conditions beyond those each theorem states.
-/
namespace Go.Proofs.YtlfmbfecajhffaaDoor
open Go.RowKit
set_option maxRecDepth 100000

attribute [local go_sem ↓] ex_ld25 ex_st25 ex_al25 ex_bu25 ex_ix25 ex_eq25 ex_ne25 ex_eq23 ex_ne23 ex_ld25o ex_st65 ex_al65 ex_bu65 ex_bu65s
attribute [local go_sem] ptrB_at okPtr_at aggC_at agg62 agg69 isC_at isT_at eqV_t eqV_c isRow_new isRow_new65 World.setRow_alloc_new ptr4_at okPtr4_at cutT_at isI_at isS_at bW_at bWs_at

theorem stdO : TbO stdT := fun i => by
  show 0 ≤ (stdC i).v ∧ (stdC i).v ≤ 255
  unfold stdC
  rcases Nat.lt_or_ge i 31 with h | h
  · have : ∀ i : Fin 31, 0 ≤ stdR.getD i.1 0 ∧ stdR.getD i.1 0 ≤ 255 := by decide +kernel
    have := this ⟨i, h⟩
    split
    · exact ⟨by decide, by decide⟩
    · exact this
  · rw [if_pos (by simp [stdR, List.getD_eq_getElem?_getD, List.getElem?_eq_none (show (([0, 0, 0, 3, 15, 20, 0, 28, 4, 26, 127, 21, 23, 18, 22, 17, 19, 0, 0, 2, 6, 25, 24, 1, 5, 9, 16, 8, 14, 29, 11] : List Int)).length ≤ i from h)])]
    exact ⟨by decide, by decide⟩
/-- What keys lead to any state, and none of one that may not be. -/
def keysG (X : Tb) (l : List UInt8) (z : Int) (ov li : Bool) : List UInt8 := if mayV l.length z then keysL X ⟨l, z.toNat, ov, li⟩ else []
theorem keys_go (X : Tb) (hX : TbO X) (A : Option Addr) (l : List UInt8) (n c : Nat) (z : Int) (ov li : Bool) (w : World) (hn : n = l.length) (hr : Rd w w.heap.size A l c) (L : List UInt8) (m : Nat) (hL : keysG X l z ov li = L) (hm : L.length = m) :
    Calls Tryd.prog 33 #[tv X, .agg #[.slice A n c, .int .i64 z, .bool ov, .bool li]] w (GotKy w L m) := by
  subst hL hm
  unfold keysG
  cases h : mayV l.length z
  · exact kbad_any X A n c z ov li w (by rw [hn]; exact h)
  · obtain ⟨h1, h2⟩ := mayV_ok (ov := ov) (li := li) h
    have := kgood_any X hX A l n c z.toNat ov li w hn hr (by rw [hn]; exact h1.1) (by rw [hn]; exact h1.2) _ _ rfl rfl
    rw [h2] at this
    exact this

end Go.Proofs.YtlfmbfecajhffaaDoor
/-
  The contract of Octets, two rows of octets compared. No conditions beyond those each theorem states.
-/
namespace Go.Proofs.YtlfmbfecajhffaaDoor
open Go.RowKit
set_option maxRecDepth 100000

attribute [local go_sem ↓] ex_ld25 ex_st25 ex_al25 ex_bu25 ex_ix25 ex_eq25 ex_ne25 ex_eq23 ex_ne23 ex_ld25o ex_st65 ex_al65 ex_bu65 ex_bu65s
attribute [local go_sem] ptrB_at okPtr_at aggC_at agg62 agg69 isC_at isT_at eqV_t eqV_c isRow_new isRow_new65 World.setRow_alloc_new ptr4_at okPtr4_at cutT_at isI_at isS_at bW_at bWs_at ptrD_at okPtrD_at cutD_at

theorem octets_any (A A' : Option Addr) (l l' : List UInt8) (n n' c c' : Nat) (r : Bool) (w : World) (hn : n = l.length) (hn' : n' = l'.length) (h : Rd w w.heap.size A l c) (h' : Rd w w.heap.size A' l' c') (hr : (l == l') = r) :
    Calls Tryd.prog 17 #[.slice A n c, .slice A' n' c'] w fun e w' => e = .returned (.bool r) ∧ w' = w := by
  have e1 := conv_str h
  have e2 := conv_str h'
  rw [← hn] at e1
  rw [← hn'] at e2
  have HR := keepd hr
  clear h h' hr hn hn'
  go_enter Tryd.func17, Tryd.ntmps17
  go_wp2_with fail
  go_ret
  exact ⟨by rw [← HR.out]; rfl, rfl⟩
/-- Two states that are reached have the same keys just if they are the same. -/
theorem same_keys {X : Tb} (hX : TbO X) {room : Int} {s s' : Ed} (h : Inv X room s) (h' : Inv X room s') : (keysL X s == keysL X s') = sameS s.l (s.t : Int) s.ov s.li s'.l (s'.t : Int) s'.ov s'.li := by
  cases hq : sameS s.l (s.t : Int) s.ov s.li s'.l (s'.t : Int) s'.ov s'.li
  · cases hk : (keysL X s == keysL X s')
    · rfl
    · exfalso
      have e : keysL X s = keysL X s' := by simpa using hk
      have h1 := makes hX h
      rw [e, makes hX h'] at h1
      have h2 : s' = s := by simpa using h1
      subst h2
      rw [sameS_iff.2 ⟨rfl, rfl, rfl, rfl⟩] at hq
      cases hq
  · obtain ⟨e1, e2, e3, e4⟩ := sameS_iff.1 hq
    obtain ⟨l, t, ov, li⟩ := s
    obtain ⟨l', t', ov', li'⟩ := s'
    simp only at e1 e2 e3 e4
    have e2' : t = t' := by omega
    subst e1 e2' e3 e4
    simp

end Go.Proofs.YtlfmbfecajhffaaDoor
