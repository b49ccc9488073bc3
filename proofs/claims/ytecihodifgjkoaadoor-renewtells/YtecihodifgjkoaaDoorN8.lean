/-
  The contract of Octets, two rows of octets compared. No conditions beyond those each theorem states.
-/
import Derived.Test.YtecihodifgjkoaaDoorN7
namespace Go.Proofs.YtecihodifgjkoaaDoor
open Go.RowKit
set_option maxRecDepth 100000

attribute [local go_sem ↓] ex_ld25 ex_st25 ex_al25 ex_bu25 ex_ix25 ex_eq25 ex_ne25 ex_eq23 ex_ne23 ex_ld25o ex_st65 ex_al65 ex_bu65 ex_bu65s ex_ld38 ex_ld25w ex_bu38
attribute [local go_sem] ptrB_at okPtr_at aggC_at agg62 agg69 isC_at isT_at eqV_t eqV_c isRow_new isRow_new65 World.setRow_alloc_new ptr4_at okPtr4_at cutT_at isI_at isS_at bW_at bWs_at ptrW_at okPtrW_at cutW_at isL_at bY_at

theorem octets_any (A A' : Option Addr) (l l' : List UInt8) (n n' c c' : Nat) (r : Bool) (w : World) (hn : n = l.length) (hn' : n' = l'.length) (h : Rd w w.heap.size A l c) (h' : Rd w w.heap.size A' l' c') (hr : (l == l') = r) :
    Calls Tryd.prog 12 #[.slice A n c, .slice A' n' c'] w fun e w' => e = .returned (.bool r) ∧ w' = w := by
  have e1 := conv_str h
  have e2 := conv_str h'
  rw [← hn] at e1
  rw [← hn'] at e2
  have HR := keepd hr
  clear h h' hr hn hn'
  go_enter Tryd.func12, Tryd.ntmps12
  go_wp2_with fail
  go_ret
  exact ⟨by rw [← HR.out]; rfl, rfl⟩
/-- Two states that are reached have the same keys just if they are the same. -/
theorem same_keys {X : Tb} (hX : TbO X) {room : Int} {s s' : Ed} (h : Inv X room s) (h' : Inv X room s') : (keysL X s == keysL X s') = sameS s.l (s.t : Int) s.ov s.li s'.l (s'.t : Int) s'.ov s'.li := by
  cases hq : sameS s.l (s.t : Int) s.ov s.li s'.l (s'.t : Int) s'.ov s'.li
  · cases hk : (keysL X s == keysL X s')
    · rfl
    · exfalso
      have e : keysL X s = keysL X s' := by simpa using hk
      have h1 := makes hX h
      rw [e, makes hX h'] at h1
      have h2 : s' = s := by simpa using h1
      subst h2
      rw [sameS_iff.2 ⟨rfl, rfl, rfl, rfl⟩] at hq
      cases hq
  · obtain ⟨e1, e2, e3, e4⟩ := sameS_iff.1 hq
    obtain ⟨l, t, ov, li⟩ := s
    obtain ⟨l', t', ov', li'⟩ := s'
    simp only at e1 e2 e3 e4
    have e2' : t = t' := by omega
    subst e1 e2' e3 e4
    simp

end Go.Proofs.YtecihodifgjkoaaDoor
