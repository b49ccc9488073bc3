/-
  Two states compared. No conditions beyond those each theorem states.
-/
import Derived.Test.YtlfmbfecajhffaaDoorE8
import Derived.Test.YtlfmbfecajhffaaDoorRT
namespace Go.Proofs.YtlfmbfecajhffaaDoor
open Go.RowKit
set_option maxRecDepth 100000

attribute [local go_sem ↓] ex_ld25 ex_st25 ex_al25 ex_bu25 ex_ix25 ex_eq25 ex_ne25 ex_eq23 ex_ne23 ex_ld25o ex_st65 ex_al65 ex_bu65 ex_bu65s
attribute [local go_sem] ptrB_at okPtr_at aggC_at agg62 agg69 isC_at isT_at eqV_t eqV_c isRow_new isRow_new65 World.setRow_alloc_new ptr4_at okPtr4_at cutT_at isI_at isS_at bW_at bWs_at

/-- Are two states the same? -/
def sameS (l : List UInt8) (z : Int) (ov li : Bool) (l' : List UInt8) (z' : Int) (ov' li' : Bool) : Bool := (z == z' && l == l') && ((ov == ov') && (li == li'))
theorem sameS_iff {l : List UInt8} {z : Int} {ov li : Bool} {l' : List UInt8} {z' : Int} {ov' li' : Bool} : sameS l z ov li l' z' ov' li' = true ↔ l = l' ∧ z = z' ∧ ov = ov' ∧ li = li' := by
  simp [sameS]
  constructor
  · rintro ⟨⟨h1, h2⟩, h3, h4⟩; exact ⟨h2, h1, h3, h4⟩
  · rintro ⟨h1, h2, h3, h4⟩; exact ⟨⟨h2, h1⟩, h3, h4⟩

set_option maxHeartbeats 2000000 in
theorem esame_any (A A' : Option Addr) (l l' : List UInt8) (n n' c c' : Nat) (z z' : Int) (ov ov' li li' : Bool) (r : Bool) (w : World) (hn : n = l.length) (hn' : n' = l'.length) (h : Rd w w.heap.size A l c) (h' : Rd w w.heap.size A' l' c') (hr : sameS l z ov li l' z' ov' li' = r) :
    Calls Tryd.prog 22 #[.agg #[.slice A n c, .int .i64 z, .bool ov, .bool li], .agg #[.slice A' n' c', .int .i64 z', .bool ov', .bool li']] w fun e w' => e = .returned (.bool r) ∧ Below w.heap.size w w' := by
  unfold sameS at hr
  obtain ⟨q, hq⟩ : ∃ q, (z == z' && l == l') = q := ⟨_, rfl⟩
  rw [hq] at hr
  have HR := keepd hr.symm
  have HN := keepd hn
  have HN' := keepd hn'
  have HH := keepd h
  have HH' := keepd h'
  clear hr hn hn' h h'
  go_enter Tryd.func22, Tryd.ntmps22
  go_upto_region 1 with fail
  generalize hV : (w.alloc (.cells #[.slice A n c, .int .i64 z, .bool ov, .bool li] 32)).alloc (.cells #[.slice A' n' c', .int .i64 z', .bool ov', .bool li'] 32) = V
  obtain ⟨H1, H2, HB⟩ := st_new2 _ _ _ _ _ _ _ _ _ _ hV
  obtain ⟨k0, k1, k2, k3, _, _, _, _, kt⟩ := st_facts H1.out
  obtain ⟨j0, j1, j2, j3, _, _, _, _, jt⟩ := st_facts H2.out
  have CK := keepd (same_any A A' l l' n n' c c' z z' q V HN.out HN'.out (HH.out.at_ HB.out) (HH'.out.at_ HB.out) hq)
  clear hV hq
  go_upto_region 1 with fail
  cases q
  · go_wp2_with fail
    with_reducible refine CK.out.mono ?_
    rintro e w1 ⟨rfl, hb1⟩
    have HB1 := keepd (bCall HB.out hb1)
    clear hb1
    go_wp2_with fail
    go_ret
    exact ⟨by rw [HR.out]; rfl, HB1.out⟩
  · cases ho : (ov == ov')
    · go_wp2_with fail
      with_reducible refine CK.out.mono ?_
      rintro e w1 ⟨rfl, hb1⟩
      have HB1 := keepd (bCall HB.out hb1)
      obtain ⟨k0, k1, k2, k3, _, _, _, _, kt⟩ := st_facts (SR.call H1.out hb1 H1.out.lt)
      obtain ⟨j0, j1, j2, j3, _, _, _, _, jt⟩ := st_facts (SR.call H2.out hb1 H2.out.lt)
      clear hb1
      go_wp2_with fail
      go_ret
      exact ⟨by rw [HR.out, ho]; rfl, HB1.out⟩
    · cases hi : (li == li') <;>
      · go_wp2_with fail
        with_reducible refine CK.out.mono ?_
        rintro e w1 ⟨rfl, hb1⟩
        have HB1 := keepd (bCall HB.out hb1)
        obtain ⟨k0, k1, k2, k3, _, _, _, _, kt⟩ := st_facts (SR.call H1.out hb1 H1.out.lt)
        obtain ⟨j0, j1, j2, j3, _, _, _, _, jt⟩ := st_facts (SR.call H2.out hb1 H2.out.lt)
        clear hb1
        go_wp2_with fail
        go_ret
        exact ⟨by rw [HR.out, ho, hi]; rfl, HB1.out⟩

set_option maxHeartbeats 2000000 in
theorem ersame_any (A A' : Option Addr) (l l' : List UInt8) (n n' c c' : Nat) (z z' : Int) (ov ov' li li' : Bool) (r : Bool) (w : World) (hn : n = l.length) (hn' : n' = l'.length) (h : Rd w w.heap.size A l c) (h' : Rd w w.heap.size A' l' c') (hr : sameS l z ov li l' z' ov' li' = r) :
    Calls Tryd.prog 36 #[.agg #[.slice A n c, .int .i64 z, .bool ov, .bool li], .agg #[.slice A' n' c', .int .i64 z', .bool ov', .bool li']] w fun e w' => e = .returned (.bool r) ∧ Below w.heap.size w w' := by
  unfold sameS at hr
  obtain ⟨q, hq⟩ : ∃ q, (z == z' && l == l') = q := ⟨_, rfl⟩
  rw [hq] at hr
  have HR := keepd hr.symm
  have HN := keepd hn
  have HN' := keepd hn'
  have HH := keepd h
  have HH' := keepd h'
  clear hr hn hn' h h'
  go_enter Tryd.func36, Tryd.ntmps36
  go_upto_region 1 with fail
  generalize hV : (w.alloc (.cells #[.slice A n c, .int .i64 z, .bool ov, .bool li] 32)).alloc (.cells #[.slice A' n' c', .int .i64 z', .bool ov', .bool li'] 32) = V
  obtain ⟨H1, H2, HB⟩ := st_new2 _ _ _ _ _ _ _ _ _ _ hV
  obtain ⟨k0, k1, k2, k3, _, _, _, _, kt⟩ := st_facts H1.out
  obtain ⟨j0, j1, j2, j3, _, _, _, _, jt⟩ := st_facts H2.out
  have CK := keepd (rsame_any A A' l l' n n' c c' z z' q V HN.out HN'.out (HH.out.at_ HB.out) (HH'.out.at_ HB.out) hq)
  clear hV hq
  go_upto_region 1 with fail
  cases q
  · go_wp2_with fail
    with_reducible refine CK.out.mono ?_
    rintro e w1 ⟨rfl, hb1⟩
    have HB1 := keepd (bCall HB.out hb1)
    clear hb1
    go_wp2_with fail
    go_ret
    exact ⟨by rw [HR.out]; rfl, HB1.out⟩
  · cases ho : (ov == ov')
    · go_wp2_with fail
      with_reducible refine CK.out.mono ?_
      rintro e w1 ⟨rfl, hb1⟩
      have HB1 := keepd (bCall HB.out hb1)
      obtain ⟨k0, k1, k2, k3, _, _, _, _, kt⟩ := st_facts (SR.call H1.out hb1 H1.out.lt)
      obtain ⟨j0, j1, j2, j3, _, _, _, _, jt⟩ := st_facts (SR.call H2.out hb1 H2.out.lt)
      clear hb1
      go_wp2_with fail
      go_ret
      exact ⟨by rw [HR.out, ho]; rfl, HB1.out⟩
    · cases hi : (li == li') <;>
      · go_wp2_with fail
        with_reducible refine CK.out.mono ?_
        rintro e w1 ⟨rfl, hb1⟩
        have HB1 := keepd (bCall HB.out hb1)
        obtain ⟨k0, k1, k2, k3, _, _, _, _, kt⟩ := st_facts (SR.call H1.out hb1 H1.out.lt)
        obtain ⟨j0, j1, j2, j3, _, _, _, _, jt⟩ := st_facts (SR.call H2.out hb1 H2.out.lt)
        clear hb1
        go_wp2_with fail
        go_ret
        exact ⟨by rw [HR.out, ho, hi]; rfl, HB1.out⟩

end Go.Proofs.YtlfmbfecajhffaaDoor
