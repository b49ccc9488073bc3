/-
  The contract of Check. No conditions beyond those each theorem states.
-/
import Derived.Test.YtflmplnampgflaaO6
import Derived.Test.YtflmplnampgflaaO7
namespace Go.Proofs.Ytflmplnampgflaa
open Go.RowKit
set_option maxRecDepth 100000

attribute [local go_sem ↓] ex_ld23 ex_st23 ex_al23 ex_bu23 ex_eq23 ex_ne23 ex_ld26 ex_st26 ex_al26 ex_ld23o ex_st23o ex_bu26 ex_bu26k ex_bu26m ex_bu26l ex_bu26v ex_bu26w ex_eq29 ex_ne29
attribute [local go_sem] ptrB_at okPtr_at aggC_at agg32 agg36 isM_at eqV_m isRow_new isRow_new26 World.setRow_alloc_new ptr3_at okPtr3_at cutM_at putM_at isI_at isL_at bK_at bKM_at bKL_at bKVM_at bKV_at isV_at toV_at

/-- May it be? -/
def mayS (k m v : Int) (M : Mk) (L : List Tr) : Bool :=
  if k = 1 then decide (0 ≤ m ∧ m ≤ 31) && (v == 0 && (decide (M = zM) && decide (L = [])))
  else if k = 2 then m == 0 && (decide (251 ≤ v ∧ v ≤ 254) && ((v == 253 || decide (M = zM)) && decide (L = [])))
  else if k = 3 then m == 0 && (v == 0 && (decide (M = zM) && (decide (L.length ≤ 170) && allT L)))
  else false
/-- The error of a sub. -/
def serr (b : Bool) : Int := if b then 0 else 1

theorem may_1 {k m v : Int} {M : Mk} {L : List Tr} (q : (k == 1) = true) : (sameS k m v M L k m 0 zM [] && partsS k m v L) = mayS k m v M L := by
  obtain rfl : k = 1 := by simpa using q
  unfold sameS partsS mayS
  simp only [if_true, beq_self_eq_true, Bool.true_and]
  rw [Bool.and_comm]
theorem may_2 {k m v : Int} {M : Mk} {L : List Tr} (q : (k == 2) = true) (h : (v == 253) = false) : (sameS k m v M L k 0 v zM [] && partsS k m v L) = mayS k m v M L := by
  obtain rfl : k = 2 := by simpa using q
  unfold sameS partsS mayS
  simp only [if_true, beq_self_eq_true, Bool.true_and, h, Bool.false_or, show ¬ (2 : Int) = 1 by omega, if_false]
  cases m == 0 <;> cases decide (M = zM) <;> cases decide (L = []) <;> simp
theorem may_2d {k m v : Int} {M : Mk} {L : List Tr} (q : (k == 2) = true) (h : (v == 253) = true) : (sameS k m v M L k 0 v M [] && partsS k m v L) = mayS k m v M L := by
  obtain rfl : k = 2 := by simpa using q
  unfold sameS partsS mayS
  simp only [if_true, beq_self_eq_true, Bool.true_and, h, Bool.true_or, show ¬ (2 : Int) = 1 by omega, if_false, decide_true]
  cases m == 0 <;> cases decide (L = []) <;> simp
theorem may_3 {k m v : Int} {M : Mk} {L : List Tr} (q : (k == 3) = true) : (sameS k m v M L k 0 0 zM L && partsS k m v L) = mayS k m v M L := by
  obtain rfl : k = 3 := by simpa using q
  unfold sameS partsS mayS
  simp only [if_true, beq_self_eq_true, Bool.true_and, show ¬ (3 : Int) = 1 by omega, show ¬ (3 : Int) = 2 by omega, if_false, decide_true, Bool.and_true]
  cases m == 0 <;> cases v == 0 <;> cases decide (M = zM) <;> simp
theorem may_0 {k m v : Int} {M : Mk} {L : List Tr} (q1 : (k == 1) = false) (q2 : (k == 2) = false) (q3 : (k == 3) = false) : (sameS k m v M L k 0 0 zM [] && partsS k m v L) = mayS k m v M L := by
  have e1 : ¬ k = 1 := by simpa using q1
  have e2 : ¬ k = 2 := by simpa using q2
  have e3 : ¬ k = 3 := by simpa using q3
  unfold partsS mayS
  simp [e1, e2, e3]

set_option maxHeartbeats 1000000 in
theorem scheck_1 (k m v : Int) (M : Mk) (A : Option Addr) (L : List Tr) (n c : Nat) (w : World) (hn : n = L.length) (h : RdT w A L c) (q1 : (k == 1) = true) :
    Calls Try.prog 14 #[sv k m v M (.slice A n c)] w fun e w' => e = .returned (.int .i64 (serr (mayS k m v M L))) ∧ Below w.heap.size w w' := by
  have HN := keepd hn
  have H := keepd h
  have HM := keepd (may_1 q1 (m := m) (v := v) (M := M) (L := L))
  have CN := keepd fun w : World => named_1 k m v M A n c w q1
  clear hn h
  go_enter Try.func14, Try.ntmps14
  go_upto_region 1 with fail
  generalize hV : w.alloc (.cells (sc k m v M (.slice A n c)).toArray 26) = V
  obtain ⟨h1, h2, h3⟩ := one_new _ _ _ _ hV
  obtain ⟨g, hg⟩ : ∃ g, w.heap.size = g := ⟨_, rfl⟩
  rw [hg] at h1
  rw [hg]
  clear hV hg h3
  obtain ⟨a0, a1, a2, a3, a4, a5⟩ := SB.gr h1
  have HB := keepd h2
  clear h1 h2 a0 a1 a2 a3 q1
  obtain ⟨s, hs⟩ : ∃ s, sameS k m v M L k m 0 zM [] = s := ⟨_, rfl⟩
  obtain ⟨p, hp⟩ : ∃ p, partsS k m v L = p := ⟨_, rfl⟩
  have CS := keepd fun x : Gr V => ssame_any k m v M A L n c k m 0 zM none [] 0 0 s x.W HN.out rfl ((H.out.at_ HB.out).at_ x.h) (RdT.nil _) hs
  have CP := keepd fun x : Gr V => parts_any k m v M A L n c p x.W HN.out ((H.out.at_ HB.out).at_ x.h) hp
  rw [hs, hp] at HM
  clear hs hp
  cases s
  · refine wp_region_gr (by kernel_rfl) (by kernel_rfl) ?_
    repeat
      refine wpQuiet_step (fun K hK => ?_)
      first
        | (refine gr_want (by rfl) ?_
           go_simp
           first
             | (refine hK _ ?_; clear hK K)
             | (apply Exists.intro
                refine ⟨fun _ => ?_, hK _ ?_⟩
                (first | (go_at_call 28; exact Gr.call (CN.out _)) | (go_at_call 16; exact Gr.call (CS.out _)) | (go_at_call 29; exact Gr.call (CP.out _)))
                clear hK K))
        | (refine gr_skip (by rfl) ?_
           go_simp
           refine hK _ ?_
           clear hK K)
    refine wpQuiet_nil ?_
    intro x
    have HB2 := keepd (bCall HB.out x.h)
    go_wp2_with fail
    go_ret
    exact ⟨by rw [← HM.out]; rfl, HB2.out⟩
  · cases p
    · refine wp_region_gr (by kernel_rfl) (by kernel_rfl) ?_
      repeat
        refine wpQuiet_step (fun K hK => ?_)
        first
          | (refine gr_want (by rfl) ?_
             go_simp
             first
               | (refine hK _ ?_; clear hK K)
               | (apply Exists.intro
                  refine ⟨fun _ => ?_, hK _ ?_⟩
                  (first | (go_at_call 28; exact Gr.call (CN.out _)) | (go_at_call 16; exact Gr.call (CS.out _)) | (go_at_call 29; exact Gr.call (CP.out _)))
                  clear hK K))
          | (refine gr_skip (by rfl) ?_
             go_simp
             refine hK _ ?_
             clear hK K)
      refine wpQuiet_nil ?_
      intro x
      have HB2 := keepd (bCall HB.out x.h)
      go_wp2_with fail
      go_ret
      exact ⟨by rw [← HM.out]; rfl, HB2.out⟩
    · refine wp_region_gr (by kernel_rfl) (by kernel_rfl) ?_
      repeat
        refine wpQuiet_step (fun K hK => ?_)
        first
          | (refine gr_want (by rfl) ?_
             go_simp
             first
               | (refine hK _ ?_; clear hK K)
               | (apply Exists.intro
                  refine ⟨fun _ => ?_, hK _ ?_⟩
                  (first | (go_at_call 28; exact Gr.call (CN.out _)) | (go_at_call 16; exact Gr.call (CS.out _)) | (go_at_call 29; exact Gr.call (CP.out _)))
                  clear hK K))
          | (refine gr_skip (by rfl) ?_
             go_simp
             refine hK _ ?_
             clear hK K)
      refine wpQuiet_nil ?_
      intro x
      have HB2 := keepd (bCall HB.out x.h)
      go_wp2_with fail
      go_ret
      exact ⟨by rw [← HM.out]; rfl, HB2.out⟩

set_option maxHeartbeats 1000000 in
theorem scheck_2 (k m v : Int) (M : Mk) (A : Option Addr) (L : List Tr) (n c : Nat) (w : World) (hn : n = L.length) (h : RdT w A L c) (q1 : (k == 1) = false) (q2 : (k == 2) = true) (q3 : (v == 253) = false) :
    Calls Try.prog 14 #[sv k m v M (.slice A n c)] w fun e w' => e = .returned (.int .i64 (serr (mayS k m v M L))) ∧ Below w.heap.size w w' := by
  have HN := keepd hn
  have H := keepd h
  have HM := keepd (may_2 q2 q3 (m := m) (v := v) (M := M) (L := L))
  have CN := keepd fun w : World => named_2 k m v M A n c w q1 q2 q3
  clear hn h
  go_enter Try.func14, Try.ntmps14
  go_upto_region 1 with fail
  generalize hV : w.alloc (.cells (sc k m v M (.slice A n c)).toArray 26) = V
  obtain ⟨h1, h2, h3⟩ := one_new _ _ _ _ hV
  obtain ⟨g, hg⟩ : ∃ g, w.heap.size = g := ⟨_, rfl⟩
  rw [hg] at h1
  rw [hg]
  clear hV hg h3
  obtain ⟨a0, a1, a2, a3, a4, a5⟩ := SB.gr h1
  have HB := keepd h2
  clear h1 h2 a0 a1 a2 a3 q1 q2 q3
  obtain ⟨s, hs⟩ : ∃ s, sameS k m v M L k 0 v zM [] = s := ⟨_, rfl⟩
  obtain ⟨p, hp⟩ : ∃ p, partsS k m v L = p := ⟨_, rfl⟩
  have CS := keepd fun x : Gr V => ssame_any k m v M A L n c k 0 v zM none [] 0 0 s x.W HN.out rfl ((H.out.at_ HB.out).at_ x.h) (RdT.nil _) hs
  have CP := keepd fun x : Gr V => parts_any k m v M A L n c p x.W HN.out ((H.out.at_ HB.out).at_ x.h) hp
  rw [hs, hp] at HM
  clear hs hp
  cases s
  · refine wp_region_gr (by kernel_rfl) (by kernel_rfl) ?_
    repeat
      refine wpQuiet_step (fun K hK => ?_)
      first
        | (refine gr_want (by rfl) ?_
           go_simp
           first
             | (refine hK _ ?_; clear hK K)
             | (apply Exists.intro
                refine ⟨fun _ => ?_, hK _ ?_⟩
                (first | (go_at_call 28; exact Gr.call (CN.out _)) | (go_at_call 16; exact Gr.call (CS.out _)) | (go_at_call 29; exact Gr.call (CP.out _)))
                clear hK K))
        | (refine gr_skip (by rfl) ?_
           go_simp
           refine hK _ ?_
           clear hK K)
    refine wpQuiet_nil ?_
    intro x
    have HB2 := keepd (bCall HB.out x.h)
    go_wp2_with fail
    go_ret
    exact ⟨by rw [← HM.out]; rfl, HB2.out⟩
  · cases p
    · refine wp_region_gr (by kernel_rfl) (by kernel_rfl) ?_
      repeat
        refine wpQuiet_step (fun K hK => ?_)
        first
          | (refine gr_want (by rfl) ?_
             go_simp
             first
               | (refine hK _ ?_; clear hK K)
               | (apply Exists.intro
                  refine ⟨fun _ => ?_, hK _ ?_⟩
                  (first | (go_at_call 28; exact Gr.call (CN.out _)) | (go_at_call 16; exact Gr.call (CS.out _)) | (go_at_call 29; exact Gr.call (CP.out _)))
                  clear hK K))
          | (refine gr_skip (by rfl) ?_
             go_simp
             refine hK _ ?_
             clear hK K)
      refine wpQuiet_nil ?_
      intro x
      have HB2 := keepd (bCall HB.out x.h)
      go_wp2_with fail
      go_ret
      exact ⟨by rw [← HM.out]; rfl, HB2.out⟩
    · refine wp_region_gr (by kernel_rfl) (by kernel_rfl) ?_
      repeat
        refine wpQuiet_step (fun K hK => ?_)
        first
          | (refine gr_want (by rfl) ?_
             go_simp
             first
               | (refine hK _ ?_; clear hK K)
               | (apply Exists.intro
                  refine ⟨fun _ => ?_, hK _ ?_⟩
                  (first | (go_at_call 28; exact Gr.call (CN.out _)) | (go_at_call 16; exact Gr.call (CS.out _)) | (go_at_call 29; exact Gr.call (CP.out _)))
                  clear hK K))
          | (refine gr_skip (by rfl) ?_
             go_simp
             refine hK _ ?_
             clear hK K)
      refine wpQuiet_nil ?_
      intro x
      have HB2 := keepd (bCall HB.out x.h)
      go_wp2_with fail
      go_ret
      exact ⟨by rw [← HM.out]; rfl, HB2.out⟩

set_option maxHeartbeats 1000000 in
theorem scheck_2d (k m v : Int) (M : Mk) (A : Option Addr) (L : List Tr) (n c : Nat) (w : World) (hn : n = L.length) (h : RdT w A L c) (q1 : (k == 1) = false) (q2 : (k == 2) = true) (q3 : (v == 253) = true) :
    Calls Try.prog 14 #[sv k m v M (.slice A n c)] w fun e w' => e = .returned (.int .i64 (serr (mayS k m v M L))) ∧ Below w.heap.size w w' := by
  have HN := keepd hn
  have H := keepd h
  have HM := keepd (may_2d q2 q3 (m := m) (v := v) (M := M) (L := L))
  have CN := keepd fun w : World => named_2d k m v M A n c w q1 q2 q3
  clear hn h
  go_enter Try.func14, Try.ntmps14
  go_upto_region 1 with fail
  generalize hV : w.alloc (.cells (sc k m v M (.slice A n c)).toArray 26) = V
  obtain ⟨h1, h2, h3⟩ := one_new _ _ _ _ hV
  obtain ⟨g, hg⟩ : ∃ g, w.heap.size = g := ⟨_, rfl⟩
  rw [hg] at h1
  rw [hg]
  clear hV hg h3
  obtain ⟨a0, a1, a2, a3, a4, a5⟩ := SB.gr h1
  have HB := keepd h2
  clear h1 h2 a0 a1 a2 a3 q1 q2 q3
  obtain ⟨s, hs⟩ : ∃ s, sameS k m v M L k 0 v M [] = s := ⟨_, rfl⟩
  obtain ⟨p, hp⟩ : ∃ p, partsS k m v L = p := ⟨_, rfl⟩
  have CS := keepd fun x : Gr V => ssame_any k m v M A L n c k 0 v M none [] 0 0 s x.W HN.out rfl ((H.out.at_ HB.out).at_ x.h) (RdT.nil _) hs
  have CP := keepd fun x : Gr V => parts_any k m v M A L n c p x.W HN.out ((H.out.at_ HB.out).at_ x.h) hp
  rw [hs, hp] at HM
  clear hs hp
  cases s
  · refine wp_region_gr (by kernel_rfl) (by kernel_rfl) ?_
    repeat
      refine wpQuiet_step (fun K hK => ?_)
      first
        | (refine gr_want (by rfl) ?_
           go_simp
           first
             | (refine hK _ ?_; clear hK K)
             | (apply Exists.intro
                refine ⟨fun _ => ?_, hK _ ?_⟩
                (first | (go_at_call 28; exact Gr.call (CN.out _)) | (go_at_call 16; exact Gr.call (CS.out _)) | (go_at_call 29; exact Gr.call (CP.out _)))
                clear hK K))
        | (refine gr_skip (by rfl) ?_
           go_simp
           refine hK _ ?_
           clear hK K)
    refine wpQuiet_nil ?_
    intro x
    have HB2 := keepd (bCall HB.out x.h)
    go_wp2_with fail
    go_ret
    exact ⟨by rw [← HM.out]; rfl, HB2.out⟩
  · cases p
    · refine wp_region_gr (by kernel_rfl) (by kernel_rfl) ?_
      repeat
        refine wpQuiet_step (fun K hK => ?_)
        first
          | (refine gr_want (by rfl) ?_
             go_simp
             first
               | (refine hK _ ?_; clear hK K)
               | (apply Exists.intro
                  refine ⟨fun _ => ?_, hK _ ?_⟩
                  (first | (go_at_call 28; exact Gr.call (CN.out _)) | (go_at_call 16; exact Gr.call (CS.out _)) | (go_at_call 29; exact Gr.call (CP.out _)))
                  clear hK K))
          | (refine gr_skip (by rfl) ?_
             go_simp
             refine hK _ ?_
             clear hK K)
      refine wpQuiet_nil ?_
      intro x
      have HB2 := keepd (bCall HB.out x.h)
      go_wp2_with fail
      go_ret
      exact ⟨by rw [← HM.out]; rfl, HB2.out⟩
    · refine wp_region_gr (by kernel_rfl) (by kernel_rfl) ?_
      repeat
        refine wpQuiet_step (fun K hK => ?_)
        first
          | (refine gr_want (by rfl) ?_
             go_simp
             first
               | (refine hK _ ?_; clear hK K)
               | (apply Exists.intro
                  refine ⟨fun _ => ?_, hK _ ?_⟩
                  (first | (go_at_call 28; exact Gr.call (CN.out _)) | (go_at_call 16; exact Gr.call (CS.out _)) | (go_at_call 29; exact Gr.call (CP.out _)))
                  clear hK K))
          | (refine gr_skip (by rfl) ?_
             go_simp
             refine hK _ ?_
             clear hK K)
      refine wpQuiet_nil ?_
      intro x
      have HB2 := keepd (bCall HB.out x.h)
      go_wp2_with fail
      go_ret
      exact ⟨by rw [← HM.out]; rfl, HB2.out⟩

set_option maxHeartbeats 1000000 in
theorem scheck_3 (k m v : Int) (M : Mk) (A : Option Addr) (L : List Tr) (n c : Nat) (w : World) (hn : n = L.length) (h : RdT w A L c) (q1 : (k == 1) = false) (q2 : (k == 2) = false) (q3 : (k == 3) = true) :
    Calls Try.prog 14 #[sv k m v M (.slice A n c)] w fun e w' => e = .returned (.int .i64 (serr (mayS k m v M L))) ∧ Below w.heap.size w w' := by
  have HN := keepd hn
  have H := keepd h
  have HM := keepd (may_3 q3 (m := m) (v := v) (M := M) (L := L))
  have CN := keepd fun w : World => named_3 k m v M A n c w q1 q2 q3
  clear hn h
  go_enter Try.func14, Try.ntmps14
  go_upto_region 1 with fail
  generalize hV : w.alloc (.cells (sc k m v M (.slice A n c)).toArray 26) = V
  obtain ⟨h1, h2, h3⟩ := one_new _ _ _ _ hV
  obtain ⟨g, hg⟩ : ∃ g, w.heap.size = g := ⟨_, rfl⟩
  rw [hg] at h1
  rw [hg]
  clear hV hg h3
  obtain ⟨a0, a1, a2, a3, a4, a5⟩ := SB.gr h1
  have HB := keepd h2
  clear h1 h2 a0 a1 a2 a3 q1 q2 q3
  obtain ⟨s, hs⟩ : ∃ s, sameS k m v M L k 0 0 zM L = s := ⟨_, rfl⟩
  obtain ⟨p, hp⟩ : ∃ p, partsS k m v L = p := ⟨_, rfl⟩
  have CS := keepd fun x : Gr V => ssame_any k m v M A L n c k 0 0 zM A L n c s x.W HN.out HN.out ((H.out.at_ HB.out).at_ x.h) ((H.out.at_ HB.out).at_ x.h) hs
  have CP := keepd fun x : Gr V => parts_any k m v M A L n c p x.W HN.out ((H.out.at_ HB.out).at_ x.h) hp
  rw [hs, hp] at HM
  clear hs hp
  cases s
  · refine wp_region_gr (by kernel_rfl) (by kernel_rfl) ?_
    repeat
      refine wpQuiet_step (fun K hK => ?_)
      first
        | (refine gr_want (by rfl) ?_
           go_simp
           first
             | (refine hK _ ?_; clear hK K)
             | (apply Exists.intro
                refine ⟨fun _ => ?_, hK _ ?_⟩
                (first | (go_at_call 28; exact Gr.call (CN.out _)) | (go_at_call 16; exact Gr.call (CS.out _)) | (go_at_call 29; exact Gr.call (CP.out _)))
                clear hK K))
        | (refine gr_skip (by rfl) ?_
           go_simp
           refine hK _ ?_
           clear hK K)
    refine wpQuiet_nil ?_
    intro x
    have HB2 := keepd (bCall HB.out x.h)
    go_wp2_with fail
    go_ret
    exact ⟨by rw [← HM.out]; rfl, HB2.out⟩
  · cases p
    · refine wp_region_gr (by kernel_rfl) (by kernel_rfl) ?_
      repeat
        refine wpQuiet_step (fun K hK => ?_)
        first
          | (refine gr_want (by rfl) ?_
             go_simp
             first
               | (refine hK _ ?_; clear hK K)
               | (apply Exists.intro
                  refine ⟨fun _ => ?_, hK _ ?_⟩
                  (first | (go_at_call 28; exact Gr.call (CN.out _)) | (go_at_call 16; exact Gr.call (CS.out _)) | (go_at_call 29; exact Gr.call (CP.out _)))
                  clear hK K))
          | (refine gr_skip (by rfl) ?_
             go_simp
             refine hK _ ?_
             clear hK K)
      refine wpQuiet_nil ?_
      intro x
      have HB2 := keepd (bCall HB.out x.h)
      go_wp2_with fail
      go_ret
      exact ⟨by rw [← HM.out]; rfl, HB2.out⟩
    · refine wp_region_gr (by kernel_rfl) (by kernel_rfl) ?_
      repeat
        refine wpQuiet_step (fun K hK => ?_)
        first
          | (refine gr_want (by rfl) ?_
             go_simp
             first
               | (refine hK _ ?_; clear hK K)
               | (apply Exists.intro
                  refine ⟨fun _ => ?_, hK _ ?_⟩
                  (first | (go_at_call 28; exact Gr.call (CN.out _)) | (go_at_call 16; exact Gr.call (CS.out _)) | (go_at_call 29; exact Gr.call (CP.out _)))
                  clear hK K))
          | (refine gr_skip (by rfl) ?_
             go_simp
             refine hK _ ?_
             clear hK K)
      refine wpQuiet_nil ?_
      intro x
      have HB2 := keepd (bCall HB.out x.h)
      go_wp2_with fail
      go_ret
      exact ⟨by rw [← HM.out]; rfl, HB2.out⟩

set_option maxHeartbeats 1000000 in
theorem scheck_0 (k m v : Int) (M : Mk) (A : Option Addr) (L : List Tr) (n c : Nat) (w : World) (hn : n = L.length) (h : RdT w A L c) (q1 : (k == 1) = false) (q2 : (k == 2) = false) (q3 : (k == 3) = false) :
    Calls Try.prog 14 #[sv k m v M (.slice A n c)] w fun e w' => e = .returned (.int .i64 (serr (mayS k m v M L))) ∧ Below w.heap.size w w' := by
  have HN := keepd hn
  have H := keepd h
  have HM := keepd (may_0 q1 q2 q3 (m := m) (v := v) (M := M) (L := L))
  have CN := keepd fun w : World => named_0 k m v M A n c w q1 q2 q3
  clear hn h
  go_enter Try.func14, Try.ntmps14
  go_upto_region 1 with fail
  generalize hV : w.alloc (.cells (sc k m v M (.slice A n c)).toArray 26) = V
  obtain ⟨h1, h2, h3⟩ := one_new _ _ _ _ hV
  obtain ⟨g, hg⟩ : ∃ g, w.heap.size = g := ⟨_, rfl⟩
  rw [hg] at h1
  rw [hg]
  clear hV hg h3
  obtain ⟨a0, a1, a2, a3, a4, a5⟩ := SB.gr h1
  have HB := keepd h2
  clear h1 h2 a0 a1 a2 a3 q1 q2 q3
  obtain ⟨s, hs⟩ : ∃ s, sameS k m v M L k 0 0 zM [] = s := ⟨_, rfl⟩
  obtain ⟨p, hp⟩ : ∃ p, partsS k m v L = p := ⟨_, rfl⟩
  have CS := keepd fun x : Gr V => ssame_any k m v M A L n c k 0 0 zM none [] 0 0 s x.W HN.out rfl ((H.out.at_ HB.out).at_ x.h) (RdT.nil _) hs
  have CP := keepd fun x : Gr V => parts_any k m v M A L n c p x.W HN.out ((H.out.at_ HB.out).at_ x.h) hp
  rw [hs, hp] at HM
  clear hs hp
  cases s
  · refine wp_region_gr (by kernel_rfl) (by kernel_rfl) ?_
    repeat
      refine wpQuiet_step (fun K hK => ?_)
      first
        | (refine gr_want (by rfl) ?_
           go_simp
           first
             | (refine hK _ ?_; clear hK K)
             | (apply Exists.intro
                refine ⟨fun _ => ?_, hK _ ?_⟩
                (first | (go_at_call 28; exact Gr.call (CN.out _)) | (go_at_call 16; exact Gr.call (CS.out _)) | (go_at_call 29; exact Gr.call (CP.out _)))
                clear hK K))
        | (refine gr_skip (by rfl) ?_
           go_simp
           refine hK _ ?_
           clear hK K)
    refine wpQuiet_nil ?_
    intro x
    have HB2 := keepd (bCall HB.out x.h)
    go_wp2_with fail
    go_ret
    exact ⟨by rw [← HM.out]; rfl, HB2.out⟩
  · cases p
    · refine wp_region_gr (by kernel_rfl) (by kernel_rfl) ?_
      repeat
        refine wpQuiet_step (fun K hK => ?_)
        first
          | (refine gr_want (by rfl) ?_
             go_simp
             first
               | (refine hK _ ?_; clear hK K)
               | (apply Exists.intro
                  refine ⟨fun _ => ?_, hK _ ?_⟩
                  (first | (go_at_call 28; exact Gr.call (CN.out _)) | (go_at_call 16; exact Gr.call (CS.out _)) | (go_at_call 29; exact Gr.call (CP.out _)))
                  clear hK K))
          | (refine gr_skip (by rfl) ?_
             go_simp
             refine hK _ ?_
             clear hK K)
      refine wpQuiet_nil ?_
      intro x
      have HB2 := keepd (bCall HB.out x.h)
      go_wp2_with fail
      go_ret
      exact ⟨by rw [← HM.out]; rfl, HB2.out⟩
    · refine wp_region_gr (by kernel_rfl) (by kernel_rfl) ?_
      repeat
        refine wpQuiet_step (fun K hK => ?_)
        first
          | (refine gr_want (by rfl) ?_
             go_simp
             first
               | (refine hK _ ?_; clear hK K)
               | (apply Exists.intro
                  refine ⟨fun _ => ?_, hK _ ?_⟩
                  (first | (go_at_call 28; exact Gr.call (CN.out _)) | (go_at_call 16; exact Gr.call (CS.out _)) | (go_at_call 29; exact Gr.call (CP.out _)))
                  clear hK K))
          | (refine gr_skip (by rfl) ?_
             go_simp
             refine hK _ ?_
             clear hK K)
      refine wpQuiet_nil ?_
      intro x
      have HB2 := keepd (bCall HB.out x.h)
      go_wp2_with fail
      go_ret
      exact ⟨by rw [← HM.out]; rfl, HB2.out⟩

theorem scheck_any (k m v : Int) (M : Mk) (A : Option Addr) (L : List Tr) (n c : Nat) (r : Bool) (w : World) (hn : n = L.length) (h : RdT w A L c) (hr : mayS k m v M L = r) :
    Calls Try.prog 14 #[sv k m v M (.slice A n c)] w fun e w' => e = .returned (.int .i64 (serr r)) ∧ Below w.heap.size w w' := by
  subst hr
  cases q1 : (k == 1)
  case true => exact scheck_1 k m v M A L n c w hn h q1
  cases q2 : (k == 2)
  case true =>
    cases q3 : (v == 253)
    · exact scheck_2 k m v M A L n c w hn h q1 q2 q3
    · exact scheck_2d k m v M A L n c w hn h q1 q2 q3
  cases q3 : (k == 3)
  · exact scheck_0 k m v M A L n c w hn h q1 q2 q3
  · exact scheck_3 k m v M A L n c w hn h q1 q2 q3

end Go.Proofs.Ytflmplnampgflaa
