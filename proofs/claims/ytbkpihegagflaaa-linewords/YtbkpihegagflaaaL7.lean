/-
  LineWords' walk. No conditions beyond those each theorem states.
-/
import Derived.Test.YtbkpihegagflaaaL0
namespace Go.Proofs.Ytbkpihegagflaaa
open Go.RowKit
set_option maxRecDepth 100000

set_option maxHeartbeats 4000000 in
theorem words_any (A : Option Addr) (l : List UInt8) (n c : Nat) (z : Int) (w : World) (hn : n = l.length) (hr : Rd w w.heap.size A l c) :
    Calls Try.prog 9 #[.agg #[.slice A n c, .int .i64 z]] w fun e w' => e = .returned (.bool true) ∧ Below w.heap.size w w' := by
  have HN := keepd hn
  have HR0 := keepd hr
  obtain ⟨m, hm⟩ : ∃ m, (fewL l).length = m := ⟨_, rfl⟩
  have HM := keepd hm
  have hm1 : m ≤ 4100 := by rw [← hm]; exact (few_le l).1
  clear hn hr hm
  go_enter Try.func9, Try.ntmps9
  go_upto_region 1 with fail
  generalize hV : w.alloc (.cells #[.slice A n c, .int .i64 z] 24) = V
  obtain ⟨H, HB⟩ := line_new _ _ _ _ hV
  obtain ⟨k0, k1, k2, k3, kt⟩ := line_facts H.out
  have CF := keepd (few_any A l n c m z V HN.out (HR0.out.at_ HB.out) HM.out)
  clear hV
  go_wp2_with fail
  with_reducible refine CF.out.mono ?_
  rintro e w1 ⟨rfl, hb1⟩
  have H1 := keepd (SR.call H.out hb1 H.out.lt)
  have HB1 := keepd (bCall HB.out hb1)
  obtain ⟨k0, k1, k2, k3, kt⟩ := line_facts H1.out
  clear hb1 CF H HB
  go_upto_region 2 with fail
  generalize hV : (w1.setCell ⟨w.heap.size, 0, none⟩ (.slice A m c)).setCell ⟨w.heap.size, 1, none⟩ (.int .i64 z) = V
  obtain ⟨H, HB⟩ := few_set (Nat.le_refl _) H1.out HB1.out _ hV
  have HR := keepd (HR0.out.few.at_ HB.out)
  generalize fewL l = x at *
  obtain ⟨k0, k1, k2, k3, kt⟩ := line_facts H.out
  clear hV H1 HB1 HR0 HN
  cases hv : mayV m z
  case false =>
    have CK := keepd (check_bad A m c z V hv)
    go_wp2_with fail
    with_reducible refine CK.out.mono ?_
    rintro e w2 ⟨rfl, hb2⟩
    have HB2 := keepd (bCall HB.out hb2)
    clear hb2
    go_wp2_with fail
    with_reducible refine (awake_any _).mono ?_
    rintro e w3 ⟨rfl, hb3⟩
    have HB3 := keepd (bCall HB2.out hb3)
    clear hb3
    go_wp2_with fail
    go_ret
    exact ⟨rfl, HB3.out⟩
  obtain ⟨h4, t, rfl, ht⟩ := mayV_inv hv
  have CK := keepd (check_ok A m c t V h4 ht)
  clear hv hm1
  go_wp2_with fail
  with_reducible refine CK.out.mono ?_
  rintro e w2 ⟨rfl, hb2⟩
  have HB2 := keepd (bCall HB.out hb2)
  have H2 := keepd (SR.call H.out hb2 H.out.lt)
  have HR2 := keepd (HR.out.at_ hb2)
  clear hb2 CK k0 k1 k2 k3 kt
  obtain ⟨b, hb⟩ : ∃ b, backL x t = b := ⟨_, rfl⟩
  obtain ⟨o, ho⟩ : ∃ o, onL x t = o := ⟨_, rfl⟩
  have b1 : b ≤ t := by rw [← hb]; exact back_le x t
  have o1 : t ≤ o := by rw [← ho]; exact on_ge x t
  have o2 : o ≤ m := by rw [← ho, ← HM.out]; exact on_le x (by rw [HM.out]; exact ht)
  have SB := back_spec x t
  have SO := on_spec x (t := t) (by rw [HM.out]; exact ht)
  rw [hb] at SB
  rw [ho, HM.out] at SO
  have HSB := keepd SB
  have HSO := keepd SO
  have CB := keepd fun y : Gr w2 => back_any A x m c t b y.W HM.out.symm (HR2.out.at_ y.h) h4 ht hb
  have CO := keepd fun y : Gr w2 => on_any A x m c t o y.W HM.out.symm (HR2.out.at_ y.h) h4 ht ho
  obtain ⟨g0, g1⟩ := H2.out.gr
  clear SB SO hb ho
  go_wp2_with fail
  refine wp_region_gr (by kernel_rfl) (by kernel_rfl) ?_
  repeat
    refine wpQuiet_step (fun K hK => ?_)
    first
      | (refine gr_want (by rfl) ?_
         go_simp
         first
           | (refine hK _ ?_; clear hK K)
           | (apply Exists.intro
              refine ⟨fun _ => ?_, hK _ ?_⟩
              (first | (go_at_call 16; exact Gr.call (CB.out _)) | (go_at_call 17; exact Gr.call (CO.out _)))
              clear hK K))
      | (refine gr_skip (by rfl) ?_
         go_simp
         refine hK _ ?_
         clear hK K)
  refine wpQuiet_nil ?_
  intro y
  have HB3 := keepd (bCall HB2.out y.h)
  have HR3 := keepd (HR2.out.at_ y.h)
  have H3 := keepd (SR.call H2.out y.h H2.out.lt)
  obtain ⟨w3, hw3⟩ : ∃ w3, y.W = w3 := ⟨_, rfl⟩
  rw [hw3] at HB3 HR3 H3
  rw [hw3]
  clear hw3 g0 g1 CB CO
  obtain ⟨k0, k1, _, _, _⟩ := line_facts H3.out
  have hc1 := HR3.out.len
  have hc2 := hc1.2
  replace hc1 := hc1.1
  rw [HM.out] at hc1
  unfold maxLen at hc2
  have SA : t = 0 ∨ (¬ t = 0 ∧ b < t ∧ b = 0) ∨ (b < t ∧ 0 < b) := by
    rcases HSB.out.2 with h | h
    · exact .inl h
    · omega
  have SO : t = m ∨ (t < m ∧ t < o ∧ o = m) ∨ (t < o ∧ o < m) := by
    rcases Nat.lt_or_ge t m with h | h
    · have := HSO.out.2 h
      omega
    · exact .inl (by omega)
  rcases SA with hA | hA | hA <;> rcases SO with hO | hO | hO
  · have f0 : ¬ (b : Int) > 0 := by omega
    have f1 : ¬ (0 : Int) < (b : Int) := by omega
    have f2 : ¬ 0 < b := by omega
    have hom : m = o := by omega
    subst hom
    have a0 : ¬ (b : Int) < 0 := by omega
    have a1 : ¬ (b : Int) > (t : Int) := by omega
    have a2 : ¬ (t : Int) < (b : Int) := by omega
    have a3 : ¬ (m : Int) < (t : Int) := by omega
    have a4 : ¬ (m : Int) > (m : Int) := by omega
    have a5 : ¬ (m : Int) < (m : Int) := by omega
    have a6 : ¬ t < b := by omega
    have a7 : ¬ m < t := by omega
    have a8 : ¬ m < m := by omega
    have a9 : t ≤ 4096 := by omega
    have a10 : b ≤ 4096 := by omega
    have a11 : m ≤ 4096 := by omega
    have a12 : ¬ (t : Int) > 0 := by omega
    have a13 : ¬ (0 : Int) < (t : Int) := by omega
    have a14 : ¬ 0 < t := by omega
    have a15 : ¬ (t : Int) < (m : Int) := by omega
    have a16 : ¬ t < m := by omega
    clear HSB HSO HR2 H2 HB2 hA hO
    go_wp2_with fail
    with_reducible refine (awake_any _).mono ?_
    rintro e w4 ⟨rfl, hb4⟩
    have HB4 := keepd (bCall HB3.out hb4)
    clear hb4
    go_wp2_with fail
    go_ret
    exact ⟨rfl, HB4.out⟩
  · have f0 : ¬ (b : Int) > 0 := by omega
    have f1 : ¬ (0 : Int) < (b : Int) := by omega
    have f2 : ¬ 0 < b := by omega
    have hom : m = o := by omega
    subst hom
    have a0 : ¬ (b : Int) < 0 := by omega
    have a1 : ¬ (b : Int) > (t : Int) := by omega
    have a2 : ¬ (t : Int) < (b : Int) := by omega
    have a3 : ¬ (m : Int) < (t : Int) := by omega
    have a4 : ¬ (m : Int) > (m : Int) := by omega
    have a5 : ¬ (m : Int) < (m : Int) := by omega
    have a6 : ¬ t < b := by omega
    have a7 : ¬ m < t := by omega
    have a8 : ¬ m < m := by omega
    have a9 : t ≤ 4096 := by omega
    have a10 : b ≤ 4096 := by omega
    have a11 : m ≤ 4096 := by omega
    have a12 : ¬ (t : Int) > 0 := by omega
    have a13 : ¬ (0 : Int) < (t : Int) := by omega
    have a14 : ¬ 0 < t := by omega
    have a15 : (t : Int) < (m : Int) := by omega
    have a16 : t < m := by omega
    have a17 : ((m : Int) == (t : Int)) = false := by simp; omega
    have a18 : ¬ (m : Int) = (t : Int) := by omega
    have a19 : ¬ m = t := by omega
    clear HSB HSO HR2 H2 HB2 hA hO
    go_wp2_with fail
    with_reducible refine (awake_any _).mono ?_
    rintro e w4 ⟨rfl, hb4⟩
    have HB4 := keepd (bCall HB3.out hb4)
    clear hb4
    go_wp2_with fail
    go_ret
    exact ⟨rfl, HB4.out⟩
  · obtain ⟨ab, off, hA, _⟩ := HR3.out.addr (by rw [HM.out]; omega)
    cases hA
    have f0 : ¬ (b : Int) > 0 := by omega
    have f1 : ¬ (0 : Int) < (b : Int) := by omega
    have f2 : ¬ 0 < b := by omega
    obtain ⟨i, rfl⟩ : ∃ i, o = i + 1 := ⟨o - 1, by omega⟩
    have e3 : isB (x.getD (i + 1) 0) = false ∧ isB (x.getD i 0) = true := by
      rcases HSO.out.1 with h | h
      · omega
      · have := h.2; rw [Nat.add_sub_cancel] at this; exact this
    have y3 := HR3.out.cellk (k := i) (by rw [HM.out]; omega)
    have y4 := HR3.out.cellk (k := i + 1) (by rw [HM.out]; omega)
    have y4' := y4
    rw [← Nat.add_assoc] at y4'
    have CL3 := lblank_any (x.getD i 0) w3
    have CL4 := lblank_any (x.getD (i + 1) 0) w3
    rw [e3.2] at CL3
    rw [e3.1] at CL4
    have HC3 := keepd CL3
    have HC4 := keepd CL4
    generalize x.getD i 0 = u3 at *
    generalize x.getD (i + 1) 0 = u4 at *
    have h0 : (i : Int) + 1 > 0 := by omega
    have h1 : (0 : Int) < (i : Int) + 1 := by omega
    have h2 : (0 : Int) ≤ (i : Int) := by omega
    have h3 : (i : Int) < (m : Int) := by omega
    have h5 : (i : Int) + 1 < (m : Int) := by omega
    have h6 : (0 : Int) ≤ (i : Int) + 1 := by omega
    have h7 : ((i : Int) + 1 == (m : Int)) = false := by simp; omega
    have h8 : ¬ (i : Int) + 1 = (m : Int) := by omega
    have h9 : (i : Int) ≤ 4096 := by omega
    clear CL3 CL4 e3
    have a0 : ¬ (b : Int) < 0 := by omega
    have a1 : ¬ (b : Int) > (t : Int) := by omega
    have a2 : ¬ (t : Int) < (b : Int) := by omega
    have a3 : ¬ ((i : Int) + 1) < (t : Int) := by omega
    have a4 : ¬ ((i : Int) + 1) > (m : Int) := by omega
    have a5 : ¬ (m : Int) < ((i : Int) + 1) := by omega
    have a6 : ¬ t < b := by omega
    have a7 : ¬ i + 1 < t := by omega
    have a8 : ¬ m < i + 1 := by omega
    have a9 : t ≤ 4096 := by omega
    have a10 : b ≤ 4096 := by omega
    have a11 : i + 1 ≤ 4096 := by omega
    have a12 : ¬ (t : Int) > 0 := by omega
    have a13 : ¬ (0 : Int) < (t : Int) := by omega
    have a14 : ¬ 0 < t := by omega
    have a15 : (t : Int) < (m : Int) := by omega
    have a16 : t < m := by omega
    have a17 : (((i : Int) + 1) == (t : Int)) = false := by simp; omega
    have a18 : ¬ ((i : Int) + 1) = (t : Int) := by omega
    have a19 : ¬ i + 1 = t := by omega
    clear HSB HSO HR2 H2 HB2 hA hO
    go_wp2_with fail
    with_reducible refine HC4.out.mono ?_
    rintro e w3 ⟨rfl, rfl⟩
    go_wp2_with fail
    with_reducible refine HC3.out.mono ?_
    rintro e w3 ⟨rfl, rfl⟩
    go_wp2_with fail
    with_reducible refine (awake_any _).mono ?_
    rintro e w4 ⟨rfl, hb4⟩
    have HB4 := keepd (bCall HB3.out hb4)
    clear hb4
    go_wp2_with fail
    go_ret
    exact ⟨rfl, HB4.out⟩
  · have f0 : ¬ (b : Int) > 0 := by omega
    have f1 : ¬ (0 : Int) < (b : Int) := by omega
    have f2 : ¬ 0 < b := by omega
    have hom : m = o := by omega
    subst hom
    have a0 : ¬ (b : Int) < 0 := by omega
    have a1 : ¬ (b : Int) > (t : Int) := by omega
    have a2 : ¬ (t : Int) < (b : Int) := by omega
    have a3 : ¬ (m : Int) < (t : Int) := by omega
    have a4 : ¬ (m : Int) > (m : Int) := by omega
    have a5 : ¬ (m : Int) < (m : Int) := by omega
    have a6 : ¬ t < b := by omega
    have a7 : ¬ m < t := by omega
    have a8 : ¬ m < m := by omega
    have a9 : t ≤ 4096 := by omega
    have a10 : b ≤ 4096 := by omega
    have a11 : m ≤ 4096 := by omega
    have a12 : (t : Int) > 0 := by omega
    have a13 : (0 : Int) < (t : Int) := by omega
    have a14 : 0 < t := by omega
    have a15 : ((b : Int) == (t : Int)) = false := by simp; omega
    have a16 : ¬ (b : Int) = (t : Int) := by omega
    have a17 : ¬ b = t := by omega
    have a18 : ¬ (t : Int) < (m : Int) := by omega
    have a19 : ¬ t < m := by omega
    clear HSB HSO HR2 H2 HB2 hA hO
    go_wp2_with fail
    with_reducible refine (awake_any _).mono ?_
    rintro e w4 ⟨rfl, hb4⟩
    have HB4 := keepd (bCall HB3.out hb4)
    clear hb4
    go_wp2_with fail
    go_ret
    exact ⟨rfl, HB4.out⟩
  · have f0 : ¬ (b : Int) > 0 := by omega
    have f1 : ¬ (0 : Int) < (b : Int) := by omega
    have f2 : ¬ 0 < b := by omega
    have hom : m = o := by omega
    subst hom
    have a0 : ¬ (b : Int) < 0 := by omega
    have a1 : ¬ (b : Int) > (t : Int) := by omega
    have a2 : ¬ (t : Int) < (b : Int) := by omega
    have a3 : ¬ (m : Int) < (t : Int) := by omega
    have a4 : ¬ (m : Int) > (m : Int) := by omega
    have a5 : ¬ (m : Int) < (m : Int) := by omega
    have a6 : ¬ t < b := by omega
    have a7 : ¬ m < t := by omega
    have a8 : ¬ m < m := by omega
    have a9 : t ≤ 4096 := by omega
    have a10 : b ≤ 4096 := by omega
    have a11 : m ≤ 4096 := by omega
    have a12 : (t : Int) > 0 := by omega
    have a13 : (0 : Int) < (t : Int) := by omega
    have a14 : 0 < t := by omega
    have a15 : ((b : Int) == (t : Int)) = false := by simp; omega
    have a16 : ¬ (b : Int) = (t : Int) := by omega
    have a17 : ¬ b = t := by omega
    have a18 : (t : Int) < (m : Int) := by omega
    have a19 : t < m := by omega
    have a20 : ((m : Int) == (t : Int)) = false := by simp; omega
    have a21 : ¬ (m : Int) = (t : Int) := by omega
    have a22 : ¬ m = t := by omega
    clear HSB HSO HR2 H2 HB2 hA hO
    go_wp2_with fail
    with_reducible refine (awake_any _).mono ?_
    rintro e w4 ⟨rfl, hb4⟩
    have HB4 := keepd (bCall HB3.out hb4)
    clear hb4
    go_wp2_with fail
    go_ret
    exact ⟨rfl, HB4.out⟩
  · obtain ⟨ab, off, hA, _⟩ := HR3.out.addr (by rw [HM.out]; omega)
    cases hA
    have f0 : ¬ (b : Int) > 0 := by omega
    have f1 : ¬ (0 : Int) < (b : Int) := by omega
    have f2 : ¬ 0 < b := by omega
    obtain ⟨i, rfl⟩ : ∃ i, o = i + 1 := ⟨o - 1, by omega⟩
    have e3 : isB (x.getD (i + 1) 0) = false ∧ isB (x.getD i 0) = true := by
      rcases HSO.out.1 with h | h
      · omega
      · have := h.2; rw [Nat.add_sub_cancel] at this; exact this
    have y3 := HR3.out.cellk (k := i) (by rw [HM.out]; omega)
    have y4 := HR3.out.cellk (k := i + 1) (by rw [HM.out]; omega)
    have y4' := y4
    rw [← Nat.add_assoc] at y4'
    have CL3 := lblank_any (x.getD i 0) w3
    have CL4 := lblank_any (x.getD (i + 1) 0) w3
    rw [e3.2] at CL3
    rw [e3.1] at CL4
    have HC3 := keepd CL3
    have HC4 := keepd CL4
    generalize x.getD i 0 = u3 at *
    generalize x.getD (i + 1) 0 = u4 at *
    have h0 : (i : Int) + 1 > 0 := by omega
    have h1 : (0 : Int) < (i : Int) + 1 := by omega
    have h2 : (0 : Int) ≤ (i : Int) := by omega
    have h3 : (i : Int) < (m : Int) := by omega
    have h5 : (i : Int) + 1 < (m : Int) := by omega
    have h6 : (0 : Int) ≤ (i : Int) + 1 := by omega
    have h7 : ((i : Int) + 1 == (m : Int)) = false := by simp; omega
    have h8 : ¬ (i : Int) + 1 = (m : Int) := by omega
    have h9 : (i : Int) ≤ 4096 := by omega
    clear CL3 CL4 e3
    have a0 : ¬ (b : Int) < 0 := by omega
    have a1 : ¬ (b : Int) > (t : Int) := by omega
    have a2 : ¬ (t : Int) < (b : Int) := by omega
    have a3 : ¬ ((i : Int) + 1) < (t : Int) := by omega
    have a4 : ¬ ((i : Int) + 1) > (m : Int) := by omega
    have a5 : ¬ (m : Int) < ((i : Int) + 1) := by omega
    have a6 : ¬ t < b := by omega
    have a7 : ¬ i + 1 < t := by omega
    have a8 : ¬ m < i + 1 := by omega
    have a9 : t ≤ 4096 := by omega
    have a10 : b ≤ 4096 := by omega
    have a11 : i + 1 ≤ 4096 := by omega
    have a12 : (t : Int) > 0 := by omega
    have a13 : (0 : Int) < (t : Int) := by omega
    have a14 : 0 < t := by omega
    have a15 : ((b : Int) == (t : Int)) = false := by simp; omega
    have a16 : ¬ (b : Int) = (t : Int) := by omega
    have a17 : ¬ b = t := by omega
    have a18 : (t : Int) < (m : Int) := by omega
    have a19 : t < m := by omega
    have a20 : (((i : Int) + 1) == (t : Int)) = false := by simp; omega
    have a21 : ¬ ((i : Int) + 1) = (t : Int) := by omega
    have a22 : ¬ i + 1 = t := by omega
    clear HSB HSO HR2 H2 HB2 hA hO
    go_wp2_with fail
    with_reducible refine HC4.out.mono ?_
    rintro e w3 ⟨rfl, rfl⟩
    go_wp2_with fail
    with_reducible refine HC3.out.mono ?_
    rintro e w3 ⟨rfl, rfl⟩
    go_wp2_with fail
    with_reducible refine (awake_any _).mono ?_
    rintro e w4 ⟨rfl, hb4⟩
    have HB4 := keepd (bCall HB3.out hb4)
    clear hb4
    go_wp2_with fail
    go_ret
    exact ⟨rfl, HB4.out⟩
  · obtain ⟨ab, off, hA, _⟩ := HR3.out.addr (by rw [HM.out]; omega)
    cases hA
    obtain ⟨j, rfl⟩ : ∃ j, b = j + 1 := ⟨b - 1, by omega⟩
    have e1 : isB (x.getD j 0) = true := by
      rcases HSB.out.1 with h | h
      · omega
      · rw [Nat.add_sub_cancel] at h; exact h
    have e2 : isB (x.getD (j + 1) 0) = false := by
      rcases HSB.out.2 with h | h
      · omega
      · rcases h.2 with h | h
        · omega
        · exact h
    have y1 := HR3.out.cellk (k := j) (by rw [HM.out]; omega)
    have y2 := HR3.out.cellk (k := j + 1) (by rw [HM.out]; omega)
    have y2' := y2
    rw [← Nat.add_assoc] at y2'
    have CL1 := lblank_any (x.getD j 0) w3
    have CL2 := lblank_any (x.getD (j + 1) 0) w3
    rw [e1] at CL1
    rw [e2] at CL2
    have HC1 := keepd CL1
    have HC2 := keepd CL2
    generalize x.getD j 0 = u1 at *
    generalize x.getD (j + 1) 0 = u2 at *
    have f0 : (j : Int) + 1 > 0 := by omega
    have f1 : (0 : Int) < (j : Int) + 1 := by omega
    have f2 : (0 : Int) ≤ (j : Int) := by omega
    have f3 : (j : Int) < (m : Int) := by omega
    have f4 : (j : Int) + 1 < (m : Int) := by omega
    have f5 : (0 : Int) ≤ (j : Int) + 1 := by omega
    have f6 : (j : Int) ≤ 4096 := by omega
    clear CL1 CL2 e1 e2
    have hom : m = o := by omega
    subst hom
    have a0 : ¬ ((j : Int) + 1) < 0 := by omega
    have a1 : ¬ ((j : Int) + 1) > (t : Int) := by omega
    have a2 : ¬ (t : Int) < ((j : Int) + 1) := by omega
    have a3 : ¬ (m : Int) < (t : Int) := by omega
    have a4 : ¬ (m : Int) > (m : Int) := by omega
    have a5 : ¬ (m : Int) < (m : Int) := by omega
    have a6 : ¬ t < j + 1 := by omega
    have a7 : ¬ m < t := by omega
    have a8 : ¬ m < m := by omega
    have a9 : t ≤ 4096 := by omega
    have a10 : j + 1 ≤ 4096 := by omega
    have a11 : m ≤ 4096 := by omega
    have a12 : (t : Int) > 0 := by omega
    have a13 : (0 : Int) < (t : Int) := by omega
    have a14 : 0 < t := by omega
    have a15 : (((j : Int) + 1) == (t : Int)) = false := by simp; omega
    have a16 : ¬ ((j : Int) + 1) = (t : Int) := by omega
    have a17 : ¬ j + 1 = t := by omega
    have a18 : ¬ (t : Int) < (m : Int) := by omega
    have a19 : ¬ t < m := by omega
    clear HSB HSO HR2 H2 HB2 hA hO
    go_wp2_with fail
    with_reducible refine HC1.out.mono ?_
    rintro e w3 ⟨rfl, rfl⟩
    go_wp2_with fail
    with_reducible refine HC2.out.mono ?_
    rintro e w3 ⟨rfl, rfl⟩
    go_wp2_with fail
    with_reducible refine (awake_any _).mono ?_
    rintro e w4 ⟨rfl, hb4⟩
    have HB4 := keepd (bCall HB3.out hb4)
    clear hb4
    go_wp2_with fail
    go_ret
    exact ⟨rfl, HB4.out⟩
  · obtain ⟨ab, off, hA, _⟩ := HR3.out.addr (by rw [HM.out]; omega)
    cases hA
    obtain ⟨j, rfl⟩ : ∃ j, b = j + 1 := ⟨b - 1, by omega⟩
    have e1 : isB (x.getD j 0) = true := by
      rcases HSB.out.1 with h | h
      · omega
      · rw [Nat.add_sub_cancel] at h; exact h
    have e2 : isB (x.getD (j + 1) 0) = false := by
      rcases HSB.out.2 with h | h
      · omega
      · rcases h.2 with h | h
        · omega
        · exact h
    have y1 := HR3.out.cellk (k := j) (by rw [HM.out]; omega)
    have y2 := HR3.out.cellk (k := j + 1) (by rw [HM.out]; omega)
    have y2' := y2
    rw [← Nat.add_assoc] at y2'
    have CL1 := lblank_any (x.getD j 0) w3
    have CL2 := lblank_any (x.getD (j + 1) 0) w3
    rw [e1] at CL1
    rw [e2] at CL2
    have HC1 := keepd CL1
    have HC2 := keepd CL2
    generalize x.getD j 0 = u1 at *
    generalize x.getD (j + 1) 0 = u2 at *
    have f0 : (j : Int) + 1 > 0 := by omega
    have f1 : (0 : Int) < (j : Int) + 1 := by omega
    have f2 : (0 : Int) ≤ (j : Int) := by omega
    have f3 : (j : Int) < (m : Int) := by omega
    have f4 : (j : Int) + 1 < (m : Int) := by omega
    have f5 : (0 : Int) ≤ (j : Int) + 1 := by omega
    have f6 : (j : Int) ≤ 4096 := by omega
    clear CL1 CL2 e1 e2
    have hom : m = o := by omega
    subst hom
    have a0 : ¬ ((j : Int) + 1) < 0 := by omega
    have a1 : ¬ ((j : Int) + 1) > (t : Int) := by omega
    have a2 : ¬ (t : Int) < ((j : Int) + 1) := by omega
    have a3 : ¬ (m : Int) < (t : Int) := by omega
    have a4 : ¬ (m : Int) > (m : Int) := by omega
    have a5 : ¬ (m : Int) < (m : Int) := by omega
    have a6 : ¬ t < j + 1 := by omega
    have a7 : ¬ m < t := by omega
    have a8 : ¬ m < m := by omega
    have a9 : t ≤ 4096 := by omega
    have a10 : j + 1 ≤ 4096 := by omega
    have a11 : m ≤ 4096 := by omega
    have a12 : (t : Int) > 0 := by omega
    have a13 : (0 : Int) < (t : Int) := by omega
    have a14 : 0 < t := by omega
    have a15 : (((j : Int) + 1) == (t : Int)) = false := by simp; omega
    have a16 : ¬ ((j : Int) + 1) = (t : Int) := by omega
    have a17 : ¬ j + 1 = t := by omega
    have a18 : (t : Int) < (m : Int) := by omega
    have a19 : t < m := by omega
    have a20 : ((m : Int) == (t : Int)) = false := by simp; omega
    have a21 : ¬ (m : Int) = (t : Int) := by omega
    have a22 : ¬ m = t := by omega
    clear HSB HSO HR2 H2 HB2 hA hO
    go_wp2_with fail
    with_reducible refine HC1.out.mono ?_
    rintro e w3 ⟨rfl, rfl⟩
    go_wp2_with fail
    with_reducible refine HC2.out.mono ?_
    rintro e w3 ⟨rfl, rfl⟩
    go_wp2_with fail
    with_reducible refine (awake_any _).mono ?_
    rintro e w4 ⟨rfl, hb4⟩
    have HB4 := keepd (bCall HB3.out hb4)
    clear hb4
    go_wp2_with fail
    go_ret
    exact ⟨rfl, HB4.out⟩
  · obtain ⟨ab, off, hA, _⟩ := HR3.out.addr (by rw [HM.out]; omega)
    cases hA
    obtain ⟨j, rfl⟩ : ∃ j, b = j + 1 := ⟨b - 1, by omega⟩
    have e1 : isB (x.getD j 0) = true := by
      rcases HSB.out.1 with h | h
      · omega
      · rw [Nat.add_sub_cancel] at h; exact h
    have e2 : isB (x.getD (j + 1) 0) = false := by
      rcases HSB.out.2 with h | h
      · omega
      · rcases h.2 with h | h
        · omega
        · exact h
    have y1 := HR3.out.cellk (k := j) (by rw [HM.out]; omega)
    have y2 := HR3.out.cellk (k := j + 1) (by rw [HM.out]; omega)
    have y2' := y2
    rw [← Nat.add_assoc] at y2'
    have CL1 := lblank_any (x.getD j 0) w3
    have CL2 := lblank_any (x.getD (j + 1) 0) w3
    rw [e1] at CL1
    rw [e2] at CL2
    have HC1 := keepd CL1
    have HC2 := keepd CL2
    generalize x.getD j 0 = u1 at *
    generalize x.getD (j + 1) 0 = u2 at *
    have f0 : (j : Int) + 1 > 0 := by omega
    have f1 : (0 : Int) < (j : Int) + 1 := by omega
    have f2 : (0 : Int) ≤ (j : Int) := by omega
    have f3 : (j : Int) < (m : Int) := by omega
    have f4 : (j : Int) + 1 < (m : Int) := by omega
    have f5 : (0 : Int) ≤ (j : Int) + 1 := by omega
    have f6 : (j : Int) ≤ 4096 := by omega
    clear CL1 CL2 e1 e2
    obtain ⟨i, rfl⟩ : ∃ i, o = i + 1 := ⟨o - 1, by omega⟩
    have e3 : isB (x.getD (i + 1) 0) = false ∧ isB (x.getD i 0) = true := by
      rcases HSO.out.1 with h | h
      · omega
      · have := h.2; rw [Nat.add_sub_cancel] at this; exact this
    have y3 := HR3.out.cellk (k := i) (by rw [HM.out]; omega)
    have y4 := HR3.out.cellk (k := i + 1) (by rw [HM.out]; omega)
    have y4' := y4
    rw [← Nat.add_assoc] at y4'
    have CL3 := lblank_any (x.getD i 0) w3
    have CL4 := lblank_any (x.getD (i + 1) 0) w3
    rw [e3.2] at CL3
    rw [e3.1] at CL4
    have HC3 := keepd CL3
    have HC4 := keepd CL4
    generalize x.getD i 0 = u3 at *
    generalize x.getD (i + 1) 0 = u4 at *
    have h0 : (i : Int) + 1 > 0 := by omega
    have h1 : (0 : Int) < (i : Int) + 1 := by omega
    have h2 : (0 : Int) ≤ (i : Int) := by omega
    have h3 : (i : Int) < (m : Int) := by omega
    have h5 : (i : Int) + 1 < (m : Int) := by omega
    have h6 : (0 : Int) ≤ (i : Int) + 1 := by omega
    have h7 : ((i : Int) + 1 == (m : Int)) = false := by simp; omega
    have h8 : ¬ (i : Int) + 1 = (m : Int) := by omega
    have h9 : (i : Int) ≤ 4096 := by omega
    clear CL3 CL4 e3
    have a0 : ¬ ((j : Int) + 1) < 0 := by omega
    have a1 : ¬ ((j : Int) + 1) > (t : Int) := by omega
    have a2 : ¬ (t : Int) < ((j : Int) + 1) := by omega
    have a3 : ¬ ((i : Int) + 1) < (t : Int) := by omega
    have a4 : ¬ ((i : Int) + 1) > (m : Int) := by omega
    have a5 : ¬ (m : Int) < ((i : Int) + 1) := by omega
    have a6 : ¬ t < j + 1 := by omega
    have a7 : ¬ i + 1 < t := by omega
    have a8 : ¬ m < i + 1 := by omega
    have a9 : t ≤ 4096 := by omega
    have a10 : j + 1 ≤ 4096 := by omega
    have a11 : i + 1 ≤ 4096 := by omega
    have a12 : (t : Int) > 0 := by omega
    have a13 : (0 : Int) < (t : Int) := by omega
    have a14 : 0 < t := by omega
    have a15 : (((j : Int) + 1) == (t : Int)) = false := by simp; omega
    have a16 : ¬ ((j : Int) + 1) = (t : Int) := by omega
    have a17 : ¬ j + 1 = t := by omega
    have a18 : (t : Int) < (m : Int) := by omega
    have a19 : t < m := by omega
    have a20 : (((i : Int) + 1) == (t : Int)) = false := by simp; omega
    have a21 : ¬ ((i : Int) + 1) = (t : Int) := by omega
    have a22 : ¬ i + 1 = t := by omega
    clear HSB HSO HR2 H2 HB2 hA hO
    go_wp2_with fail
    with_reducible refine HC1.out.mono ?_
    rintro e w3 ⟨rfl, rfl⟩
    go_wp2_with fail
    with_reducible refine HC2.out.mono ?_
    rintro e w3 ⟨rfl, rfl⟩
    go_wp2_with fail
    with_reducible refine HC4.out.mono ?_
    rintro e w3 ⟨rfl, rfl⟩
    go_wp2_with fail
    with_reducible refine HC3.out.mono ?_
    rintro e w3 ⟨rfl, rfl⟩
    go_wp2_with fail
    with_reducible refine (awake_any _).mono ?_
    rintro e w4 ⟨rfl, hb4⟩
    have HB4 := keepd (bCall HB3.out hb4)
    clear hb4
    go_wp2_with fail
    go_ret
    exact ⟨rfl, HB4.out⟩

end Go.Proofs.Ytbkpihegagflaaa
