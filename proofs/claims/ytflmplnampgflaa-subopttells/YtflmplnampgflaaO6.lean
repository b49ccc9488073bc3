/-
  The contract of named. No conditions beyond those each theorem states.
-/
import Derived.Test.YtflmplnampgflaaO5
namespace Go.Proofs.Ytflmplnampgflaa
open Go.RowKit
set_option maxRecDepth 100000

attribute [local go_sem ↓] ex_ld23 ex_st23 ex_al23 ex_bu23 ex_eq23 ex_ne23 ex_ld26 ex_st26 ex_al26 ex_ld23o ex_st23o ex_bu26 ex_bu26k ex_bu26m ex_bu26l ex_bu26v ex_bu26w ex_eq29 ex_ne29
attribute [local go_sem] ptrB_at okPtr_at aggC_at agg32 agg36 isM_at eqV_m isRow_new isRow_new26 World.setRow_alloc_new ptr3_at okPtr3_at cutM_at putM_at isI_at isL_at bK_at bKM_at bKL_at bKVM_at bKV_at isV_at toV_at

set_option maxHeartbeats 1000000 in
theorem named_1 (k m v : Int) (M : Mk) (A : Option Addr) (n c : Nat) (w : World) (q1 : (k == 1) = true) :
    Calls Try.prog 28 #[sv k m v M (.slice A n c)] w fun e w' => e = .returned (sv k m 0 zM nil_) ∧ Below w.heap.size w w' := by
  go_enter Try.func28, Try.ntmps28
  go_upto_region 1 with fail
  generalize hV : (w.alloc (.cells (sc k m v M (.slice A n c)).toArray 26)).alloc (.cells (sc 0 0 0 zM (.slice none 0 0)).toArray 26) = V
  obtain ⟨h1, h2, h3, h4⟩ := two_new _ _ _ _ _ _ hV
  obtain ⟨g, hg⟩ : ∃ g, w.heap.size = g := ⟨_, rfl⟩
  obtain ⟨g2, hg2⟩ : ∃ g2, w.heap.size + 1 = g2 := ⟨_, rfl⟩
  rw [hg2] at h2
  rw [hg] at h1
  have HG : Hid (w.heap.size = g ∧ w.heap.size + 1 = g2) := ⟨hg, hg2⟩
  rw [hg2, hg]
  clear hV hg hg2
  have H4 := keepd h4
  clear h4
  obtain ⟨a0, a1, a2, a3⟩ := SB.cells h1
  have HB := keepd h3
  have H1 := keepd h1
  have H2 := keepd h2
  clear h1 h2 h3
  go_upto_region 2 with fail
  generalize hV : V.alloc (.cells (sc k 0 0 zM (.slice none 0 0)).toArray 26) = V2
  obtain ⟨h1, h2, h5, h3, h6⟩ : SB V2 g k m v M (.slice A n c) ∧ SB V2 g2 0 0 0 zM nil_ ∧ SB V2 V.heap.size k 0 0 zM nil_ ∧ Below w.heap.size w V2 ∧ (g < V.heap.size ∧ g2 < V.heap.size) := by
    subst hV
    exact ⟨SR.alloc H1.out _, SR.alloc H2.out _, SR.new 26 V _, bAlloc HB.out _, H1.out.lt, H2.out.lt⟩
  obtain ⟨g3, hg3⟩ : ∃ g3, V.heap.size = g3 := ⟨_, rfl⟩
  rw [hg3] at h5 h6
  rw [hg3]
  clear hV hg3 HB H1 H2 H4 a0 a1 a2 a3
  obtain ⟨a0, a1, a2, a3⟩ := SB.cells h1
  obtain ⟨a4, a5⟩ := SB.facts h1
  have HGG := keepd h6
  have HB := keepd h3
  have H1 := keepd h1
  have H2 := keepd h2
  have H5 := keepd h5
  clear h1 h2 h3 h5 h6
  have f1 := SR.frozen H5.out 1
  have f2 := SR.frozen H5.out 2
  have f35 := SR.frozen H5.out 35
  obtain ⟨b0, b1, b2, b3⟩ := SB.cells H5.out
  obtain ⟨b4, b5⟩ := SB.facts H5.out
  go_upto_region 11 with fail
  generalize hV : V2.setCell ⟨g3, 1, none⟩ (.int .i64 m) = V3
  obtain ⟨h1, h2, h5, h3⟩ : SB V3 g k m v M (.slice A n c) ∧ SB V3 g2 0 0 0 zM nil_ ∧ SB V3 g3 k m 0 zM nil_ ∧ Below w.heap.size w V3 := by
    have e := HGG.out
    have eg := HG.out
    subst hV
    exact ⟨SR.far H1.out (by show g ≠ g3; omega) _, SR.far H2.out (by show g2 ≠ g3; omega) _, SB.set1 H5.out m, bSet HB.out (by omega) _⟩
  clear hV
  clear f1 f2 f35 b0 b1 b2 b3 b4 b5
  clear a0 a1 a2 a3 a4 a5
  clear HB H1 H2 H5
  obtain ⟨a0, a1, a2, a3⟩ := SB.cells h1
  obtain ⟨a4, a5⟩ := SB.facts h1
  have HB := keepd h3
  have H1 := keepd h1
  have H2 := keepd h2
  have H5 := keepd h5
  clear h1 h2 h3 h5
  obtain ⟨c4, c5⟩ := SB.facts H2.out
  have f1 := SR.frozen H5.out 1
  have f2 := SR.frozen H5.out 2
  have f35 := SR.frozen H5.out 35
  obtain ⟨b0, b1, b2, b3⟩ := SB.cells H5.out
  obtain ⟨b4, b5⟩ := SB.facts H5.out
  go_wp2_with fail
  exact bodyPost_ret (results_s Try.results28 _ _ g2 _ _ _ _ _ rfl (SR.row H2.out _)) rfl ⟨rfl, bRow HB.out (by have := HG.out; omega) _⟩

set_option maxHeartbeats 1000000 in
theorem named_3 (k m v : Int) (M : Mk) (A : Option Addr) (n c : Nat) (w : World) (q1 : (k == 1) = false) (q2 : (k == 2) = false) (q3 : (k == 3) = true) :
    Calls Try.prog 28 #[sv k m v M (.slice A n c)] w fun e w' => e = .returned (sv k 0 0 zM (.slice A n c)) ∧ Below w.heap.size w w' := by
  go_enter Try.func28, Try.ntmps28
  go_upto_region 1 with fail
  generalize hV : (w.alloc (.cells (sc k m v M (.slice A n c)).toArray 26)).alloc (.cells (sc 0 0 0 zM (.slice none 0 0)).toArray 26) = V
  obtain ⟨h1, h2, h3, h4⟩ := two_new _ _ _ _ _ _ hV
  obtain ⟨g, hg⟩ : ∃ g, w.heap.size = g := ⟨_, rfl⟩
  obtain ⟨g2, hg2⟩ : ∃ g2, w.heap.size + 1 = g2 := ⟨_, rfl⟩
  rw [hg2] at h2
  rw [hg] at h1
  have HG : Hid (w.heap.size = g ∧ w.heap.size + 1 = g2) := ⟨hg, hg2⟩
  rw [hg2, hg]
  clear hV hg hg2
  have H4 := keepd h4
  clear h4
  obtain ⟨a0, a1, a2, a3⟩ := SB.cells h1
  have HB := keepd h3
  have H1 := keepd h1
  have H2 := keepd h2
  clear h1 h2 h3
  go_upto_region 2 with fail
  generalize hV : V.alloc (.cells (sc k 0 0 zM (.slice none 0 0)).toArray 26) = V2
  obtain ⟨h1, h2, h5, h3, h6⟩ : SB V2 g k m v M (.slice A n c) ∧ SB V2 g2 0 0 0 zM nil_ ∧ SB V2 V.heap.size k 0 0 zM nil_ ∧ Below w.heap.size w V2 ∧ (g < V.heap.size ∧ g2 < V.heap.size) := by
    subst hV
    exact ⟨SR.alloc H1.out _, SR.alloc H2.out _, SR.new 26 V _, bAlloc HB.out _, H1.out.lt, H2.out.lt⟩
  obtain ⟨g3, hg3⟩ : ∃ g3, V.heap.size = g3 := ⟨_, rfl⟩
  rw [hg3] at h5 h6
  rw [hg3]
  clear hV hg3 HB H1 H2 H4 a0 a1 a2 a3
  obtain ⟨a0, a1, a2, a3⟩ := SB.cells h1
  obtain ⟨a4, a5⟩ := SB.facts h1
  have HGG := keepd h6
  have HB := keepd h3
  have H1 := keepd h1
  have H2 := keepd h2
  have H5 := keepd h5
  clear h1 h2 h3 h5 h6
  have f1 := SR.frozen H5.out 1
  have f2 := SR.frozen H5.out 2
  have f35 := SR.frozen H5.out 35
  obtain ⟨b0, b1, b2, b3⟩ := SB.cells H5.out
  obtain ⟨b4, b5⟩ := SB.facts H5.out
  go_upto_region 11 with fail
  generalize hV : V2.setCell ⟨g3, 35, none⟩ (.slice A n c) = V3
  obtain ⟨h1, h2, h5, h3⟩ : SB V3 g k m v M (.slice A n c) ∧ SB V3 g2 0 0 0 zM nil_ ∧ SB V3 g3 k 0 0 zM (.slice A n c) ∧ Below w.heap.size w V3 := by
    have e := HGG.out
    have eg := HG.out
    subst hV
    exact ⟨SR.far H1.out (by show g ≠ g3; omega) _, SR.far H2.out (by show g2 ≠ g3; omega) _, SB.set35 H5.out _, bSet HB.out (by omega) _⟩
  clear hV
  clear f1 f2 f35 b0 b1 b2 b3 b4 b5
  clear a0 a1 a2 a3 a4 a5
  clear HB H1 H2 H5
  obtain ⟨a0, a1, a2, a3⟩ := SB.cells h1
  obtain ⟨a4, a5⟩ := SB.facts h1
  have HB := keepd h3
  have H1 := keepd h1
  have H2 := keepd h2
  have H5 := keepd h5
  clear h1 h2 h3 h5
  obtain ⟨c4, c5⟩ := SB.facts H2.out
  have f1 := SR.frozen H5.out 1
  have f2 := SR.frozen H5.out 2
  have f35 := SR.frozen H5.out 35
  obtain ⟨b0, b1, b2, b3⟩ := SB.cells H5.out
  obtain ⟨b4, b5⟩ := SB.facts H5.out
  go_wp2_with fail
  exact bodyPost_ret (results_s Try.results28 _ _ g2 _ _ _ _ _ rfl (SR.row H2.out _)) rfl ⟨rfl, bRow HB.out (by have := HG.out; omega) _⟩

set_option maxHeartbeats 1000000 in
theorem named_2 (k m v : Int) (M : Mk) (A : Option Addr) (n c : Nat) (w : World) (q1 : (k == 1) = false) (q2 : (k == 2) = true) (q3 : (v == 253) = false) :
    Calls Try.prog 28 #[sv k m v M (.slice A n c)] w fun e w' => e = .returned (sv k 0 v zM nil_) ∧ Below w.heap.size w w' := by
  go_enter Try.func28, Try.ntmps28
  go_upto_region 1 with fail
  generalize hV : (w.alloc (.cells (sc k m v M (.slice A n c)).toArray 26)).alloc (.cells (sc 0 0 0 zM (.slice none 0 0)).toArray 26) = V
  obtain ⟨h1, h2, h3, h4⟩ := two_new _ _ _ _ _ _ hV
  obtain ⟨g, hg⟩ : ∃ g, w.heap.size = g := ⟨_, rfl⟩
  obtain ⟨g2, hg2⟩ : ∃ g2, w.heap.size + 1 = g2 := ⟨_, rfl⟩
  rw [hg2] at h2
  rw [hg] at h1
  have HG : Hid (w.heap.size = g ∧ w.heap.size + 1 = g2) := ⟨hg, hg2⟩
  rw [hg2, hg]
  clear hV hg hg2
  have H4 := keepd h4
  clear h4
  obtain ⟨a0, a1, a2, a3⟩ := SB.cells h1
  have HB := keepd h3
  have H1 := keepd h1
  have H2 := keepd h2
  clear h1 h2 h3
  go_upto_region 2 with fail
  generalize hV : V.alloc (.cells (sc k 0 0 zM (.slice none 0 0)).toArray 26) = V2
  obtain ⟨h1, h2, h5, h3, h6⟩ : SB V2 g k m v M (.slice A n c) ∧ SB V2 g2 0 0 0 zM nil_ ∧ SB V2 V.heap.size k 0 0 zM nil_ ∧ Below w.heap.size w V2 ∧ (g < V.heap.size ∧ g2 < V.heap.size) := by
    subst hV
    exact ⟨SR.alloc H1.out _, SR.alloc H2.out _, SR.new 26 V _, bAlloc HB.out _, H1.out.lt, H2.out.lt⟩
  obtain ⟨g3, hg3⟩ : ∃ g3, V.heap.size = g3 := ⟨_, rfl⟩
  rw [hg3] at h5 h6
  rw [hg3]
  clear hV hg3 HB H1 H2 H4 a0 a1 a2 a3
  obtain ⟨a0, a1, a2, a3⟩ := SB.cells h1
  obtain ⟨a4, a5⟩ := SB.facts h1
  have HGG := keepd h6
  have HB := keepd h3
  have H1 := keepd h1
  have H2 := keepd h2
  have H5 := keepd h5
  clear h1 h2 h3 h5 h6
  have f1 := SR.frozen H5.out 1
  have f2 := SR.frozen H5.out 2
  have f35 := SR.frozen H5.out 35
  obtain ⟨b0, b1, b2, b3⟩ := SB.cells H5.out
  obtain ⟨b4, b5⟩ := SB.facts H5.out
  go_upto_region 7 with fail
  generalize hV : V2.setCell ⟨g3, 2, none⟩ (.int .i64 v) = V3
  obtain ⟨h1, h2, h5, h3⟩ : SB V3 g k m v M (.slice A n c) ∧ SB V3 g2 0 0 0 zM nil_ ∧ SB V3 g3 k 0 v zM nil_ ∧ Below w.heap.size w V3 := by
    have e := HGG.out
    have eg := HG.out
    subst hV
    exact ⟨SR.far H1.out (by show g ≠ g3; omega) _, SR.far H2.out (by show g2 ≠ g3; omega) _, SB.set2 H5.out v, bSet HB.out (by omega) _⟩
  clear hV
  clear f1 f2 f35 b0 b1 b2 b3 b4 b5
  clear a0 a1 a2 a3 a4 a5
  clear HB H1 H2 H5
  obtain ⟨a0, a1, a2, a3⟩ := SB.cells h1
  obtain ⟨a4, a5⟩ := SB.facts h1
  have HB := keepd h3
  have H1 := keepd h1
  have H2 := keepd h2
  have H5 := keepd h5
  clear h1 h2 h3 h5
  obtain ⟨c4, c5⟩ := SB.facts H2.out
  have f1 := SR.frozen H5.out 1
  have f2 := SR.frozen H5.out 2
  have f35 := SR.frozen H5.out 35
  obtain ⟨b0, b1, b2, b3⟩ := SB.cells H5.out
  obtain ⟨b4, b5⟩ := SB.facts H5.out
  go_wp2_with fail
  exact bodyPost_ret (results_s Try.results28 _ _ g2 _ _ _ _ _ rfl (SR.row H2.out _)) rfl ⟨rfl, bRow HB.out (by have := HG.out; omega) _⟩

set_option maxHeartbeats 1000000 in
theorem named_2d (k m v : Int) (M : Mk) (A : Option Addr) (n c : Nat) (w : World) (q1 : (k == 1) = false) (q2 : (k == 2) = true) (q3 : (v == 253) = true) :
    Calls Try.prog 28 #[sv k m v M (.slice A n c)] w fun e w' => e = .returned (sv k 0 v M nil_) ∧ Below w.heap.size w w' := by
  go_enter Try.func28, Try.ntmps28
  go_upto_region 1 with fail
  generalize hV : (w.alloc (.cells (sc k m v M (.slice A n c)).toArray 26)).alloc (.cells (sc 0 0 0 zM (.slice none 0 0)).toArray 26) = V
  obtain ⟨h1, h2, h3, h4⟩ := two_new _ _ _ _ _ _ hV
  obtain ⟨g, hg⟩ : ∃ g, w.heap.size = g := ⟨_, rfl⟩
  obtain ⟨g2, hg2⟩ : ∃ g2, w.heap.size + 1 = g2 := ⟨_, rfl⟩
  rw [hg2] at h2
  rw [hg] at h1
  have HG : Hid (w.heap.size = g ∧ w.heap.size + 1 = g2) := ⟨hg, hg2⟩
  rw [hg2, hg]
  clear hV hg hg2
  have H4 := keepd h4
  clear h4
  obtain ⟨a0, a1, a2, a3⟩ := SB.cells h1
  have HB := keepd h3
  have H1 := keepd h1
  have H2 := keepd h2
  clear h1 h2 h3
  go_upto_region 2 with fail
  generalize hV : V.alloc (.cells (sc k 0 0 zM (.slice none 0 0)).toArray 26) = V2
  obtain ⟨h1, h2, h5, h3, h6⟩ : SB V2 g k m v M (.slice A n c) ∧ SB V2 g2 0 0 0 zM nil_ ∧ SB V2 V.heap.size k 0 0 zM nil_ ∧ Below w.heap.size w V2 ∧ (g < V.heap.size ∧ g2 < V.heap.size) := by
    subst hV
    exact ⟨SR.alloc H1.out _, SR.alloc H2.out _, SR.new 26 V _, bAlloc HB.out _, H1.out.lt, H2.out.lt⟩
  obtain ⟨g3, hg3⟩ : ∃ g3, V.heap.size = g3 := ⟨_, rfl⟩
  rw [hg3] at h5 h6
  rw [hg3]
  clear hV hg3 HB H1 H2 H4 a0 a1 a2 a3
  obtain ⟨a0, a1, a2, a3⟩ := SB.cells h1
  obtain ⟨a4, a5⟩ := SB.facts h1
  have HGG := keepd h6
  have HB := keepd h3
  have H1 := keepd h1
  have H2 := keepd h2
  have H5 := keepd h5
  clear h1 h2 h3 h5 h6
  have f1 := SR.frozen H5.out 1
  have f2 := SR.frozen H5.out 2
  have f35 := SR.frozen H5.out 35
  obtain ⟨b0, b1, b2, b3⟩ := SB.cells H5.out
  obtain ⟨b4, b5⟩ := SB.facts H5.out
  go_upto_region 7 with fail
  generalize hV : V2.setCell ⟨g3, 2, none⟩ (.int .i64 v) = V4
  obtain ⟨h1, h2, h5, h3⟩ : SB V4 g k m v M (.slice A n c) ∧ SB V4 g2 0 0 0 zM nil_ ∧ SB V4 g3 k 0 v zM nil_ ∧ Below w.heap.size w V4 := by
    have e := HGG.out
    have eg := HG.out
    subst hV
    exact ⟨SR.far H1.out (by show g ≠ g3; omega) _, SR.far H2.out (by show g2 ≠ g3; omega) _, SB.set2 H5.out v, bSet HB.out (by omega) _⟩
  clear hV
  clear f1 f2 f35 b0 b1 b2 b3 b4 b5
  clear a0 a1 a2 a3 a4 a5
  clear HB H1 H2 H5
  obtain ⟨a0, a1, a2, a3⟩ := SB.cells h1
  obtain ⟨a4, a5⟩ := SB.facts h1
  have HB := keepd h3
  have H1 := keepd h1
  have H2 := keepd h2
  have H5 := keepd h5
  clear h1 h2 h3 h5
  have f1 := SR.frozen H5.out 1
  have f2 := SR.frozen H5.out 2
  have f35 := SR.frozen H5.out 35
  obtain ⟨b0, b1, b2, b3⟩ := SB.cells H5.out
  obtain ⟨b4, b5⟩ := SB.facts H5.out
  go_upto_region 11 with fail
  generalize hV : V4.setRow g3 (sc k 0 v M nil_).toArray = V3
  obtain ⟨h1, h2, h5, h3⟩ : SB V3 g k m v M (.slice A n c) ∧ SB V3 g2 0 0 0 zM nil_ ∧ SB V3 g3 k 0 v M nil_ ∧ Below w.heap.size w V3 := by
    have e := HGG.out
    have eg := HG.out
    subst hV
    exact ⟨SR.rowFar H1.out (by show g ≠ g3; omega) _, SR.rowFar H2.out (by show g2 ≠ g3; omega) _, SR.row H5.out _, bRow HB.out (by omega) _⟩
  clear hV
  clear f1 f2 f35 b0 b1 b2 b3 b4 b5
  clear a0 a1 a2 a3 a4 a5
  clear HB H1 H2 H5
  obtain ⟨a0, a1, a2, a3⟩ := SB.cells h1
  obtain ⟨a4, a5⟩ := SB.facts h1
  have HB := keepd h3
  have H1 := keepd h1
  have H2 := keepd h2
  have H5 := keepd h5
  clear h1 h2 h3 h5
  obtain ⟨c4, c5⟩ := SB.facts H2.out
  have f1 := SR.frozen H5.out 1
  have f2 := SR.frozen H5.out 2
  have f35 := SR.frozen H5.out 35
  obtain ⟨b0, b1, b2, b3⟩ := SB.cells H5.out
  obtain ⟨b4, b5⟩ := SB.facts H5.out
  go_wp2_with fail
  exact bodyPost_ret (results_s Try.results28 _ _ g2 _ _ _ _ _ rfl (SR.row H2.out _)) rfl ⟨rfl, bRow HB.out (by have := HG.out; omega) _⟩

set_option maxHeartbeats 1000000 in
theorem named_0 (k m v : Int) (M : Mk) (A : Option Addr) (n c : Nat) (w : World) (q1 : (k == 1) = false) (q2 : (k == 2) = false) (q3 : (k == 3) = false) :
    Calls Try.prog 28 #[sv k m v M (.slice A n c)] w fun e w' => e = .returned (sv k 0 0 zM nil_) ∧ Below w.heap.size w w' := by
  go_enter Try.func28, Try.ntmps28
  go_upto_region 1 with fail
  generalize hV : (w.alloc (.cells (sc k m v M (.slice A n c)).toArray 26)).alloc (.cells (sc 0 0 0 zM (.slice none 0 0)).toArray 26) = V
  obtain ⟨h1, h2, h3, h4⟩ := two_new _ _ _ _ _ _ hV
  obtain ⟨g, hg⟩ : ∃ g, w.heap.size = g := ⟨_, rfl⟩
  obtain ⟨g2, hg2⟩ : ∃ g2, w.heap.size + 1 = g2 := ⟨_, rfl⟩
  rw [hg2] at h2
  rw [hg] at h1
  have HG : Hid (w.heap.size = g ∧ w.heap.size + 1 = g2) := ⟨hg, hg2⟩
  rw [hg2, hg]
  clear hV hg hg2
  have H4 := keepd h4
  clear h4
  obtain ⟨a0, a1, a2, a3⟩ := SB.cells h1
  have HB := keepd h3
  have H1 := keepd h1
  have H2 := keepd h2
  clear h1 h2 h3
  go_upto_region 2 with fail
  generalize hV : V.alloc (.cells (sc k 0 0 zM (.slice none 0 0)).toArray 26) = V2
  obtain ⟨h1, h2, h5, h3, h6⟩ : SB V2 g k m v M (.slice A n c) ∧ SB V2 g2 0 0 0 zM nil_ ∧ SB V2 V.heap.size k 0 0 zM nil_ ∧ Below w.heap.size w V2 ∧ (g < V.heap.size ∧ g2 < V.heap.size) := by
    subst hV
    exact ⟨SR.alloc H1.out _, SR.alloc H2.out _, SR.new 26 V _, bAlloc HB.out _, H1.out.lt, H2.out.lt⟩
  obtain ⟨g3, hg3⟩ : ∃ g3, V.heap.size = g3 := ⟨_, rfl⟩
  rw [hg3] at h5 h6
  rw [hg3]
  clear hV hg3 HB H1 H2 H4 a0 a1 a2 a3
  obtain ⟨a0, a1, a2, a3⟩ := SB.cells h1
  obtain ⟨a4, a5⟩ := SB.facts h1
  have HGG := keepd h6
  have HB := keepd h3
  have H1 := keepd h1
  have H2 := keepd h2
  have H5 := keepd h5
  clear h1 h2 h3 h5 h6
  obtain ⟨c4, c5⟩ := SB.facts H2.out
  have f1 := SR.frozen H5.out 1
  have f2 := SR.frozen H5.out 2
  have f35 := SR.frozen H5.out 35
  obtain ⟨b0, b1, b2, b3⟩ := SB.cells H5.out
  obtain ⟨b4, b5⟩ := SB.facts H5.out
  go_wp2_with fail
  exact bodyPost_ret (results_s Try.results28 _ _ g2 _ _ _ _ _ rfl (SR.row H2.out _)) rfl ⟨rfl, bRow HB.out (by have := HG.out; omega) _⟩

end Go.Proofs.Ytflmplnampgflaa
