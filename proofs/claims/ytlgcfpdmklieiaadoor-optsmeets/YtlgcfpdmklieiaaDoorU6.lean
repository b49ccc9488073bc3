/-
  The contract of moved.
-/
import Derived.Test.YtlgcfpdmklieiaaDoorU5
namespace Go.Proofs.YtlgcfpdmklieiaaDoor
open Go.RowKit
set_option maxRecDepth 100000

attribute [local go_sem ↓] ex_ld25 ex_ld67 ex_ld73 ex_st25 ex_st67 ex_st73 ex_eq25 ex_ne25 ex_ix22
attribute [local go_sem] ptrB_at okPtr_at aggC_at agg16 agg11 agg12 isO_at toO_at idx0 idx1 idx2 idx3 okIdx_at

/-- One option of one side, put elsewhere. -/
def setO (X : O) (h : Bool) (p q : Int) : O := match h with
  | true => { X with him := X.him.set p q }
  | false => { X with us := X.us.set p q }

theorem three_new (w : World) (t t' t'' : TypeId) (a b c : List Value) (W : World) (h : ((w.alloc (.cells a.toArray t)).alloc (.cells b.toArray t')).alloc (.cells c.toArray t'') = W) :
    SR t W w.heap.size a ∧ SR t' W (w.heap.size + 1) b ∧ SR t'' W (w.heap.size + 1 + 1) c ∧ Below w.heap.size w W ∧ W.heap.size = w.heap.size + 3 := by
  subst h
  refine ⟨row_alloc (heap_alloc2_old w _ _), row_alloc (heap_alloc2_new w _ _), new2 w _ _ _, bAlloc (bAlloc (bAlloc (Below.refl _ _) _) _) _, by simp⟩

theorem moved_f0 (X : O) (q : Int) (w : World) : Calls Tryd.prog 34 #[(sideF X false).x 0, X.v, .int .i64 q] w fun e w' => e = .returned (setO X false 0 q).v ∧ Below w.heap.size w w' := by
  obtain ⟨Y, hY⟩ : ∃ Y, setO X false 0 q = Y := ⟨_, rfl⟩
  rw [hY]
  have HY := keepd hY
  clear hY
  simp only [Sd.x, sideF]
  go_enter Tryd.func34, Tryd.ntmps34
  go_upto_region 5 with fail
  generalize hW : ((w.alloc (.cells (List.toArray [.bool false, .int .i64 q, .int .i64 X.us.b, .int .i64 X.us.c, .int .i64 X.us.d, .bool X.mu.a, .bool X.mu.b, .bool X.mu.c, .bool X.mu.d, .int .i64 251, .int .i64 252, .int .i64 0]) 73)).alloc (.cells (List.toArray [.int .i64 q, .int .i64 X.us.b, .int .i64 X.us.c, .int .i64 X.us.d, .int .i64 X.him.a, .int .i64 X.him.b, .int .i64 X.him.c, .int .i64 X.him.d, .bool X.mu.a, .bool X.mu.b, .bool X.mu.c, .bool X.mu.d, .bool X.mh.a, .bool X.mh.b, .bool X.mh.c, .bool X.mh.d]) 25)).alloc (.cells Z25.toArray 25) = W5
  obtain ⟨_, s1, s2, s3, _⟩ := three_new _ _ _ _ _ _ _ _ hW
  clear hW
  have s1 : SR 25 W5 (w.heap.size + 1) Y.cs := by rw [← HY.out]; exact s1
  obtain ⟨r1, k1⟩ := s1.facts 16 rfl
  obtain ⟨r2, k2⟩ := s2.facts 16 rfl
  have HS := keepd (s2.row Y.cs)
  have HB := keepd (bRow s3 (b := w.heap.size + 1 + 1) (by omega) Y.cs.toArray)
  clear s1 s2 s3 HY
  go_wp2_with fail
  exact bodyPost_ret (v := Y.v) (results_cell_row Tryd.results34 _ _ (w.heap.size + 1 + 1) 25 _ (0, 0) _ rfl HS.out Tryd.underlying25 rfl info25) rfl ⟨rfl, HB.out⟩

theorem moved_f1 (X : O) (q : Int) (w : World) : Calls Tryd.prog 34 #[(sideF X false).x 1, X.v, .int .i64 q] w fun e w' => e = .returned (setO X false 1 q).v ∧ Below w.heap.size w w' := by
  obtain ⟨Y, hY⟩ : ∃ Y, setO X false 1 q = Y := ⟨_, rfl⟩
  rw [hY]
  have HY := keepd hY
  clear hY
  simp only [Sd.x, sideF]
  go_enter Tryd.func34, Tryd.ntmps34
  go_upto_region 5 with fail
  generalize hW : ((w.alloc (.cells (List.toArray [.bool false, .int .i64 X.us.a, .int .i64 q, .int .i64 X.us.c, .int .i64 X.us.d, .bool X.mu.a, .bool X.mu.b, .bool X.mu.c, .bool X.mu.d, .int .i64 251, .int .i64 252, .int .i64 1]) 73)).alloc (.cells (List.toArray [.int .i64 X.us.a, .int .i64 q, .int .i64 X.us.c, .int .i64 X.us.d, .int .i64 X.him.a, .int .i64 X.him.b, .int .i64 X.him.c, .int .i64 X.him.d, .bool X.mu.a, .bool X.mu.b, .bool X.mu.c, .bool X.mu.d, .bool X.mh.a, .bool X.mh.b, .bool X.mh.c, .bool X.mh.d]) 25)).alloc (.cells Z25.toArray 25) = W5
  obtain ⟨_, s1, s2, s3, _⟩ := three_new _ _ _ _ _ _ _ _ hW
  clear hW
  have s1 : SR 25 W5 (w.heap.size + 1) Y.cs := by rw [← HY.out]; exact s1
  obtain ⟨r1, k1⟩ := s1.facts 16 rfl
  obtain ⟨r2, k2⟩ := s2.facts 16 rfl
  have HS := keepd (s2.row Y.cs)
  have HB := keepd (bRow s3 (b := w.heap.size + 1 + 1) (by omega) Y.cs.toArray)
  clear s1 s2 s3 HY
  go_wp2_with fail
  exact bodyPost_ret (v := Y.v) (results_cell_row Tryd.results34 _ _ (w.heap.size + 1 + 1) 25 _ (0, 0) _ rfl HS.out Tryd.underlying25 rfl info25) rfl ⟨rfl, HB.out⟩

theorem moved_f2 (X : O) (q : Int) (w : World) : Calls Tryd.prog 34 #[(sideF X false).x 2, X.v, .int .i64 q] w fun e w' => e = .returned (setO X false 2 q).v ∧ Below w.heap.size w w' := by
  obtain ⟨Y, hY⟩ : ∃ Y, setO X false 2 q = Y := ⟨_, rfl⟩
  rw [hY]
  have HY := keepd hY
  clear hY
  simp only [Sd.x, sideF]
  go_enter Tryd.func34, Tryd.ntmps34
  go_upto_region 5 with fail
  generalize hW : ((w.alloc (.cells (List.toArray [.bool false, .int .i64 X.us.a, .int .i64 X.us.b, .int .i64 q, .int .i64 X.us.d, .bool X.mu.a, .bool X.mu.b, .bool X.mu.c, .bool X.mu.d, .int .i64 251, .int .i64 252, .int .i64 2]) 73)).alloc (.cells (List.toArray [.int .i64 X.us.a, .int .i64 X.us.b, .int .i64 q, .int .i64 X.us.d, .int .i64 X.him.a, .int .i64 X.him.b, .int .i64 X.him.c, .int .i64 X.him.d, .bool X.mu.a, .bool X.mu.b, .bool X.mu.c, .bool X.mu.d, .bool X.mh.a, .bool X.mh.b, .bool X.mh.c, .bool X.mh.d]) 25)).alloc (.cells Z25.toArray 25) = W5
  obtain ⟨_, s1, s2, s3, _⟩ := three_new _ _ _ _ _ _ _ _ hW
  clear hW
  have s1 : SR 25 W5 (w.heap.size + 1) Y.cs := by rw [← HY.out]; exact s1
  obtain ⟨r1, k1⟩ := s1.facts 16 rfl
  obtain ⟨r2, k2⟩ := s2.facts 16 rfl
  have HS := keepd (s2.row Y.cs)
  have HB := keepd (bRow s3 (b := w.heap.size + 1 + 1) (by omega) Y.cs.toArray)
  clear s1 s2 s3 HY
  go_wp2_with fail
  exact bodyPost_ret (v := Y.v) (results_cell_row Tryd.results34 _ _ (w.heap.size + 1 + 1) 25 _ (0, 0) _ rfl HS.out Tryd.underlying25 rfl info25) rfl ⟨rfl, HB.out⟩

theorem moved_f3 (X : O) (q : Int) (w : World) : Calls Tryd.prog 34 #[(sideF X false).x 3, X.v, .int .i64 q] w fun e w' => e = .returned (setO X false 3 q).v ∧ Below w.heap.size w w' := by
  obtain ⟨Y, hY⟩ : ∃ Y, setO X false 3 q = Y := ⟨_, rfl⟩
  rw [hY]
  have HY := keepd hY
  clear hY
  simp only [Sd.x, sideF]
  go_enter Tryd.func34, Tryd.ntmps34
  go_upto_region 5 with fail
  generalize hW : ((w.alloc (.cells (List.toArray [.bool false, .int .i64 X.us.a, .int .i64 X.us.b, .int .i64 X.us.c, .int .i64 q, .bool X.mu.a, .bool X.mu.b, .bool X.mu.c, .bool X.mu.d, .int .i64 251, .int .i64 252, .int .i64 3]) 73)).alloc (.cells (List.toArray [.int .i64 X.us.a, .int .i64 X.us.b, .int .i64 X.us.c, .int .i64 q, .int .i64 X.him.a, .int .i64 X.him.b, .int .i64 X.him.c, .int .i64 X.him.d, .bool X.mu.a, .bool X.mu.b, .bool X.mu.c, .bool X.mu.d, .bool X.mh.a, .bool X.mh.b, .bool X.mh.c, .bool X.mh.d]) 25)).alloc (.cells Z25.toArray 25) = W5
  obtain ⟨_, s1, s2, s3, _⟩ := three_new _ _ _ _ _ _ _ _ hW
  clear hW
  have s1 : SR 25 W5 (w.heap.size + 1) Y.cs := by rw [← HY.out]; exact s1
  obtain ⟨r1, k1⟩ := s1.facts 16 rfl
  obtain ⟨r2, k2⟩ := s2.facts 16 rfl
  have HS := keepd (s2.row Y.cs)
  have HB := keepd (bRow s3 (b := w.heap.size + 1 + 1) (by omega) Y.cs.toArray)
  clear s1 s2 s3 HY
  go_wp2_with fail
  exact bodyPost_ret (v := Y.v) (results_cell_row Tryd.results34 _ _ (w.heap.size + 1 + 1) 25 _ (0, 0) _ rfl HS.out Tryd.underlying25 rfl info25) rfl ⟨rfl, HB.out⟩

theorem moved_t0 (X : O) (q : Int) (w : World) : Calls Tryd.prog 34 #[(sideF X true).x 0, X.v, .int .i64 q] w fun e w' => e = .returned (setO X true 0 q).v ∧ Below w.heap.size w w' := by
  obtain ⟨Y, hY⟩ : ∃ Y, setO X true 0 q = Y := ⟨_, rfl⟩
  rw [hY]
  have HY := keepd hY
  clear hY
  simp only [Sd.x, sideF]
  go_enter Tryd.func34, Tryd.ntmps34
  go_upto_region 5 with fail
  generalize hW : ((w.alloc (.cells (List.toArray [.bool true, .int .i64 q, .int .i64 X.him.b, .int .i64 X.him.c, .int .i64 X.him.d, .bool X.mh.a, .bool X.mh.b, .bool X.mh.c, .bool X.mh.d, .int .i64 253, .int .i64 254, .int .i64 0]) 73)).alloc (.cells (List.toArray [.int .i64 X.us.a, .int .i64 X.us.b, .int .i64 X.us.c, .int .i64 X.us.d, .int .i64 q, .int .i64 X.him.b, .int .i64 X.him.c, .int .i64 X.him.d, .bool X.mu.a, .bool X.mu.b, .bool X.mu.c, .bool X.mu.d, .bool X.mh.a, .bool X.mh.b, .bool X.mh.c, .bool X.mh.d]) 25)).alloc (.cells Z25.toArray 25) = W5
  obtain ⟨_, s1, s2, s3, _⟩ := three_new _ _ _ _ _ _ _ _ hW
  clear hW
  have s1 : SR 25 W5 (w.heap.size + 1) Y.cs := by rw [← HY.out]; exact s1
  obtain ⟨r1, k1⟩ := s1.facts 16 rfl
  obtain ⟨r2, k2⟩ := s2.facts 16 rfl
  have HS := keepd (s2.row Y.cs)
  have HB := keepd (bRow s3 (b := w.heap.size + 1 + 1) (by omega) Y.cs.toArray)
  clear s1 s2 s3 HY
  go_wp2_with fail
  exact bodyPost_ret (v := Y.v) (results_cell_row Tryd.results34 _ _ (w.heap.size + 1 + 1) 25 _ (0, 0) _ rfl HS.out Tryd.underlying25 rfl info25) rfl ⟨rfl, HB.out⟩

theorem moved_t1 (X : O) (q : Int) (w : World) : Calls Tryd.prog 34 #[(sideF X true).x 1, X.v, .int .i64 q] w fun e w' => e = .returned (setO X true 1 q).v ∧ Below w.heap.size w w' := by
  obtain ⟨Y, hY⟩ : ∃ Y, setO X true 1 q = Y := ⟨_, rfl⟩
  rw [hY]
  have HY := keepd hY
  clear hY
  simp only [Sd.x, sideF]
  go_enter Tryd.func34, Tryd.ntmps34
  go_upto_region 5 with fail
  generalize hW : ((w.alloc (.cells (List.toArray [.bool true, .int .i64 X.him.a, .int .i64 q, .int .i64 X.him.c, .int .i64 X.him.d, .bool X.mh.a, .bool X.mh.b, .bool X.mh.c, .bool X.mh.d, .int .i64 253, .int .i64 254, .int .i64 1]) 73)).alloc (.cells (List.toArray [.int .i64 X.us.a, .int .i64 X.us.b, .int .i64 X.us.c, .int .i64 X.us.d, .int .i64 X.him.a, .int .i64 q, .int .i64 X.him.c, .int .i64 X.him.d, .bool X.mu.a, .bool X.mu.b, .bool X.mu.c, .bool X.mu.d, .bool X.mh.a, .bool X.mh.b, .bool X.mh.c, .bool X.mh.d]) 25)).alloc (.cells Z25.toArray 25) = W5
  obtain ⟨_, s1, s2, s3, _⟩ := three_new _ _ _ _ _ _ _ _ hW
  clear hW
  have s1 : SR 25 W5 (w.heap.size + 1) Y.cs := by rw [← HY.out]; exact s1
  obtain ⟨r1, k1⟩ := s1.facts 16 rfl
  obtain ⟨r2, k2⟩ := s2.facts 16 rfl
  have HS := keepd (s2.row Y.cs)
  have HB := keepd (bRow s3 (b := w.heap.size + 1 + 1) (by omega) Y.cs.toArray)
  clear s1 s2 s3 HY
  go_wp2_with fail
  exact bodyPost_ret (v := Y.v) (results_cell_row Tryd.results34 _ _ (w.heap.size + 1 + 1) 25 _ (0, 0) _ rfl HS.out Tryd.underlying25 rfl info25) rfl ⟨rfl, HB.out⟩

theorem moved_t2 (X : O) (q : Int) (w : World) : Calls Tryd.prog 34 #[(sideF X true).x 2, X.v, .int .i64 q] w fun e w' => e = .returned (setO X true 2 q).v ∧ Below w.heap.size w w' := by
  obtain ⟨Y, hY⟩ : ∃ Y, setO X true 2 q = Y := ⟨_, rfl⟩
  rw [hY]
  have HY := keepd hY
  clear hY
  simp only [Sd.x, sideF]
  go_enter Tryd.func34, Tryd.ntmps34
  go_upto_region 5 with fail
  generalize hW : ((w.alloc (.cells (List.toArray [.bool true, .int .i64 X.him.a, .int .i64 X.him.b, .int .i64 q, .int .i64 X.him.d, .bool X.mh.a, .bool X.mh.b, .bool X.mh.c, .bool X.mh.d, .int .i64 253, .int .i64 254, .int .i64 2]) 73)).alloc (.cells (List.toArray [.int .i64 X.us.a, .int .i64 X.us.b, .int .i64 X.us.c, .int .i64 X.us.d, .int .i64 X.him.a, .int .i64 X.him.b, .int .i64 q, .int .i64 X.him.d, .bool X.mu.a, .bool X.mu.b, .bool X.mu.c, .bool X.mu.d, .bool X.mh.a, .bool X.mh.b, .bool X.mh.c, .bool X.mh.d]) 25)).alloc (.cells Z25.toArray 25) = W5
  obtain ⟨_, s1, s2, s3, _⟩ := three_new _ _ _ _ _ _ _ _ hW
  clear hW
  have s1 : SR 25 W5 (w.heap.size + 1) Y.cs := by rw [← HY.out]; exact s1
  obtain ⟨r1, k1⟩ := s1.facts 16 rfl
  obtain ⟨r2, k2⟩ := s2.facts 16 rfl
  have HS := keepd (s2.row Y.cs)
  have HB := keepd (bRow s3 (b := w.heap.size + 1 + 1) (by omega) Y.cs.toArray)
  clear s1 s2 s3 HY
  go_wp2_with fail
  exact bodyPost_ret (v := Y.v) (results_cell_row Tryd.results34 _ _ (w.heap.size + 1 + 1) 25 _ (0, 0) _ rfl HS.out Tryd.underlying25 rfl info25) rfl ⟨rfl, HB.out⟩

theorem moved_t3 (X : O) (q : Int) (w : World) : Calls Tryd.prog 34 #[(sideF X true).x 3, X.v, .int .i64 q] w fun e w' => e = .returned (setO X true 3 q).v ∧ Below w.heap.size w w' := by
  obtain ⟨Y, hY⟩ : ∃ Y, setO X true 3 q = Y := ⟨_, rfl⟩
  rw [hY]
  have HY := keepd hY
  clear hY
  simp only [Sd.x, sideF]
  go_enter Tryd.func34, Tryd.ntmps34
  go_upto_region 5 with fail
  generalize hW : ((w.alloc (.cells (List.toArray [.bool true, .int .i64 X.him.a, .int .i64 X.him.b, .int .i64 X.him.c, .int .i64 q, .bool X.mh.a, .bool X.mh.b, .bool X.mh.c, .bool X.mh.d, .int .i64 253, .int .i64 254, .int .i64 3]) 73)).alloc (.cells (List.toArray [.int .i64 X.us.a, .int .i64 X.us.b, .int .i64 X.us.c, .int .i64 X.us.d, .int .i64 X.him.a, .int .i64 X.him.b, .int .i64 X.him.c, .int .i64 q, .bool X.mu.a, .bool X.mu.b, .bool X.mu.c, .bool X.mu.d, .bool X.mh.a, .bool X.mh.b, .bool X.mh.c, .bool X.mh.d]) 25)).alloc (.cells Z25.toArray 25) = W5
  obtain ⟨_, s1, s2, s3, _⟩ := three_new _ _ _ _ _ _ _ _ hW
  clear hW
  have s1 : SR 25 W5 (w.heap.size + 1) Y.cs := by rw [← HY.out]; exact s1
  obtain ⟨r1, k1⟩ := s1.facts 16 rfl
  obtain ⟨r2, k2⟩ := s2.facts 16 rfl
  have HS := keepd (s2.row Y.cs)
  have HB := keepd (bRow s3 (b := w.heap.size + 1 + 1) (by omega) Y.cs.toArray)
  clear s1 s2 s3 HY
  go_wp2_with fail
  exact bodyPost_ret (v := Y.v) (results_cell_row Tryd.results34 _ _ (w.heap.size + 1 + 1) 25 _ (0, 0) _ rfl HS.out Tryd.underlying25 rfl info25) rfl ⟨rfl, HB.out⟩

theorem moved_any (X : O) (h : Bool) (p : Int) (hp : P4 p) (q : Int) (w : World) : Calls Tryd.prog 34 #[(sideF X h).x p, X.v, .int .i64 q] w fun e w' => e = .returned (setO X h p q).v ∧ Below w.heap.size w w' := by
  cases h
  · rcases hp with rfl | rfl | rfl | rfl
    · exact moved_f0 X q w
    · exact moved_f1 X q w
    · exact moved_f2 X q w
    · exact moved_f3 X q w
  · rcases hp with rfl | rfl | rfl | rfl
    · exact moved_t0 X q w
    · exact moved_t1 X q w
    · exact moved_t2 X q w
    · exact moved_t3 X q w

end Go.Proofs.YtlgcfpdmklieiaaDoor
