/-
  A contract over layer 1: Take answers as the document says, in new memory.
-/
import Derived.Test.YtifimgachkecpaaT3
import Derived.Deep.RegionHeld3
import Derived.Deep.RegionWith
import Derived.Deep.DeepCutAuto
namespace Go.Proofs.Ytifimgachkecpaa
open Go.RowKit

/-- Take has answered nothing: a queue in new memory, no octets, an error. -/
def GotNone (w : World) (room : Int) (l : List UInt8) (e : Ending) (w' : World) : Prop :=
  ∃ g, e = .returned (.tuple #[qv room g l, .slice none 0 0, .int .i64 1]) ∧ w.heap.size ≤ g ∧ Bk w' g l ∧ Below w.heap.size w w'

/-- Take has answered: a queue and octets, both in new memory, apart. -/
def GotTake (w : World) (room : Int) (l out : List UInt8) (e : Ending) (w' : World) : Prop :=
  ∃ g g', e = .returned (.tuple #[qv room g l, .slice (some ⟨g', 0, none⟩) out.length out.length, .int .i64 0]) ∧ w.heap.size ≤ g ∧ w.heap.size ≤ g' ∧ g ≠ g' ∧ Bk w' g l ∧ Bk w' g' out ∧ Below w.heap.size w w'

set_option maxHeartbeats 400000 in
theorem take_no (cap n : Int) (A : Option Addr) (l : List UInt8) (c : Nat) (w : World) (h : ¬ May cap l.length) (hr : Rd w w.heap.size A l c) (hl : l.length ≤ 100000) :
    Calls Try.prog 17 #[.agg #[.int .i64 cap, .slice A l.length c], .int .i64 n] w (GotNone w cap l) := by
  have HM := keepd h
  have HR := keepd hr
  clear h hr
  go_enter Try.func17, Try.ntmps17
  go_wp2_with fail
  with_reducible refine (check_no cap A l.length c _ HM.out).mono ?_
  rintro e w1 ⟨rfl, hb⟩
  obtain ⟨hc, hf⟩ := old hb
  have hz : w.heap.size + 2 ≤ w1.heap.size := by have := hb.size; simp at this; omega
  simp only [World.size_alloc] at hc hf
  go_wp2_with fail
  with_reducible refine (hold1 cap A l _ c _ rfl ((HR.out.alloc (Nat.le_refl _) (Nat.le_succ _) _).alloc (by simp) (Nat.le_succ _) _ |>.below (by simpa using hb) (by simpa using hz)) (by omega)).mono ?_
  rintro e w2 ⟨g, rfl, hg, hbk, hb2⟩
  obtain ⟨hc2, hf2⟩ := old hb2
  have HB := keepd hbk
  clear hbk
  have z1 : w.heap.size < w1.heap.size := by omega
  have z2 : w.heap.size + 1 < w1.heap.size := by omega
  unfold qv
  go_wp2
  refine bodyPost_ret (v := .tuple #[qv cap g l, .slice none 0 0, .int .i64 1]) (by simp [results, Try.results17, go_sem, qv, hc, hc2, z2]) rfl ⟨_, rfl, by omega, ?_, ?_⟩
  · exact (HB.out.setCell (by simp; omega) _).setCell (by simp; omega) _
  · simp only [World.size_alloc] at hb
    exact ((((((Below.refl _ _).alloc (Nat.le_refl _) _).alloc (by simp) _).trans (hb.mono (by omega))).trans (hb2.mono (by omega))).setCell (by simp) _).setCell (by simp) _

/-- What a region of Take reads, in every world that has w1's old memory. -/
theorem sOf {w1 W : World} {a : Nat} {u0 u1 : Value} (k0 : w1.cell? ⟨a, 0, none⟩ = some u0) (k1 : w1.cell? ⟨a, 1, none⟩ = some u1) (h : Below (a + 1) w1 W) :
    W.cell? ⟨a, 0, none⟩ = some u0 ∧ W.cell? ⟨a, 1, none⟩ = some u1 ∧ Below (a + 1) w1 W :=
  ⟨(h.cell (p := ⟨a, 0, none⟩) (Nat.lt_succ_self _)).trans k0, (h.cell (p := ⟨a, 1, none⟩) (Nat.lt_succ_self _)).trans k1, h⟩
theorem bAl {B : Nat} {a w : World} (hB : B ≤ a.heap.size) (h : Below B a w) (o : Obj) : Below B a (w.alloc o) := h.alloc (Nat.le_trans hB h.size) o
theorem upA {w1 w2 : World} {o : Obj} (hb : Below (w1.alloc o).heap.size (w1.alloc o) w2) : Below w1.heap.size w1 w2 :=
  ((Below.refl _ _).alloc (Nat.le_refl _) _).trans (hb.mono (by simp))

theorem n1 (w : World) (o : Obj) : (w.alloc o).drew.heap[w.heap.size]? = some o := heap_alloc_new w o
theorem n2 (w : World) (o o' : Obj) : ((w.alloc o).alloc o').drew.heap[w.heap.size]? = some o := row_alloc (heap_alloc_new w o)
theorem n3 (w : World) (o o' : Obj) : ((w.alloc o).alloc o').drew.heap[w.heap.size + 1]? = some o' := by
  have := heap_alloc_new (w.alloc o) o'
  rw [World.size_alloc] at this
  exact this
theorem Rd.at_ {w1 W : World} {A : Option Addr} {l : List UInt8} {c : Nat} (h : Rd w1 w1.heap.size A l c) (hb : Below w1.heap.size w1 W) : Rd W W.heap.size A l c := h.below hb hb.size

theorem int_eq {a b : Int} (h : a = b) : Value.int .i64 a = .int .i64 b := by rw [h]

theorem slice_from (A : Option Addr) (n c k : Nat) (hk : k ≤ n) (W : World) :
    (Instr.sliceAt 22 (.slice A n c) (some (.int .i64 k)) none none).run Try.prog W = .ok (.slice (if c = k then A else A.map (·.add k)) (n - k) (c - k)) W := by
  have hs : ∀ W : World, (sizeOf (Try.prog.elem 22)).run Try.prog W = .ok 1 W := fun W => by kernel_rfl
  rw [run_sliceAt_slice _ _ _ _ _ _ (by kernel_rfl), run_slice_l _ _ _ _ _ (by kernel_rfl) _ _ (by omega) (by omega), hs]
  simp [sliced, Result.andThen]

set_option maxHeartbeats 400000 in
theorem take_yes (cap n : Int) (A : Option Addr) (l : List UInt8) (c k : Nat) (w : World) (hk : (k : Int) = max 0 (min n l.length)) (h : May cap l.length) (hr : Rd w w.heap.size A l c) :
    Calls Try.prog 17 #[.agg #[.int .i64 cap, .slice A l.length c], .int .i64 n] w (GotTake w cap (l.drop k) (l.take k)) := by
  have HM := keepd h
  have HR := keepd hr
  have HK := keepd hk
  obtain ⟨h1, h2, h3⟩ := h
  obtain ⟨hcl, hcm⟩ := hr.len
  unfold maxLen at hcm
  have hk1 : k ≤ l.length := by omega
  have hk2 : k ≤ c := by omega
  clear hr hk
  go_enter Try.func17, Try.ntmps17
  go_wp2_with fail
  with_reducible refine (check_yes cap A l.length c _ HM.out).mono ?_
  rintro e w1 ⟨rfl, hb⟩
  obtain ⟨hc, hf⟩ := old hb
  have hz : w.heap.size + 2 ≤ w1.heap.size := by have := hb.size; simp at this; omega
  simp only [World.size_alloc] at hc hf hb
  have z1 : w.heap.size < w1.heap.size := by omega
  have z2 : w.heap.size + 1 < w1.heap.size := by omega
  have hrd := ((HR.out.alloc (Nat.le_refl _) (Nat.le_succ _) (.cells #[.int .i64 cap, .slice A l.length c] 24)).alloc (by simp) (Nat.le_succ _) (.cells #[.int .i64 0, .slice none 0 0] 24)).below hb hz
  have HRD := keepd hrd
  clear hrd
  go_upto_region 4 with fail
  go_cut [1] (fun s wx => s = .int .i64 k ∧ w1 = wx)
  case first =>
    have HC := HK
    by_cases q1 : n ≤ 0
    · have q2 : k = 0 := by have := HC.out; omega
      subst q2
      have q3 : ¬ (l.length : Int) < n := by omega
      go_wp2_with fail
      all_goals go_meet
      all_goals exact ⟨rfl, rfl⟩
    · by_cases q2 : n < l.length
      · have q3 : k = n := by have := HC.out; omega
        go_wp2_with fail
        all_goals go_meet
        all_goals exact ⟨int_eq (by omega), rfl⟩
      · have q3 : k = l.length := by have := HC.out; omega
        go_wp2_with fail
        all_goals go_meet
        all_goals exact ⟨int_eq (by omega), rfl⟩
  case rest =>
    obtain ⟨rfl, rfl⟩ := hcut
    obtain ⟨A2, hA2⟩ : ∃ A2, A2 = (if c = k then A else A.map (·.add k)) := ⟨_, rfl⟩
    have hsl := slice_from A l.length c k hk1
    have hd := HRD.out.drop k hk1
    rw [← hA2] at hsl hd
    have HD := keepd hd
    clear hd hA2
    go_wp2_with fail
    have k0 := (hc w.heap.size 0 (by omega)).trans (by simp : _ = some (.int .i64 cap))
    have k1 := (hc w.heap.size 1 (by omega)).trans (by simp : _ = some (.slice A l.length c))
    have k2 := (hc (w.heap.size + 1) 0 (by omega)).trans (by simp : _ = some (.int .i64 0))
    have k3 := (hc (w.heap.size + 1) 1 (by omega)).trans (by simp : _ = some (.slice none 0 0))
    have k4 := (hf (w.heap.size + 1) 0 (by omega)).trans (by simp : _ = false)
    have k5 := (hf (w.heap.size + 1) 1 (by omega)).trans (by simp : _ = false)
    clear hc hf
    have K0 := keepd k0
    have K1 := keepd k1
    have K2 := keepd k2
    have K3 := keepd k3
    have K4 := keepd k4
    have K5 := keepd k5
    have hll : l.length ≤ 500000 := by omega
    clear k2 k3 k4 k5
    go_region_held3 (fun W => W.cell? ⟨w.heap.size, 0, none⟩ = some (.int .i64 cap) ∧ W.cell? ⟨w.heap.size, 1, none⟩ = some (.slice A l.length c) ∧ Below (w.heap.size + 1) w1 W)
      ((refine sOf K0.out K1.out ?_; repeat (first | assumption | exact Below.refl _ _ | with_reducible refine Below.setCell ?_ (Nat.le_refl (w.heap.size + 1)) _ | with_reducible refine bAl z1 ?_ _ | with_reducible refine Below.drew ?_)))
      (first | (go_at_call 23; refine (hold1w cap A2 (l.drop k) (l.length - k) (c - k) _ _ ?_ ?_ ?_ ?_).mono ?_; (exact List.length_drop.symm); (first | exact n1 w1 _ | exact n2 w1 _ _ | exact n3 w1 _ _); (refine HD.out.at_ ?_; repeat (first | assumption | exact Below.refl _ _ | with_reducible refine bAlloc ?_ _ | with_reducible refine Below.drew ?_)); (rw [List.length_drop]; omega); rintro e w2 ⟨g, rfl, hg, hbk, hb2⟩; have HB := keepd hbk; clear hbk; have hbb : Below w1.heap.size w1 w2 := (by refine bCall ?_ hb2; repeat (first | assumption | exact Below.refl _ _ | with_reducible refine bAlloc ?_ _ | with_reducible refine Below.drew ?_)); have hbs := hbb.mono z1; unfold qv) | (go_at_call 24; refine (join1w A (l.take k) k c _ _ ?_ ?_ ?_ ?_).mono ?_; (rw [List.length_take]; omega); (first | exact heap_alloc_new w2 _ | (refine (hb2.block _ ?_).trans (n3 _ _ _); (simp <;> omega)) | (refine (hb2.block _ ?_).trans (n2 _ _ _); (simp <;> omega))); (refine (HRD.out.take k).at_ ?_; repeat (first | assumption | exact Below.refl _ _ | with_reducible refine bAlloc ?_ _ | with_reducible refine Below.drew ?_)); (rw [List.length_take]; omega); rintro e w3 ⟨g', rfl, hg', hbk', hb3⟩; have HB' := keepd hbk'; clear hbk'; have hb4 : Below w2.heap.size w2 w3 := (by first | exact upA hb3 | exact hb3); have hbb3 := bCall hbb hb4; have hbs3 := hbb3.mono z1; have c0 := (hbb3.cell (p := ⟨w.heap.size + 1, 0, none⟩) z2).trans K2.out; have c1 := (hbb3.cell (p := ⟨w.heap.size + 1, 1, none⟩) z2).trans K3.out; have f0 := (hbb3.frozen (p := ⟨w.heap.size + 1, 0, none⟩) z2).trans K4.out; have f1 := (hbb3.frozen (p := ⟨w.heap.size + 1, 1, none⟩) z2).trans K5.out))
    all_goals
      have zg : w1.heap.size ≤ g := by have := hbb.size; have := hg; simp at this; omega
      have zg' : w2.heap.size ≤ g' := by have := hg'; (try simp at this); omega
      have zl := HB.out.lt
      go_wp2
      refine bodyPost_ret (v := .tuple #[qv cap g (l.drop k), .slice (some ⟨g', 0, none⟩) (l.take k).length (l.take k).length, .int .i64 0]) (by simp [results, Try.results17, go_sem, qv, c0, c1, hk1]) rfl ⟨g, g', rfl, by omega, ?_, by omega, ?_, ?_, ?_⟩
      · have := hbb.size; omega
      · exact ((HB.out.below hb4 zl).setCell (by simp; omega) _).setCell (by simp; omega) _
      · exact (HB'.out.setCell (by have := hbb.size; simp; omega) _).setCell (by have := hbb.size; simp; omega) _
      · exact (((((Below.refl _ _).alloc (Nat.le_refl _) _).alloc (by simp) _).trans (hb.mono (by omega))).trans (hbb3.mono (by omega))).setCell (by simp) _ |>.setCell (by simp) _
end Go.Proofs.Ytifimgachkecpaa
