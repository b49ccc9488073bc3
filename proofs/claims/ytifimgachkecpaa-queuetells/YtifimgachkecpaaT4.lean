/-
  A contract over layer 1: Put answers as the document says, in new memory.
-/
import Derived.Test.YtifimgachkecpaaT3
import Derived.Deep.RegionHeld3
import Derived.Deep.RegionWith
namespace Go.Proofs.Ytifimgachkecpaa
open Go.RowKit

/-- Put has answered: a queue in new memory, a number, an error. -/
def GotPut (w : World) (room : Int) (l : List UInt8) (n err : Int) (e : Ending) (w' : World) : Prop :=
  ∃ g, e = .returned (.tuple #[qv room g l, .int .i64 n, .int .i64 err]) ∧ w.heap.size ≤ g ∧ Bk w' g l ∧ Below w.heap.size w w'

set_option maxHeartbeats 400000 in
theorem put_no (cap : Int) (A A' : Option Addr) (l : List UInt8) (n' c c' : Nat) (w : World) (h : ¬ May cap l.length) (hr : Rd w w.heap.size A l c) (hl : l.length ≤ 100000) :
    Calls Try.prog 16 #[.agg #[.int .i64 cap, .slice A l.length c], .slice A' n' c'] w (GotPut w cap l 0 1) := by
  have HM := keepd h
  have HR := keepd hr
  clear h hr
  go_enter Try.func16, Try.ntmps16
  go_wp2_with fail
  with_reducible refine (check_no cap A l.length c _ HM.out).mono ?_
  rintro e w1 ⟨rfl, hb⟩
  obtain ⟨hc, hf⟩ := old hb
  have hz : w.heap.size + 2 ≤ w1.heap.size := by have := hb.size; simp at this; omega
  simp only [World.size_alloc] at hc hf
  go_wp2_with fail
  with_reducible refine (hold1 cap A l _ c _ rfl ((HR.out.alloc (Nat.le_refl _) (Nat.le_succ _) _).alloc (by simp) (Nat.le_succ _) _ |>.below (by simpa using hb) (by simpa using hz)) (by omega)).mono ?_
  rintro e w2 ⟨g, rfl, hg, hbk, hb2⟩
  obtain ⟨hc2, hf2⟩ := old hb2
  have HB := keepd hbk
  clear hbk
  have z1 : w.heap.size < w1.heap.size := by omega
  have z2 : w.heap.size + 1 < w1.heap.size := by omega
  unfold qv
  go_wp2
  refine bodyPost_ret (v := .tuple #[qv cap g l, .int .i64 0, .int .i64 1]) (by simp [results, Try.results16, go_sem, qv, hc, hc2, z2]) rfl ⟨_, rfl, by omega, ?_, ?_⟩
  · exact (HB.out.setCell (by simp; omega) _).setCell (by simp; omega) _
  · simp only [World.size_alloc] at hb
    exact ((((((Below.refl _ _).alloc (Nat.le_refl _) _).alloc (by simp) _).trans (hb.mono (by omega))).trans (hb2.mono (by omega))).setCell (by simp) _).setCell (by simp) _

set_option maxHeartbeats 400000 in
theorem put_yes (cap : Int) (A A' : Option Addr) (l l' : List UInt8) (c c' : Nat) (w : World) (h : May cap l.length) (hr : Rd w w.heap.size A l c) (hr' : Rd w w.heap.size A' l' c') (hl' : l'.length ≤ 100000) :
    Calls Try.prog 16 #[.agg #[.int .i64 cap, .slice A l.length c], .slice A' l'.length c'] w
      (GotPut w cap (l ++ l'.take (min l'.length (cap.toNat - l.length))) ((min l'.length (cap.toNat - l.length) : Nat) : Int) 0) := by
  have HM := keepd h
  have HR := keepd hr
  have HR' := keepd hr'
  obtain ⟨h1, h2, h3⟩ := h
  obtain ⟨hcl, hcm⟩ := hr'.len
  unfold maxLen at hcm
  clear hr hr'
  generalize hm : min l'.length (cap.toNat - l.length) = m
  have HE := keepd hm
  have hm1 : m ≤ l'.length := by omega
  have hm2 : m ≤ c' := by omega
  clear hm
  by_cases hq : (l'.length : Int) ≤ cap - l.length
  · go_enter Try.func16, Try.ntmps16
    go_wp2_with fail
    with_reducible refine (check_yes cap A l.length c _ HM.out).mono ?_
    rintro e w1 ⟨rfl, hb⟩
    obtain ⟨hc, hf⟩ := old hb
    have hz : w.heap.size + 2 ≤ w1.heap.size := by have := hb.size; simp at this; omega
    simp only [World.size_alloc] at hc hf hb
    have z1 : w.heap.size < w1.heap.size := by omega
    have z2 : w.heap.size + 1 < w1.heap.size := by omega
    have hrd := ((HR.out.alloc (Nat.le_refl _) (Nat.le_succ _) (.cells #[.int .i64 cap, .slice A l.length c] 24)).alloc (by simp) (Nat.le_succ _) (.cells #[.int .i64 0, .slice none 0 0] 24)).below hb hz
    have HRD := keepd hrd
    have hrd' := (((HR'.out.take m).alloc (Nat.le_refl _) (Nat.le_succ _) (.cells #[.int .i64 cap, .slice A l.length c] 24)).alloc (by simp) (Nat.le_succ _) (.cells #[.int .i64 0, .slice none 0 0] 24)).below hb hz
    have HRD' := keepd hrd'
    clear hrd hrd'
    go_wp2_with fail
    have HN : Hid (l'.length = (l'.take m).length) := by show _ = _; have := HE.out; rw [List.length_take]; omega
    go_region_with ((go_at_call 23; refine (hold2w cap A A' l (l'.take m) _ _ c c' _ _ rfl HN.out (by exact heap_alloc_new w1 _) (by exact (HRD.out.alloc (Nat.le_refl _) (by simp) _).drew) (by exact (HRD'.out.alloc (Nat.le_refl _) (by simp) _).drew) (by omega) (by rw [List.length_take]; omega)).mono ?_; rintro e w2 ⟨g, rfl, hg, hbk, hb2⟩; have hb3 := upD hb2; clear hb2; obtain ⟨hc2, hf2⟩ := old hb3; have HB := keepd hbk; clear hbk; unfold qv))
    all_goals
      go_wp2
      refine bodyPost_ret (v := .tuple #[qv cap g (l ++ l'.take m), .int .i64 m, .int .i64 0]) (by have := HN.out; rw [List.length_take] at this; simp [results, Try.results16, go_sem, qv, hc, hc2, z2, hm1]; omega) rfl ⟨_, rfl, ?_, ?_, ?_⟩
      · simp at hg; omega
      · exact (HB.out.setCell (by simp at hg; simp; omega) _).setCell (by simp at hg; simp; omega) _
      · exact ((((((Below.refl _ _).alloc (Nat.le_refl _) _).alloc (by simp) _).trans (hb.mono (by omega))).trans (hb3.mono (by omega))).setCell (by simp) _).setCell (by simp) _
  · go_enter Try.func16, Try.ntmps16
    go_wp2_with fail
    with_reducible refine (check_yes cap A l.length c _ HM.out).mono ?_
    rintro e w1 ⟨rfl, hb⟩
    obtain ⟨hc, hf⟩ := old hb
    have hz : w.heap.size + 2 ≤ w1.heap.size := by have := hb.size; simp at this; omega
    simp only [World.size_alloc] at hc hf hb
    have z1 : w.heap.size < w1.heap.size := by omega
    have z2 : w.heap.size + 1 < w1.heap.size := by omega
    have hrd := ((HR.out.alloc (Nat.le_refl _) (Nat.le_succ _) (.cells #[.int .i64 cap, .slice A l.length c] 24)).alloc (by simp) (Nat.le_succ _) (.cells #[.int .i64 0, .slice none 0 0] 24)).below hb hz
    have HRD := keepd hrd
    have hrd' := (((HR'.out.take m).alloc (Nat.le_refl _) (Nat.le_succ _) (.cells #[.int .i64 cap, .slice A l.length c] 24)).alloc (by simp) (Nat.le_succ _) (.cells #[.int .i64 0, .slice none 0 0] 24)).below hb hz
    have HRD' := keepd hrd'
    clear hrd hrd'
    go_wp2_with fail
    have hx : cap - (l.length : Int) = (m : Int) := by have := HE.out; omega
    have HN : Hid (m = (l'.take m).length) := by show _ = _; rw [List.length_take]; omega
    rw [hx]
    go_region_with ((go_at_call 23; refine (hold2w cap A A' l (l'.take m) _ _ c c' _ _ rfl HN.out (by exact heap_alloc_new w1 _) (by exact (HRD.out.alloc (Nat.le_refl _) (by simp) _).drew) (by exact (HRD'.out.alloc (Nat.le_refl _) (by simp) _).drew) (by omega) (by rw [List.length_take]; omega)).mono ?_; rintro e w2 ⟨g, rfl, hg, hbk, hb2⟩; have hb3 := upD hb2; clear hb2; obtain ⟨hc2, hf2⟩ := old hb3; have HB := keepd hbk; clear hbk; unfold qv))
    all_goals
      go_wp2
      refine bodyPost_ret (v := .tuple #[qv cap g (l ++ l'.take m), .int .i64 m, .int .i64 0]) (by have := HN.out; rw [List.length_take] at this; simp [results, Try.results16, go_sem, qv, hc, hc2, z2, hm1]) rfl ⟨_, rfl, ?_, ?_, ?_⟩
      · simp at hg; omega
      · exact (HB.out.setCell (by simp at hg; simp; omega) _).setCell (by simp at hg; simp; omega) _
      · exact ((((((Below.refl _ _).alloc (Nat.le_refl _) _).alloc (by simp) _).trans (hb.mono (by omega))).trans (hb3.mono (by omega))).setCell (by simp) _).setCell (by simp) _
end Go.Proofs.Ytifimgachkecpaa
