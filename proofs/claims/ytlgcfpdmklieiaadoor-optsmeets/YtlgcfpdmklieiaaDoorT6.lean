/-
  The document's May, Wanted, Got and Ask.
-/
import Derived.Test.YtlgcfpdmklieiaaDoorT5
namespace Go.Proofs.YtlgcfpdmklieiaaDoor
open Go.RowKit

theorem may_in (q : Int) (w : World) (h0 : 0 ≤ q) (h5 : q ≤ 5) : Calls Tryd.prog 26 #[.int .i64 q] w fun e w' => e = .returned (.bool true) ∧ w' = w := by
  have g0 : decide (0 ≤ q) = true := by simp; omega
  have g1 : decide (q ≤ 5) = true := by simp; omega
  go_enter Tryd.func26, Tryd.ntmps26
  go_wp2
  go_ret
  exact ⟨rfl, rfl⟩

theorem may_out (q : Int) (w : World) (h : q < 0 ∨ 5 < q) : Calls Tryd.prog 26 #[.int .i64 q] w fun e w' => e = .returned (.bool false) ∧ w' = w := by
  by_cases g : q < 0
  · have g0 : decide (0 ≤ q) = false := by simp; omega
    go_enter Tryd.func26, Tryd.ntmps26
    go_wp2
    go_ret
    exact ⟨rfl, rfl⟩
  · have g0 : decide (0 ≤ q) = true := by simp; omega
    have g1 : decide (q ≤ 5) = false := by simp; omega
    clear h
    go_enter Tryd.func26, Tryd.ntmps26
    go_wp2
    go_ret
    exact ⟨rfl, rfl⟩

theorem rwanted0 (w : World) : Calls Tryd.prog 47 #[.int .i64 0] w fun e w' => e = .returned (.bool false) ∧ w' = w := by
  go_enter Tryd.func47, Tryd.ntmps47
  go_wp2
  go_ret
  exact ⟨rfl, rfl⟩

theorem rwanted1 (w : World) : Calls Tryd.prog 47 #[.int .i64 1] w fun e w' => e = .returned (.bool true) ∧ w' = w := by
  go_enter Tryd.func47, Tryd.ntmps47
  go_wp2
  go_ret
  exact ⟨rfl, rfl⟩

theorem rwanted2 (w : World) : Calls Tryd.prog 47 #[.int .i64 2] w fun e w' => e = .returned (.bool false) ∧ w' = w := by
  go_enter Tryd.func47, Tryd.ntmps47
  go_wp2
  go_ret
  exact ⟨rfl, rfl⟩

theorem rwanted3 (w : World) : Calls Tryd.prog 47 #[.int .i64 3] w fun e w' => e = .returned (.bool true) ∧ w' = w := by
  go_enter Tryd.func47, Tryd.ntmps47
  go_wp2
  go_ret
  exact ⟨rfl, rfl⟩

theorem rwanted4 (w : World) : Calls Tryd.prog 47 #[.int .i64 4] w fun e w' => e = .returned (.bool true) ∧ w' = w := by
  go_enter Tryd.func47, Tryd.ntmps47
  go_wp2
  go_ret
  exact ⟨rfl, rfl⟩

theorem rwanted5 (w : World) : Calls Tryd.prog 47 #[.int .i64 5] w fun e w' => e = .returned (.bool false) ∧ w' = w := by
  go_enter Tryd.func47, Tryd.ntmps47
  go_wp2
  go_ret
  exact ⟨rfl, rfl⟩

theorem rwanted_out (q : Int) (w : World) (h : q < 0 ∨ 5 < q) : Calls Tryd.prog 47 #[.int .i64 q] w fun e w' => e = .returned (.bool false) ∧ w' = w := by
  have g0 : (q == 1) = false := by simp; omega
  have g1 : (q == 3) = false := by simp; omega
  have g2 : (q == 4) = false := by simp; omega
  clear h
  go_enter Tryd.func47, Tryd.ntmps47
  go_wp2
  go_ret
  exact ⟨rfl, rfl⟩

theorem rwanted_any (q : Int) (w : World) : Calls Tryd.prog 47 #[.int .i64 q] w fun e w' => e = .returned (.bool (wF q)) ∧ w' = w := by
  by_cases h : 0 ≤ q ∧ q ≤ 5
  · rcases six h.1 h.2 with rfl | rfl | rfl | rfl | rfl | rfl
    · exact rwanted0 w
    · exact rwanted1 w
    · exact rwanted2 w
    · exact rwanted3 w
    · exact rwanted4 w
    · exact rwanted5 w
  · have : wF q = false := by unfold wF; simp; omega
    rw [this]
    exact rwanted_out q w (by omega)

theorem rgot0ff (w : World) : Calls Tryd.prog 38 #[.int .i64 0, .bool false, .bool false] w fun e w' => e = .returned (tup (0, 0, 0)) ∧ w' = w := by
  have HC := keepd (fun w => may_in 0 w (by omega) (by omega))
  go_enter Tryd.func38, Tryd.ntmps38
  go_wp2_with (go_at_call 26; with_reducible refine (HC.out _).mono ?_; rintro e w1 ⟨rfl, rfl⟩)
  exact bodyPost_ret (v := .tuple #[.int .i64 0, .int .i64 0, .int .i64 0]) (by simp [results, Tryd.results38, go_sem]) rfl ⟨rfl, rfl⟩

theorem rgot0ft (w : World) : Calls Tryd.prog 38 #[.int .i64 0, .bool false, .bool true] w fun e w' => e = .returned (tup (0, 0, 0)) ∧ w' = w := by
  have HC := keepd (fun w => may_in 0 w (by omega) (by omega))
  go_enter Tryd.func38, Tryd.ntmps38
  go_wp2_with (go_at_call 26; with_reducible refine (HC.out _).mono ?_; rintro e w1 ⟨rfl, rfl⟩)
  exact bodyPost_ret (v := .tuple #[.int .i64 0, .int .i64 0, .int .i64 0]) (by simp [results, Tryd.results38, go_sem]) rfl ⟨rfl, rfl⟩

theorem rgot0tf (w : World) : Calls Tryd.prog 38 #[.int .i64 0, .bool true, .bool false] w fun e w' => e = .returned (tup (0, 2, 0)) ∧ w' = w := by
  have HC := keepd (fun w => may_in 0 w (by omega) (by omega))
  go_enter Tryd.func38, Tryd.ntmps38
  go_wp2_with (go_at_call 26; with_reducible refine (HC.out _).mono ?_; rintro e w1 ⟨rfl, rfl⟩)
  exact bodyPost_ret (v := .tuple #[.int .i64 0, .int .i64 2, .int .i64 0]) (by simp [results, Tryd.results38, go_sem]) rfl ⟨rfl, rfl⟩

theorem rgot0tt (w : World) : Calls Tryd.prog 38 #[.int .i64 0, .bool true, .bool true] w fun e w' => e = .returned (tup (1, 1, 0)) ∧ w' = w := by
  have HC := keepd (fun w => may_in 0 w (by omega) (by omega))
  go_enter Tryd.func38, Tryd.ntmps38
  go_wp2_with (go_at_call 26; with_reducible refine (HC.out _).mono ?_; rintro e w1 ⟨rfl, rfl⟩)
  exact bodyPost_ret (v := .tuple #[.int .i64 1, .int .i64 1, .int .i64 0]) (by simp [results, Tryd.results38, go_sem]) rfl ⟨rfl, rfl⟩

theorem rgot1ff (w : World) : Calls Tryd.prog 38 #[.int .i64 1, .bool false, .bool false] w fun e w' => e = .returned (tup (0, 2, 0)) ∧ w' = w := by
  have HC := keepd (fun w => may_in 1 w (by omega) (by omega))
  go_enter Tryd.func38, Tryd.ntmps38
  go_wp2_with (go_at_call 26; with_reducible refine (HC.out _).mono ?_; rintro e w1 ⟨rfl, rfl⟩)
  exact bodyPost_ret (v := .tuple #[.int .i64 0, .int .i64 2, .int .i64 0]) (by simp [results, Tryd.results38, go_sem]) rfl ⟨rfl, rfl⟩

theorem rgot1ft (w : World) : Calls Tryd.prog 38 #[.int .i64 1, .bool false, .bool true] w fun e w' => e = .returned (tup (0, 2, 0)) ∧ w' = w := by
  have HC := keepd (fun w => may_in 1 w (by omega) (by omega))
  go_enter Tryd.func38, Tryd.ntmps38
  go_wp2_with (go_at_call 26; with_reducible refine (HC.out _).mono ?_; rintro e w1 ⟨rfl, rfl⟩)
  exact bodyPost_ret (v := .tuple #[.int .i64 0, .int .i64 2, .int .i64 0]) (by simp [results, Tryd.results38, go_sem]) rfl ⟨rfl, rfl⟩

theorem rgot1tf (w : World) : Calls Tryd.prog 38 #[.int .i64 1, .bool true, .bool false] w fun e w' => e = .returned (tup (1, 0, 0)) ∧ w' = w := by
  have HC := keepd (fun w => may_in 1 w (by omega) (by omega))
  go_enter Tryd.func38, Tryd.ntmps38
  go_wp2_with (go_at_call 26; with_reducible refine (HC.out _).mono ?_; rintro e w1 ⟨rfl, rfl⟩)
  exact bodyPost_ret (v := .tuple #[.int .i64 1, .int .i64 0, .int .i64 0]) (by simp [results, Tryd.results38, go_sem]) rfl ⟨rfl, rfl⟩

theorem rgot1tt (w : World) : Calls Tryd.prog 38 #[.int .i64 1, .bool true, .bool true] w fun e w' => e = .returned (tup (1, 0, 0)) ∧ w' = w := by
  have HC := keepd (fun w => may_in 1 w (by omega) (by omega))
  go_enter Tryd.func38, Tryd.ntmps38
  go_wp2_with (go_at_call 26; with_reducible refine (HC.out _).mono ?_; rintro e w1 ⟨rfl, rfl⟩)
  exact bodyPost_ret (v := .tuple #[.int .i64 1, .int .i64 0, .int .i64 0]) (by simp [results, Tryd.results38, go_sem]) rfl ⟨rfl, rfl⟩

theorem rgot2ff (w : World) : Calls Tryd.prog 38 #[.int .i64 2, .bool false, .bool false] w fun e w' => e = .returned (tup (0, 0, 0)) ∧ w' = w := by
  have HC := keepd (fun w => may_in 2 w (by omega) (by omega))
  go_enter Tryd.func38, Tryd.ntmps38
  go_wp2_with (go_at_call 26; with_reducible refine (HC.out _).mono ?_; rintro e w1 ⟨rfl, rfl⟩)
  exact bodyPost_ret (v := .tuple #[.int .i64 0, .int .i64 0, .int .i64 0]) (by simp [results, Tryd.results38, go_sem]) rfl ⟨rfl, rfl⟩

theorem rgot2ft (w : World) : Calls Tryd.prog 38 #[.int .i64 2, .bool false, .bool true] w fun e w' => e = .returned (tup (0, 0, 0)) ∧ w' = w := by
  have HC := keepd (fun w => may_in 2 w (by omega) (by omega))
  go_enter Tryd.func38, Tryd.ntmps38
  go_wp2_with (go_at_call 26; with_reducible refine (HC.out _).mono ?_; rintro e w1 ⟨rfl, rfl⟩)
  exact bodyPost_ret (v := .tuple #[.int .i64 0, .int .i64 0, .int .i64 0]) (by simp [results, Tryd.results38, go_sem]) rfl ⟨rfl, rfl⟩

theorem rgot2tf (w : World) : Calls Tryd.prog 38 #[.int .i64 2, .bool true, .bool false] w fun e w' => e = .returned (tup (0, 0, 5)) ∧ w' = w := by
  have HC := keepd (fun w => may_in 2 w (by omega) (by omega))
  go_enter Tryd.func38, Tryd.ntmps38
  go_wp2_with (go_at_call 26; with_reducible refine (HC.out _).mono ?_; rintro e w1 ⟨rfl, rfl⟩)
  exact bodyPost_ret (v := .tuple #[.int .i64 0, .int .i64 0, .int .i64 5]) (by simp [results, Tryd.results38, go_sem]) rfl ⟨rfl, rfl⟩

theorem rgot2tt (w : World) : Calls Tryd.prog 38 #[.int .i64 2, .bool true, .bool true] w fun e w' => e = .returned (tup (0, 0, 5)) ∧ w' = w := by
  have HC := keepd (fun w => may_in 2 w (by omega) (by omega))
  go_enter Tryd.func38, Tryd.ntmps38
  go_wp2_with (go_at_call 26; with_reducible refine (HC.out _).mono ?_; rintro e w1 ⟨rfl, rfl⟩)
  exact bodyPost_ret (v := .tuple #[.int .i64 0, .int .i64 0, .int .i64 5]) (by simp [results, Tryd.results38, go_sem]) rfl ⟨rfl, rfl⟩

theorem rgot3ff (w : World) : Calls Tryd.prog 38 #[.int .i64 3, .bool false, .bool false] w fun e w' => e = .returned (tup (4, 1, 0)) ∧ w' = w := by
  have HC := keepd (fun w => may_in 3 w (by omega) (by omega))
  go_enter Tryd.func38, Tryd.ntmps38
  go_wp2_with (go_at_call 26; with_reducible refine (HC.out _).mono ?_; rintro e w1 ⟨rfl, rfl⟩)
  exact bodyPost_ret (v := .tuple #[.int .i64 4, .int .i64 1, .int .i64 0]) (by simp [results, Tryd.results38, go_sem]) rfl ⟨rfl, rfl⟩

theorem rgot3ft (w : World) : Calls Tryd.prog 38 #[.int .i64 3, .bool false, .bool true] w fun e w' => e = .returned (tup (4, 1, 0)) ∧ w' = w := by
  have HC := keepd (fun w => may_in 3 w (by omega) (by omega))
  go_enter Tryd.func38, Tryd.ntmps38
  go_wp2_with (go_at_call 26; with_reducible refine (HC.out _).mono ?_; rintro e w1 ⟨rfl, rfl⟩)
  exact bodyPost_ret (v := .tuple #[.int .i64 4, .int .i64 1, .int .i64 0]) (by simp [results, Tryd.results38, go_sem]) rfl ⟨rfl, rfl⟩

theorem rgot3tf (w : World) : Calls Tryd.prog 38 #[.int .i64 3, .bool true, .bool false] w fun e w' => e = .returned (tup (1, 0, 5)) ∧ w' = w := by
  have HC := keepd (fun w => may_in 3 w (by omega) (by omega))
  go_enter Tryd.func38, Tryd.ntmps38
  go_wp2_with (go_at_call 26; with_reducible refine (HC.out _).mono ?_; rintro e w1 ⟨rfl, rfl⟩)
  exact bodyPost_ret (v := .tuple #[.int .i64 1, .int .i64 0, .int .i64 5]) (by simp [results, Tryd.results38, go_sem]) rfl ⟨rfl, rfl⟩

theorem rgot3tt (w : World) : Calls Tryd.prog 38 #[.int .i64 3, .bool true, .bool true] w fun e w' => e = .returned (tup (1, 0, 5)) ∧ w' = w := by
  have HC := keepd (fun w => may_in 3 w (by omega) (by omega))
  go_enter Tryd.func38, Tryd.ntmps38
  go_wp2_with (go_at_call 26; with_reducible refine (HC.out _).mono ?_; rintro e w1 ⟨rfl, rfl⟩)
  exact bodyPost_ret (v := .tuple #[.int .i64 1, .int .i64 0, .int .i64 5]) (by simp [results, Tryd.results38, go_sem]) rfl ⟨rfl, rfl⟩

theorem rgot4ff (w : World) : Calls Tryd.prog 38 #[.int .i64 4, .bool false, .bool false] w fun e w' => e = .returned (tup (0, 0, 0)) ∧ w' = w := by
  have HC := keepd (fun w => may_in 4 w (by omega) (by omega))
  go_enter Tryd.func38, Tryd.ntmps38
  go_wp2_with (go_at_call 26; with_reducible refine (HC.out _).mono ?_; rintro e w1 ⟨rfl, rfl⟩)
  exact bodyPost_ret (v := .tuple #[.int .i64 0, .int .i64 0, .int .i64 0]) (by simp [results, Tryd.results38, go_sem]) rfl ⟨rfl, rfl⟩

theorem rgot4ft (w : World) : Calls Tryd.prog 38 #[.int .i64 4, .bool false, .bool true] w fun e w' => e = .returned (tup (0, 0, 0)) ∧ w' = w := by
  have HC := keepd (fun w => may_in 4 w (by omega) (by omega))
  go_enter Tryd.func38, Tryd.ntmps38
  go_wp2_with (go_at_call 26; with_reducible refine (HC.out _).mono ?_; rintro e w1 ⟨rfl, rfl⟩)
  exact bodyPost_ret (v := .tuple #[.int .i64 0, .int .i64 0, .int .i64 0]) (by simp [results, Tryd.results38, go_sem]) rfl ⟨rfl, rfl⟩

theorem rgot4tf (w : World) : Calls Tryd.prog 38 #[.int .i64 4, .bool true, .bool false] w fun e w' => e = .returned (tup (1, 0, 0)) ∧ w' = w := by
  have HC := keepd (fun w => may_in 4 w (by omega) (by omega))
  go_enter Tryd.func38, Tryd.ntmps38
  go_wp2_with (go_at_call 26; with_reducible refine (HC.out _).mono ?_; rintro e w1 ⟨rfl, rfl⟩)
  exact bodyPost_ret (v := .tuple #[.int .i64 1, .int .i64 0, .int .i64 0]) (by simp [results, Tryd.results38, go_sem]) rfl ⟨rfl, rfl⟩

theorem rgot4tt (w : World) : Calls Tryd.prog 38 #[.int .i64 4, .bool true, .bool true] w fun e w' => e = .returned (tup (1, 0, 0)) ∧ w' = w := by
  have HC := keepd (fun w => may_in 4 w (by omega) (by omega))
  go_enter Tryd.func38, Tryd.ntmps38
  go_wp2_with (go_at_call 26; with_reducible refine (HC.out _).mono ?_; rintro e w1 ⟨rfl, rfl⟩)
  exact bodyPost_ret (v := .tuple #[.int .i64 1, .int .i64 0, .int .i64 0]) (by simp [results, Tryd.results38, go_sem]) rfl ⟨rfl, rfl⟩

theorem rgot5ff (w : World) : Calls Tryd.prog 38 #[.int .i64 5, .bool false, .bool false] w fun e w' => e = .returned (tup (0, 0, 0)) ∧ w' = w := by
  have HC := keepd (fun w => may_in 5 w (by omega) (by omega))
  go_enter Tryd.func38, Tryd.ntmps38
  go_wp2_with (go_at_call 26; with_reducible refine (HC.out _).mono ?_; rintro e w1 ⟨rfl, rfl⟩)
  exact bodyPost_ret (v := .tuple #[.int .i64 0, .int .i64 0, .int .i64 0]) (by simp [results, Tryd.results38, go_sem]) rfl ⟨rfl, rfl⟩

theorem rgot5ft (w : World) : Calls Tryd.prog 38 #[.int .i64 5, .bool false, .bool true] w fun e w' => e = .returned (tup (0, 0, 0)) ∧ w' = w := by
  have HC := keepd (fun w => may_in 5 w (by omega) (by omega))
  go_enter Tryd.func38, Tryd.ntmps38
  go_wp2_with (go_at_call 26; with_reducible refine (HC.out _).mono ?_; rintro e w1 ⟨rfl, rfl⟩)
  exact bodyPost_ret (v := .tuple #[.int .i64 0, .int .i64 0, .int .i64 0]) (by simp [results, Tryd.results38, go_sem]) rfl ⟨rfl, rfl⟩

theorem rgot5tf (w : World) : Calls Tryd.prog 38 #[.int .i64 5, .bool true, .bool false] w fun e w' => e = .returned (tup (2, 2, 0)) ∧ w' = w := by
  have HC := keepd (fun w => may_in 5 w (by omega) (by omega))
  go_enter Tryd.func38, Tryd.ntmps38
  go_wp2_with (go_at_call 26; with_reducible refine (HC.out _).mono ?_; rintro e w1 ⟨rfl, rfl⟩)
  exact bodyPost_ret (v := .tuple #[.int .i64 2, .int .i64 2, .int .i64 0]) (by simp [results, Tryd.results38, go_sem]) rfl ⟨rfl, rfl⟩

theorem rgot5tt (w : World) : Calls Tryd.prog 38 #[.int .i64 5, .bool true, .bool true] w fun e w' => e = .returned (tup (2, 2, 0)) ∧ w' = w := by
  have HC := keepd (fun w => may_in 5 w (by omega) (by omega))
  go_enter Tryd.func38, Tryd.ntmps38
  go_wp2_with (go_at_call 26; with_reducible refine (HC.out _).mono ?_; rintro e w1 ⟨rfl, rfl⟩)
  exact bodyPost_ret (v := .tuple #[.int .i64 2, .int .i64 2, .int .i64 0]) (by simp [results, Tryd.results38, go_sem]) rfl ⟨rfl, rfl⟩

theorem rask0f (w : World) : Calls Tryd.prog 42 #[.int .i64 0, .bool false] w fun e w' => e = .returned (tup (0, 0, 5)) ∧ w' = w := by
  have HC := keepd (fun w => may_in 0 w (by omega) (by omega))
  go_enter Tryd.func42, Tryd.ntmps42
  go_wp2_with (first | (go_at_call 26; with_reducible refine (HC.out _).mono ?_; rintro e w1 ⟨rfl, rfl⟩) | (go_at_call 47; with_reducible refine (rwanted0 _).mono ?_; rintro e w1 ⟨rfl, rfl⟩))
  exact bodyPost_ret (v := .tuple #[.int .i64 0, .int .i64 0, .int .i64 5]) (by simp [results, Tryd.results42, go_sem]) rfl ⟨rfl, rfl⟩

theorem rask0t (w : World) : Calls Tryd.prog 42 #[.int .i64 0, .bool true] w fun e w' => e = .returned (tup (4, 1, 0)) ∧ w' = w := by
  have HC := keepd (fun w => may_in 0 w (by omega) (by omega))
  go_enter Tryd.func42, Tryd.ntmps42
  go_wp2_with (first | (go_at_call 26; with_reducible refine (HC.out _).mono ?_; rintro e w1 ⟨rfl, rfl⟩) | (go_at_call 47; with_reducible refine (rwanted0 _).mono ?_; rintro e w1 ⟨rfl, rfl⟩))
  exact bodyPost_ret (v := .tuple #[.int .i64 4, .int .i64 1, .int .i64 0]) (by simp [results, Tryd.results42, go_sem]) rfl ⟨rfl, rfl⟩

theorem rask1f (w : World) : Calls Tryd.prog 42 #[.int .i64 1, .bool false] w fun e w' => e = .returned (tup (2, 2, 0)) ∧ w' = w := by
  have HC := keepd (fun w => may_in 1 w (by omega) (by omega))
  go_enter Tryd.func42, Tryd.ntmps42
  go_wp2_with (first | (go_at_call 26; with_reducible refine (HC.out _).mono ?_; rintro e w1 ⟨rfl, rfl⟩) | (go_at_call 47; with_reducible refine (rwanted1 _).mono ?_; rintro e w1 ⟨rfl, rfl⟩))
  exact bodyPost_ret (v := .tuple #[.int .i64 2, .int .i64 2, .int .i64 0]) (by simp [results, Tryd.results42, go_sem]) rfl ⟨rfl, rfl⟩

theorem rask1t (w : World) : Calls Tryd.prog 42 #[.int .i64 1, .bool true] w fun e w' => e = .returned (tup (1, 0, 5)) ∧ w' = w := by
  have HC := keepd (fun w => may_in 1 w (by omega) (by omega))
  go_enter Tryd.func42, Tryd.ntmps42
  go_wp2_with (first | (go_at_call 26; with_reducible refine (HC.out _).mono ?_; rintro e w1 ⟨rfl, rfl⟩) | (go_at_call 47; with_reducible refine (rwanted1 _).mono ?_; rintro e w1 ⟨rfl, rfl⟩))
  exact bodyPost_ret (v := .tuple #[.int .i64 1, .int .i64 0, .int .i64 5]) (by simp [results, Tryd.results42, go_sem]) rfl ⟨rfl, rfl⟩

theorem rask2f (w : World) : Calls Tryd.prog 42 #[.int .i64 2, .bool false] w fun e w' => e = .returned (tup (2, 0, 5)) ∧ w' = w := by
  have HC := keepd (fun w => may_in 2 w (by omega) (by omega))
  go_enter Tryd.func42, Tryd.ntmps42
  go_wp2_with (first | (go_at_call 26; with_reducible refine (HC.out _).mono ?_; rintro e w1 ⟨rfl, rfl⟩) | (go_at_call 47; with_reducible refine (rwanted2 _).mono ?_; rintro e w1 ⟨rfl, rfl⟩))
  exact bodyPost_ret (v := .tuple #[.int .i64 2, .int .i64 0, .int .i64 5]) (by simp [results, Tryd.results42, go_sem]) rfl ⟨rfl, rfl⟩

theorem rask2t (w : World) : Calls Tryd.prog 42 #[.int .i64 2, .bool true] w fun e w' => e = .returned (tup (3, 0, 0)) ∧ w' = w := by
  have HC := keepd (fun w => may_in 2 w (by omega) (by omega))
  go_enter Tryd.func42, Tryd.ntmps42
  go_wp2_with (first | (go_at_call 26; with_reducible refine (HC.out _).mono ?_; rintro e w1 ⟨rfl, rfl⟩) | (go_at_call 47; with_reducible refine (rwanted2 _).mono ?_; rintro e w1 ⟨rfl, rfl⟩))
  exact bodyPost_ret (v := .tuple #[.int .i64 3, .int .i64 0, .int .i64 0]) (by simp [results, Tryd.results42, go_sem]) rfl ⟨rfl, rfl⟩

theorem rask3f (w : World) : Calls Tryd.prog 42 #[.int .i64 3, .bool false] w fun e w' => e = .returned (tup (2, 0, 0)) ∧ w' = w := by
  have HC := keepd (fun w => may_in 3 w (by omega) (by omega))
  go_enter Tryd.func42, Tryd.ntmps42
  go_wp2_with (first | (go_at_call 26; with_reducible refine (HC.out _).mono ?_; rintro e w1 ⟨rfl, rfl⟩) | (go_at_call 47; with_reducible refine (rwanted3 _).mono ?_; rintro e w1 ⟨rfl, rfl⟩))
  exact bodyPost_ret (v := .tuple #[.int .i64 2, .int .i64 0, .int .i64 0]) (by simp [results, Tryd.results42, go_sem]) rfl ⟨rfl, rfl⟩

theorem rask3t (w : World) : Calls Tryd.prog 42 #[.int .i64 3, .bool true] w fun e w' => e = .returned (tup (3, 0, 5)) ∧ w' = w := by
  have HC := keepd (fun w => may_in 3 w (by omega) (by omega))
  go_enter Tryd.func42, Tryd.ntmps42
  go_wp2_with (first | (go_at_call 26; with_reducible refine (HC.out _).mono ?_; rintro e w1 ⟨rfl, rfl⟩) | (go_at_call 47; with_reducible refine (rwanted3 _).mono ?_; rintro e w1 ⟨rfl, rfl⟩))
  exact bodyPost_ret (v := .tuple #[.int .i64 3, .int .i64 0, .int .i64 5]) (by simp [results, Tryd.results42, go_sem]) rfl ⟨rfl, rfl⟩

theorem rask4f (w : World) : Calls Tryd.prog 42 #[.int .i64 4, .bool false] w fun e w' => e = .returned (tup (5, 0, 0)) ∧ w' = w := by
  have HC := keepd (fun w => may_in 4 w (by omega) (by omega))
  go_enter Tryd.func42, Tryd.ntmps42
  go_wp2_with (first | (go_at_call 26; with_reducible refine (HC.out _).mono ?_; rintro e w1 ⟨rfl, rfl⟩) | (go_at_call 47; with_reducible refine (rwanted4 _).mono ?_; rintro e w1 ⟨rfl, rfl⟩))
  exact bodyPost_ret (v := .tuple #[.int .i64 5, .int .i64 0, .int .i64 0]) (by simp [results, Tryd.results42, go_sem]) rfl ⟨rfl, rfl⟩

theorem rask4t (w : World) : Calls Tryd.prog 42 #[.int .i64 4, .bool true] w fun e w' => e = .returned (tup (4, 0, 5)) ∧ w' = w := by
  have HC := keepd (fun w => may_in 4 w (by omega) (by omega))
  go_enter Tryd.func42, Tryd.ntmps42
  go_wp2_with (first | (go_at_call 26; with_reducible refine (HC.out _).mono ?_; rintro e w1 ⟨rfl, rfl⟩) | (go_at_call 47; with_reducible refine (rwanted4 _).mono ?_; rintro e w1 ⟨rfl, rfl⟩))
  exact bodyPost_ret (v := .tuple #[.int .i64 4, .int .i64 0, .int .i64 5]) (by simp [results, Tryd.results42, go_sem]) rfl ⟨rfl, rfl⟩

theorem rask5f (w : World) : Calls Tryd.prog 42 #[.int .i64 5, .bool false] w fun e w' => e = .returned (tup (5, 0, 5)) ∧ w' = w := by
  have HC := keepd (fun w => may_in 5 w (by omega) (by omega))
  go_enter Tryd.func42, Tryd.ntmps42
  go_wp2_with (first | (go_at_call 26; with_reducible refine (HC.out _).mono ?_; rintro e w1 ⟨rfl, rfl⟩) | (go_at_call 47; with_reducible refine (rwanted5 _).mono ?_; rintro e w1 ⟨rfl, rfl⟩))
  exact bodyPost_ret (v := .tuple #[.int .i64 5, .int .i64 0, .int .i64 5]) (by simp [results, Tryd.results42, go_sem]) rfl ⟨rfl, rfl⟩

theorem rask5t (w : World) : Calls Tryd.prog 42 #[.int .i64 5, .bool true] w fun e w' => e = .returned (tup (4, 0, 0)) ∧ w' = w := by
  have HC := keepd (fun w => may_in 5 w (by omega) (by omega))
  go_enter Tryd.func42, Tryd.ntmps42
  go_wp2_with (first | (go_at_call 26; with_reducible refine (HC.out _).mono ?_; rintro e w1 ⟨rfl, rfl⟩) | (go_at_call 47; with_reducible refine (rwanted5 _).mono ?_; rintro e w1 ⟨rfl, rfl⟩))
  exact bodyPost_ret (v := .tuple #[.int .i64 4, .int .i64 0, .int .i64 0]) (by simp [results, Tryd.results42, go_sem]) rfl ⟨rfl, rfl⟩

theorem rgot_out (q : Int) (y m : Bool) (w : World) (h : q < 0 ∨ 5 < q) : Calls Tryd.prog 38 #[.int .i64 q, .bool y, .bool m] w fun e w' => e = .returned (tup (q, 0, 1)) ∧ w' = w := by
  have HC := keepd (fun w => may_out q w h)
  clear h
  go_enter Tryd.func38, Tryd.ntmps38
  go_wp2_with (go_at_call 26; with_reducible refine (HC.out _).mono ?_; rintro e w1 ⟨rfl, rfl⟩)
  exact bodyPost_ret (v := .tuple #[.int .i64 q, .int .i64 0, .int .i64 1]) (by simp [results, Tryd.results38, go_sem]) rfl ⟨rfl, rfl⟩

theorem rask_out (q : Int) (y : Bool) (w : World) (h : q < 0 ∨ 5 < q) : Calls Tryd.prog 42 #[.int .i64 q, .bool y] w fun e w' => e = .returned (tup (q, 0, 1)) ∧ w' = w := by
  have HC := keepd (fun w => may_out q w h)
  clear h
  go_enter Tryd.func42, Tryd.ntmps42
  go_wp2_with (go_at_call 26; with_reducible refine (HC.out _).mono ?_; rintro e w1 ⟨rfl, rfl⟩)
  exact bodyPost_ret (v := .tuple #[.int .i64 q, .int .i64 0, .int .i64 1]) (by simp [results, Tryd.results42, go_sem]) rfl ⟨rfl, rfl⟩

theorem rgot_in (q : Int) (y m : Bool) (w : World) (h0 : 0 ≤ q) (h5 : q ≤ 5) : Calls Tryd.prog 38 #[.int .i64 q, .bool y, .bool m] w fun e w' => e = .returned (tup (gF q y m)) ∧ w' = w := by
  rcases six h0 h5 with rfl | rfl | rfl | rfl | rfl | rfl
  · cases y
    · cases m
      · exact rgot0ff w
      · exact rgot0ft w
    · cases m
      · exact rgot0tf w
      · exact rgot0tt w
  · cases y
    · cases m
      · exact rgot1ff w
      · exact rgot1ft w
    · cases m
      · exact rgot1tf w
      · exact rgot1tt w
  · cases y
    · cases m
      · exact rgot2ff w
      · exact rgot2ft w
    · cases m
      · exact rgot2tf w
      · exact rgot2tt w
  · cases y
    · cases m
      · exact rgot3ff w
      · exact rgot3ft w
    · cases m
      · exact rgot3tf w
      · exact rgot3tt w
  · cases y
    · cases m
      · exact rgot4ff w
      · exact rgot4ft w
    · cases m
      · exact rgot4tf w
      · exact rgot4tt w
  · cases y
    · cases m
      · exact rgot5ff w
      · exact rgot5ft w
    · cases m
      · exact rgot5tf w
      · exact rgot5tt w

theorem rask_in (q : Int) (y : Bool) (w : World) (h0 : 0 ≤ q) (h5 : q ≤ 5) : Calls Tryd.prog 42 #[.int .i64 q, .bool y] w fun e w' => e = .returned (tup (aF q y)) ∧ w' = w := by
  rcases six h0 h5 with rfl | rfl | rfl | rfl | rfl | rfl
  · cases y
    · exact rask0f w
    · exact rask0t w
  · cases y
    · exact rask1f w
    · exact rask1t w
  · cases y
    · exact rask2f w
    · exact rask2t w
  · cases y
    · exact rask3f w
    · exact rask3t w
  · cases y
    · exact rask4f w
    · exact rask4t w
  · cases y
    · exact rask5f w
    · exact rask5t w

theorem rgot_at (q : Int) (y m : Bool) (a b c : Int) (h : gF q y m = (a, b, c)) (w : World) :
    Calls Tryd.prog 38 #[.int .i64 q, .bool y, .bool m] w fun e w' => e = .returned (.tuple #[.int .i64 a, .int .i64 b, .int .i64 c]) ∧ w' = w := by
  by_cases g : 0 ≤ q ∧ q ≤ 5
  · have := rgot_in q y m w g.1 g.2
    rw [h] at this
    exact this
  · have e : gF q y m = (q, 0, 1) := by unfold gF; rw [if_neg g]
    rw [e] at h
    have := rgot_out q y m w (by omega)
    rw [h] at this
    exact this

theorem rask_at (q : Int) (y : Bool) (a b c : Int) (h : aF q y = (a, b, c)) (w : World) :
    Calls Tryd.prog 42 #[.int .i64 q, .bool y] w fun e w' => e = .returned (.tuple #[.int .i64 a, .int .i64 b, .int .i64 c]) ∧ w' = w := by
  by_cases g : 0 ≤ q ∧ q ≤ 5
  · have := rask_in q y w g.1 g.2
    rw [h] at this
    exact this
  · have e : aF q y = (q, 0, 1) := by unfold aF; rw [if_neg g]
    rw [e] at h
    have := rask_out q y w (by omega)
    rw [h] at this
    exact this

end Go.Proofs.YtlgcfpdmklieiaaDoor
