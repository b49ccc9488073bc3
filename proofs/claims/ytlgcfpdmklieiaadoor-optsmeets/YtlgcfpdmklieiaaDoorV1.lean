/-
  The contract of Same, of rows of one item at most; the chapter's examples (awake).
-/
import Derived.Test.YtlgcfpdmklieiaaDoorU9
namespace Go.Proofs.YtlgcfpdmklieiaaDoor
open Go.RowKit
set_option maxRecDepth 100000

attribute [local go_sem ↓] ex_ld25 ex_ld67 ex_ld73 ex_st25 ex_st67 ex_st73 ex_eq25 ex_ne25 ex_ix22
attribute [local go_sem] ptrB_at okPtr_at aggC_at agg16 agg11 agg12 isO_at toO_at idx0 idx1 idx2 idx3 okIdx_at

theorem conv_nil (w : World) : (convert 49 9 (.slice none 0 0)).run Tryd.prog w = .ok (.string ⟨#[]⟩) w := by
  rw [run_convert_bytes_string w 49 9 5 none 0 0 Tryd.underlying49 Tryd.underlying5 Tryd.underlying9]
  rfl

theorem equal_nil (w : World) : Calls Tryd.prog 46 #[.slice none 0 0, .slice none 0 0] w fun e w' => e = .returned (.bool true) ∧ w' = w := by
  have k := conv_nil w
  go_enter Tryd.func46, Tryd.ntmps46
  go_wp2
  go_ret
  exact ⟨rfl, rfl⟩

theorem sameItem_any (v c v' c' : Int) (w : World) : Calls Tryd.prog 41 #[it v c, it v' c'] w fun e w' => e = .returned (.bool ((v == v') && (c == c'))) ∧ Below w.heap.size w w' := by
  have C := keepd equal_nil
  have B0 : ∀ o o', Below w.heap.size w ((w.alloc o).alloc o') := fun o o' => bAlloc (bAlloc (Below.refl _ _) o) o'
  obtain ⟨a, ha⟩ : ∃ a, (v == v') = a := ⟨_, rfl⟩
  obtain ⟨b, hb⟩ : ∃ b, (c == c') = b := ⟨_, rfl⟩
  rw [ha, hb]
  cases a <;> cases b
  all_goals
    go_enter Tryd.func41, Tryd.ntmps41
    go_wp2_with (go_at_call 46; with_reducible refine (C.out _).mono ?_; rintro e w1 ⟨rfl, rfl⟩)
    go_ret
    exact ⟨rfl, B0 _ _⟩

/-- Are two rows the same? -/
def sameR : List (Int × Int) → List (Int × Int) → Bool
  | [], [] => true
  | [x], [y] => (x.1 == y.1) && (x.2 == y.2)
  | _, _ => false

theorem equalFunc_any (s t : Value) (L M : List (Int × Int)) (B B' : Nat) (w : World) (h1 : One w B s L) (h2 : One w B' t M) :
    Calls Tryd.prog 40 #[s, t, .func (.func 41) #[] #[]] w fun e w' => e = .returned (.bool (sameR L M)) ∧ Below w.heap.size w w' := by
  rcases h1 with ⟨rfl, rfl⟩ | ⟨b, v, c, rfl, rfl, _, k1⟩ <;> rcases h2 with ⟨rfl, rfl⟩ | ⟨b', v', c', rfl, rfl, _, k2⟩
  · go_enter Tryd.func40, Tryd.ntmps40
    go_wp2_with fail
    go_rounds 1
    all_goals
      go_wp2
      go_ret
      exact ⟨rfl, Below.refl _ _⟩
  · clear k2
    go_enter Tryd.func40, Tryd.ntmps40
    go_wp2_with fail
    go_ret
    exact ⟨rfl, Below.refl _ _⟩
  · clear k1
    go_enter Tryd.func40, Tryd.ntmps40
    go_wp2_with fail
    go_ret
    exact ⟨rfl, Below.refl _ _⟩
  · have C := keepd (sameItem_any v c v' c')
    show Calls _ _ _ _ fun e w' => e = .returned (.bool ((v == v') && (c == c'))) ∧ Below w.heap.size w w'
    obtain ⟨z, hz⟩ : ∃ z, ((v == v') && (c == c')) = z := ⟨_, rfl⟩
    rw [hz] at C ⊢
    clear hz
    have c0 := k1.cell 0
    have c1 := k1.cell 1
    have c2 := k1.cell 2
    have c3 := k1.cell 3
    have lt1 := k1.lt
    have lt2 := k2.lt
    have d0 := fun o => ((Below.refl w.heap.size w).alloc (Nat.le_refl _) o).cell (p := ⟨b', 0, none⟩) lt2
    have d1 := fun o => ((Below.refl w.heap.size w).alloc (Nat.le_refl _) o).cell (p := ⟨b', 1, none⟩) lt2
    have d2 := fun o => ((Below.refl w.heap.size w).alloc (Nat.le_refl _) o).cell (p := ⟨b', 2, none⟩) lt2
    have d3 := fun o => ((Below.refl w.heap.size w).alloc (Nat.le_refl _) o).cell (p := ⟨b', 3, none⟩) lt2
    simp only [k2.cell 0, k2.cell 1, k2.cell 2, k2.cell 3, itC, List.getElem?_cons_succ, List.getElem?_cons_zero] at c0 c1 c2 c3 d0 d1 d2 d3
    clear k1 k2 lt1 lt2
    go_enter Tryd.func40, Tryd.ntmps40
    go_wp2_with fail
    refine wp_loop_rounds 2 ?_
    rw [rounds_succ]
    go_wp2_with fail
    with_reducible refine (C.out _).mono ?_
    rintro e w1 ⟨rfl, hb⟩
    have HB := keepd (upAA hb)
    clear hb c0 c1 c2 c3 d0 d1 d2 d3 C
    cases z
    · go_wp2_with fail
      go_ret
      exact ⟨rfl, HB.out⟩
    · go_wp2_with fail
      rw [rounds_succ]
      go_wp2_with fail
      go_ret
      exact ⟨rfl, HB.out⟩

theorem sameRow_any (s t : Value) (L M : List (Int × Int)) (B B' : Nat) (w : World) (h1 : One w B s L) (h2 : One w B' t M) :
    Calls Tryd.prog 17 #[s, t] w fun e w' => e = .returned (.bool (sameR L M)) ∧ Below w.heap.size w w' := by
  have C := keepd (equalFunc_any s t L M B B' w h1 h2)
  obtain ⟨z, hz⟩ : ∃ z, sameR L M = z := ⟨_, rfl⟩
  rw [hz] at C ⊢
  clear hz h1 h2
  go_enter Tryd.func17, Tryd.ntmps17
  go_wp2_with fail
  with_reducible refine C.out.mono ?_
  rintro e w1 ⟨rfl, hb⟩
  have HB := keepd hb
  clear hb C
  go_wp2_with fail
  go_ret
  exact ⟨rfl, HB.out⟩

end Go.Proofs.YtlgcfpdmklieiaaDoor
