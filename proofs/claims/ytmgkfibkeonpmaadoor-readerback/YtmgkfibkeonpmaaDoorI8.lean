/-
  A contract over the law's own Few, of items. No conditions beyond those the theorem states.
-/
import Derived.Test.YtmgkfibkeonpmaaDoorI7
namespace Go.Proofs.YtmgkfibkeonpmaaDoor
open Go.RowKit

/-- An item with no more than 600 octets. -/
def cut6 (x : Itm) : Itm := { x with l := x.l.take 600 }
def fewI (L : List Itm) : List Itm := (L.take 40).map cut6

theorem fewI_len (L : List Itm) : (fewI L).length = min 40 L.length := by unfold fewI; rw [List.length_map, List.length_take]

def GotFewI (w : World) (L : List Itm) (e : Ending) (w' : World) : Prop :=
  ∃ A c, e = .returned (.slice A (fewI L).length c) ∧ RdI w' A (fewI L) c ∧ Below w.heap.size w w'

theorem ownI_grown {w w' : World} {base : Nat} {v : Value} {L : List Itm} (hown : OwnI w base v L) (hg : w.grownBy w' v.ownBlock) (hbase : base ≤ w.heap.size) : Below base w w' :=
  (Below.refl _ _).grown hg hbase (fun k hk => (hown.ge k hk).1)

theorem one_rdI2 (w : World) (o : Obj) (X : Itm) (hr : Rd w w.heap.size X.A X.l X.c) : RdI ((w.alloc o).alloc (.cells #[.int .i64 X.k, .int .i64 X.a, .int .i64 X.b, .slice X.A X.l.length X.c] 39)) (some ⟨w.heap.size + 1, 0, none⟩) [X] 1 := by
  have e : (w.alloc o).heap.size = w.heap.size + 1 := by simp
  have := one_rdI (w.alloc o) X (hr.at_ (bAlloc (Below.refl _ _) o))
  rw [show (⟨(w.alloc o).heap.size, 0, none⟩ : Addr) = ⟨w.heap.size + 1, 0, none⟩ by rw [e]] at this
  exact this

set_option maxHeartbeats 1000000 in
theorem fewI_any (A : Option Addr) (L : List Itm) (n c : Nat) (w : World) (hn : n = L.length) (hr : RdI w A L c) : Calls Tryd.prog 5 #[.slice A n c] w (GotFewI w L) := by
  have HR := keepd hr
  have HN := keepd hn
  have c1 := hr.1
  have c2 := hr.2.1
  unfold maxLen at c2
  rw [← hn] at c1
  clear hr hn
  go_enter Tryd.func5, Tryd.ntmps5
  go_wp2_with fail
  go_loopw [3, 4] (fun vo vi wr => ∃ k : Nat, k ≤ n ∧ k ≤ 40 ∧ vi = .int .i64 k ∧ Hid (OwnI wr w.heap.size vo ((L.take k).map cut6)) ∧ Hid (Below w.heap.size w wr)) (fun _ vi _ => 40 - (intOf vi).toNat)
  case atStart => exact ⟨0, by omega, by omega, rfl, OwnI.nil _ _, Below.refl _ _⟩
  case round =>
    obtain ⟨k, hk, hk4, rfl, HO, HB⟩ := hrel
    have hsz := HB.out.size
    by_cases hlt : k < n ∧ k < 40
    · obtain ⟨h1, h2⟩ := hlt
      have g1 : decide ((k : Int) < (n : Int)) = true := by simp; omega
      have g2 : decide ((k : Int) < 40) = true := by simp; omega
      have hkL : k < L.length := by rw [← HN.out]; exact h1
      obtain ⟨b, off, hA, hbl, hce⟩ := HR.out.2.2.1 (by rintro rfl; simp at hkL)
      subst hA
      obtain ⟨e0, e1, e2, e3⟩ := hce k hkL
      have e0' := (HB.out.cell (p := ⟨b, off + k * 4, none⟩) hbl).trans e0
      have e1' := (HB.out.cell (p := ⟨b, off + k * 4 + 1, none⟩) hbl).trans e1
      have e2' := (HB.out.cell (p := ⟨b, off + k * 4 + 2, none⟩) hbl).trans e2
      have e3' := (HB.out.cell (p := ⟨b, off + k * 4 + 3, none⟩) hbl).trans e3
      have HRX := keepd ((HR.out.2.2.2 L[k] (List.getElem_mem hkL)).at_ HB.out)
      have HS : Hid ((L.take (k + 1)).map cut6 = (L.take k).map cut6 ++ [cut6 L[k]]) := by
        show _ = _
        rw [List.take_succ_eq_append_getElem hkL, List.map_append]
        rfl
      have HLn : Hid (((L.take k).map cut6).length ≤ 40) := by show _ ≤ _; rw [List.length_map, List.length_take]; omega
      generalize L[k] = X at *
      have d1 := HRX.out.1
      have d2 := HRX.out.2.1
      unfold maxLen at d2
      clear hce e0 e1 e2 e3
      by_cases h600 : X.l.length ≤ 600
      · have HX : Hid (cut6 X = X) := by
          show _ = _
          unfold cut6
          rw [List.take_of_length_le h600]
        have g3 : decide ((600 : Int) < (X.l.length : Int)) = false := by simp; omega
        have HRY := keepd (fun o => one_rdI2 wr o X HRX.out)
        go_wp2_with (at_builtin; refine wpList_appI _ rfl (.tmp 28) (.tmp 30) rfl w.heap.size _ ((L.take k).map cut6) rfl ((HO.out.alloc _).alloc _) (some ⟨wr.heap.size + 1, 0, none⟩) 1 1 [X] rfl rfl (HRY.out _) (by have := HLn.out; simp only [List.length_cons, List.length_nil]; omega) (by simp only [World.size_alloc]; omega) ?_; intro va w4 ho hg _)
        have hb4 : Below w.heap.size w w4 := (bAlloc (bAlloc HB.out _) _).trans (ownI_grown ((HO.out.alloc _).alloc _) hg (by simp only [World.size_alloc]; omega))
        have HB4 := keepd hb4
        have HO4 : Hid (OwnI w4 w.heap.size va ((L.take (k + 1)).map cut6)) := by
          show OwnI _ _ _ _
          rw [HS.out, HX.out]
          exact ho
        clear ho hg hb4 e0' e1' e2' e3'
        go_wp2
        go_roundw
        case rel => exact ⟨k + 1, by omega, by omega, by go_num, HO4, HB4⟩
        case measure => simp [intOf]; omega
      · have g3 : decide ((600 : Int) < (X.l.length : Int)) = true := by simp; omega
        have h6 : (cut6 X).l.length = 600 := by unfold cut6; rw [List.length_take]; omega
        have HRY : Hid (∀ o, RdI ((wr.alloc o).alloc (.cells #[.int .i64 X.k, .int .i64 X.a, .int .i64 X.b, .slice X.A 600 X.c] 39)) (some ⟨wr.heap.size + 1, 0, none⟩) [cut6 X] 1) := by
          intro o
          have := one_rdI2 wr o (cut6 X) (HRX.out.take 600)
          rw [h6] at this
          exact this
        clear h6
        go_wp2_with (at_builtin; refine wpList_appI _ rfl (.tmp 28) (.tmp 30) rfl w.heap.size _ ((L.take k).map cut6) rfl ((HO.out.alloc _).alloc _) (some ⟨wr.heap.size + 1, 0, none⟩) 1 1 [cut6 X] rfl rfl (HRY.out _) (by have := HLn.out; simp only [List.length_cons, List.length_nil]; omega) (by simp only [World.size_alloc]; omega) ?_; intro va w4 ho hg _)
        have hb4 : Below w.heap.size w w4 := (bAlloc (bAlloc HB.out _) _).trans (ownI_grown ((HO.out.alloc _).alloc _) hg (by simp only [World.size_alloc]; omega))
        have HB4 := keepd hb4
        have HO4 : Hid (OwnI w4 w.heap.size va ((L.take (k + 1)).map cut6)) := by
          show OwnI _ _ _ _
          rw [HS.out]
          exact ho
        clear ho hg hb4 e0' e1' e2' e3'
        go_wp2
        go_roundw
        case rel => exact ⟨k + 1, by omega, by omega, by go_num, HO4, HB4⟩
        case measure => simp [intOf]; omega
    · have hg : decide ((k : Int) < (n : Int)) = false ∨ (decide ((k : Int) < (n : Int)) = true ∧ decide ((k : Int) < 40) = false) := by
        by_cases h : k < n
        · exact .inr ⟨by simp; omega, by simp; omega⟩
        · exact .inl (by simp; omega)
      have HF : Hid (OwnI wr w.heap.size u3 (fewI L)) := by
        show OwnI _ _ _ _
        have := HO.out
        unfold fewI
        rcases Nat.lt_or_ge k 40 with h | h
        · have hkn : k = n := by omega
          have e1 : L.take k = L := List.take_of_length_le (by rw [← HN.out]; omega)
          have e2 : L.take 40 = L := List.take_of_length_le (by rw [← HN.out]; omega)
          rw [e1] at this
          rw [e2]
          exact this
        · have : k = 40 := by omega
          subst this
          exact HO.out
      have HRX : Hid (∀ x ∈ fewI L, Rd wr wr.heap.size x.A x.l x.c) := by
        intro x hx
        unfold fewI at hx
        obtain ⟨y, hy, rfl⟩ := List.mem_map.1 hx
        exact ((HR.out.2.2.2 y (List.mem_of_mem_take hy)).take 600).at_ HB.out
      obtain ⟨A', c', rfl, hr'⟩ := HF.out.rd HRX.out
      have H1 := keepd hr'
      clear hr' HO
      rcases hg with g1 | ⟨g1, g2⟩
      all_goals
        go_wp2
        all_goals
          go_ret
          exact ⟨A', c', rfl, H1.out, HB.out⟩

end Go.Proofs.YtmgkfibkeonpmaaDoor
