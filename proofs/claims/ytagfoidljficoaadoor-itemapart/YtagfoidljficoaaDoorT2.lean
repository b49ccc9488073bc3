/-
  Data that is read, as a function on lists, and the contract of nvt.Read.
-/
import Derived.Test.YtagfoidljficoaaDoorT1
namespace Go.Proofs.YtagfoidljficoaaDoor
open Go.RowKit

theorem wid_le (l : List UInt8) (h : l ≠ []) : wid l ≤ l.length := by
  have hp : 0 < l.length := List.length_pos_iff.2 h
  have two : ∀ u, l[1]? = some u → 2 ≤ l.length := fun u hu => by have := (List.getElem?_eq_some_iff.1 hu).1; omega
  unfold wid
  split
  · split
    · rename_i hh; exact two _ hh
    · omega
  · split
    · rename_i hh
      rcases hh.2 with e | e
      · exact two _ e
      · exact two _ e
    · omega

/-- The data with which l begins, and how many octets that takes. -/
def readD (l : List UInt8) : List UInt8 × Nat :=
  if _h : l = [] ∨ wid l = 0 then ([], 0) else (l.headD 0 :: (readD (l.drop (wid l))).1, wid l + (readD (l.drop (wid l))).2)
termination_by l.length
decreasing_by
  all_goals
    have h1 : l ≠ [] := fun e => _h (.inl e)
    have h2 : wid l ≠ 0 := fun e => _h (.inr e)
    have := List.length_pos_iff.2 h1
    simp only [List.length_drop]
    omega

theorem readD_stop {l : List UInt8} (h : l = [] ∨ wid l = 0) : readD l = ([], 0) := by
  rw [readD, dif_pos h]

theorem readD_go {l : List UInt8} (hl : 0 < l.length) (h : wid l ≠ 0) : readD l = (l[0] :: (readD (l.drop (wid l))).1, wid l + (readD (l.drop (wid l))).2) := by
  have h0 : ¬ (l = [] ∨ wid l = 0) := by
    rintro (e | e)
    · subst e; simp at hl
    · exact h e
  rw [readD, dif_neg h0]
  cases l with
  | nil => simp at hl
  | cons a r => rfl

theorem readD_le (l : List UInt8) : (readD l).2 ≤ l.length ∧ (readD l).1.length ≤ (readD l).2 := by
  induction hn : l.length using Nat.strongRecOn generalizing l with
  | _ n ih =>
    by_cases h : l = [] ∨ wid l = 0
    · rw [readD_stop h]; simp
    · have h1 : l ≠ [] := fun e => h (.inl e)
      have h2 : wid l ≠ 0 := fun e => h (.inr e)
      have hp : 0 < l.length := List.length_pos_iff.2 h1
      have hw := wid_le l h1
      rw [readD_go hp h2]
      have := ih (l.drop (wid l)).length (by rw [List.length_drop]; omega) (l.drop (wid l)) rfl
      rw [List.length_drop] at this
      simp only [List.length_cons]
      omega

/-- Behind k octets d is read. -/
def RI (l : List UInt8) (k : Nat) (d : List UInt8) : Prop :=
  k ≤ l.length ∧ d.length ≤ k ∧ readD l = (d ++ (readD (l.drop k)).1, k + (readD (l.drop k)).2)

theorem RI.start (l : List UInt8) : RI l 0 [] := ⟨Nat.zero_le _, Nat.le_refl _, by simp⟩

theorem RI.step {l : List UInt8} {k : Nat} {d : List UInt8} (h : RI l k d) (hk : k < l.length) (hw : wid (l.drop k) ≠ 0) : RI l (k + wid (l.drop k)) (d ++ [l[k]]) := by
  obtain ⟨_, h2, h3⟩ := h
  have hne : l.drop k ≠ [] := fun e => by have := congrArg List.length e; simp at this; omega
  have hp : 0 < (l.drop k).length := List.length_pos_iff.2 hne
  have hle := wid_le _ hne
  rw [List.length_drop] at hle
  refine ⟨by omega, by simp; omega, ?_⟩
  rw [h3, readD_go hp hw, List.drop_drop]
  simp [Nat.add_assoc]

theorem RI.fin {l : List UInt8} {k : Nat} {d : List UInt8} (h : RI l k d) (hs : k = l.length ∨ wid (l.drop k) = 0) : readD l = (d, k) := by
  have : readD (l.drop k) = ([], 0) := readD_stop (by
    rcases hs with e | e
    · left; rw [e]; simp
    · exact .inr e)
  rw [h.2.2, this]
  simp

/-- Octets in new memory, and a number. -/
def GotR (w : World) (l : List UInt8) (n : Nat) (e : Ending) (w' : World) : Prop :=
  ∃ A c, e = .returned (.tuple #[.slice A l.length c, .int .i64 (n : Int)]) ∧ Rd w' w'.heap.size A l c ∧ Below w.heap.size w w'

set_option maxHeartbeats 1000000 in
theorem read_any (A : Option Addr) (l : List UInt8) (n c : Nat) (w : World) (hn : n = l.length) (hr : Rd w w.heap.size A l c) (hl : n ≤ 5000) :
    Calls Tryd.prog 23 #[.slice A n c] w (GotR w (readD l).1 (readD l).2) := by
  have HN := keepd hn
  have HR := keepd hr
  have b1 : n ≤ c := by have := hr.1; omega
  have b2 : c ≤ maxLen := hr.2.1
  unfold maxLen at b2
  clear hr hn
  go_enter Tryd.func23, Tryd.ntmps23
  go_wp2_with fail
  go_loopw [4, 5] (fun s i wr => ∃ (k : Nat) (d : List UInt8) (Av : Option Addr) (cv : Nat), k ≤ n ∧ i = .int .i64 k ∧ s = .slice Av d.length cv ∧ Hid (RI l k d) ∧ Hid (Own wr w.heap.size (.slice Av d.length cv) d) ∧ Hid (Below w.heap.size w wr))
    (fun _ i _ => n - (intOf i).toNat)
  case atStart => exact ⟨0, [], none, 0, by omega, rfl, rfl, RI.start l, Own.nil w _, Below.refl _ _⟩
  case round =>
    obtain ⟨k, d, Av, cv, hk, rfl, rfl, J1, J2, J3⟩ := hrel
    by_cases hlt : k < n
    · have hkl : k < l.length := by rw [← HN.out]; omega
      obtain ⟨A2, hA2⟩ : ∃ A2, A2 = (if c = k then A else A.map (·.add k)) := ⟨_, rfl⟩
      have hsl := slice_from A n c k hk
      have hd := HR.out.drop k (by rw [← HN.out]; exact hk)
      rw [← hA2] at hsl hd
      have HD := keepd (hd.at_ J3.out)
      have HLd : Hid (n - k = (l.drop k).length) := by show _ = _; rw [List.length_drop, ← HN.out]
      have hne : l.drop k ≠ [] := fun e => by have := congrArg List.length e; simp at this; omega
      have HNE := keepd hne
      have hwl := wid_le _ hne
      rw [← HLd.out] at hwl
      have dk : d.length ≤ k := J1.out.2.1
      clear hA2 hd hne
      by_cases hw : wid (l.drop k) = 0
      · have HW := keepd hw
        have HC := fun (w' : World) (hr : Rd w' w'.heap.size A2 (l.drop k) (c - k)) => width_any A2 (l.drop k) (n - k) (c - k) w'.heap.size w' HLd.out hr HNE.out
        rw [hw] at HC
        clear hw hwl
        go_wp2_with (go_at_call 35; with_reducible refine (HC _ HD.out).mono ?_; rintro e w1 ⟨rfl, rfl⟩)
        go_ret2
        exact ⟨Av, cv, by rw [J1.out.fin (.inr HW.out)]; rfl, by rw [J1.out.fin (.inr HW.out)]; exact J2.out.rdOf, J3.out⟩
      · obtain ⟨m, hm⟩ : ∃ m, wid (l.drop k) = m := ⟨_, rfl⟩
        have HC := fun (w' : World) (hr : Rd w' w'.heap.size A2 (l.drop k) (c - k)) => width_any A2 (l.drop k) (n - k) (c - k) w'.heap.size w' HLd.out hr HNE.out
        have HS := keepd (J1.out.step hkl hw)
        rw [hm] at HC HS hw hwl
        obtain ⟨b', off', hA', hbl, hce⟩ := (HR.out.at_ J3.out).form hkl
        subst hA'
        obtain ⟨u, hu⟩ : ∃ u, l[k] = u := ⟨_, rfl⟩
        rw [hu] at hce HS
        have HL1 : Hid ((d ++ [u]).length = d.length + 1) := by show _ = _; simp
        have i1 : (0 : Int) ≤ (k : Int) := by omega
        have i2 : (k : Int) < (n : Int) := by omega
        have i3 : ¬ (m : Int) = 0 := by omega
        clear hm hu
        go_wp2_with (first | (go_at_call 35; with_reducible refine (HC _ HD.out).mono ?_; rintro e w1 ⟨rfl, rfl⟩) | (at_builtin; refine wpList_app _ rfl (.tmp 17) (.tmp 22) rfl w.heap.size _ d rfl (J2.out.alloc _) (wr.heap.size + 1) (some ⟨wr.heap.size, 0, none⟩) 1 1 [u] rfl rfl (one_rdb wr u) ?_ ?_ ?_))
        · simp
          omega
        · have := J3.out.size
          simp
          omega
        · intro vb wb ho hg hat
          have hb5 := app_below (bAlloc J3.out _) (J2.out.alloc _) hg
          have HB5 := keepd hb5
          have HOb := keepd ho
          obtain ⟨Bv, dv, hv2, hrv2⟩ := HOb.out.rd
          subst hv2
          clear ho hg hat hb5 hrv2
          go_wp2
          go_roundw
          case rel => exact ⟨k + m, d ++ [u], Bv, dv, by omega, by go_num, rfl, HS, HOb, HB5⟩
          case measure => simp [intOf]; omega
    · obtain rfl : n = k := by omega
      go_wp2
      go_ret2
      exact ⟨Av, cv, by rw [J1.out.fin (.inl HN.out)]; rfl, by rw [J1.out.fin (.inl HN.out)]; exact J2.out.rdOf, J3.out⟩

end Go.Proofs.YtagfoidljficoaaDoor
