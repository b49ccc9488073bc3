/-
  The contract of the document's Read, by recursion.
-/
import Derived.Test.YtoiiiakhgmledaaT9
namespace Go.Proofs.Ytoiiiakhgmledaa
open Go.RowKit

/-- The document's Read has answered: the data, and a list as long as what is left. -/
def GotRR (w : World) (n : Nat) (p : List UInt8 × Nat) (e : Ending) (w' : World) : Prop :=
  ∃ A1 c1 A2 c2, e = .returned (.tuple #[.slice A1 p.1.length c1, .slice A2 (n - p.2) c2]) ∧ Rd w' w'.heap.size A1 p.1 c1 ∧ Below w.heap.size w w'

theorem GotRR.fin {w : World} {n : Nat} {l : List UInt8} {A : Option Addr} {c : Nat} (h : readD l = ([], 0)) : GotRR w n (readD l) (.returned (.tuple #[.slice none 0 0, .slice A n c])) w := by
  rw [h]
  exact ⟨none, 0, A, c, rfl, Rd.nil _ _, Below.refl _ _⟩

theorem one_own (w : World) (u : UInt8) (base : Nat) (h : base ≤ w.heap.size) : Own (w.alloc (.cells #[.int .u8 (u.toNat : Int)] 5)) base (.slice (some ⟨w.heap.size, 0, none⟩) 1 1) [u] :=
  ⟨by simp, .inr ⟨w.heap.size, 1, _, rfl, h, heap_alloc_new w _, Nat.le_refl _, by unfold maxLen; omega, by simp, by simp [bv]⟩⟩

theorem GotRR.go {w w' : World} {n m T r dl c c4 : Nat} {l d : List UInt8} {u : UInt8} {A A4 : Option Addr} (h : readD l = (u :: d, T + r)) (hdl : d.length = dl) (hr : Rd w' w'.heap.size A (u :: d) c) (hb : Below w.heap.size w w') (hm : m = n - T - r) :
    GotRR w n (readD l) (.returned (.tuple #[.slice A (dl + 1) c, .slice A4 m c4])) w' := by
  rw [h]
  refine ⟨A, c, A4, c4, ?_, hr, hb⟩
  rw [List.length_cons, hdl, hm, Nat.sub_sub]

theorem grown_one {w w' : World} {o : Obj} (hg : (w.alloc o).grownBy w' (Value.ownBlock (.slice (some ⟨w.heap.size, 0, none⟩) 1 1))) : Below w.heap.size w w' := by
  have h := (bAlloc (Below.refl w.heap.size w) o)
  exact ⟨hg.os.trans h.os, hg.tape.trans h.tape, hg.output.trans h.output, Nat.le_trans h.size hg.size, fun k hk => (hg.block k (by simp; omega) (by simp [Value.ownBlock]; omega)).trans (h.block k hk)⟩

set_option maxRecDepth 100000 in
set_option maxHeartbeats 4000000 in
theorem refRead_any (N : Nat) : ∀ (A : Option Addr) (l : List UInt8) (n c : Nat) (w : World), n ≤ N → n = l.length → Rd w w.heap.size A l c → n ≤ 1000 → Calls Try.prog 11 #[.slice A n c] w (GotRR w n (readD l)) := by
  induction N with
  | zero =>
    intro A l n c w hN hn hr _
    obtain rfl : n = 0 := by omega
    have hl : l = [] := List.length_eq_zero_iff.1 hn.symm
    subst hl
    clear hn hr
    go_enter Try.func11, Try.ntmps11
    go_wp2
    go_ret2
    exact GotRR.fin readD_nil
  | succ N ih =>
    intro A l n c w hN hn hr h1000
    have HN := keepd hn
    have HR := keepd hr
    have b1 : n ≤ c := by have := hr.1; omega
    have b2 : c ≤ maxLen := hr.2.1
    unfold maxLen at b2
    clear hr hn
    by_cases hl : l = []
    · subst hl
      have hn0 : n = 0 := HN.out
      subst hn0
      go_enter Try.func11, Try.ntmps11
      go_wp2
      go_ret2
      exact GotRR.fin readD_nil
    · have hp : 0 < l.length := List.length_pos_iff.2 hl
      have p1 : 1 ≤ n := by rw [HN.out]; omega
      have hw := wid_le l hl
      rw [← HN.out] at hw
      obtain ⟨b, off, rfl, hbl, hc⟩ := HR.out.form hp
      rw [Nat.add_zero] at hc
      have H0 := keepd (List.getElem?_eq_getElem hp)
      have hi0 : ((n : Int) == 0) = false := by rw [beq_eq_false_iff_ne]; omega
      have HIH := keepd ih
      clear ih hl
      by_cases h1 : 1 < n
      · have h1' : 1 < l.length := by rw [← HN.out]; exact h1
        obtain ⟨b', off', hA', _, hc'⟩ := HR.out.form h1'
        cases hA'
        have H1 := keepd (List.getElem?_eq_getElem h1')
        obtain ⟨u, hu⟩ : ∃ u, l[0] = u := ⟨_, rfl⟩
        obtain ⟨v, hv⟩ : ∃ v, l[1] = v := ⟨_, rfl⟩
        rw [hu] at hc H0
        rw [hv] at hc' H1
        have hi1 : ((n : Int) == 1) = false := by rw [beq_eq_false_iff_ne]; omega
        have hi2 : (1 : Int) < (n : Int) := by omega
        have HU := keepd hu
        clear hu hv h1'
        by_cases e1 : u = 255
        · subst e1
          rw [show ((255 : UInt8).toNat : Int) = 255 from rfl] at hc
          by_cases e2 : v = 255
          · subst e2
            rw [show ((255 : UInt8).toNat : Int) = 255 from rfl] at hc'
            have HW := keepd (wid_two H0.out (by rw [H1.out]; rfl))
            clear hw
            obtain ⟨A2, hA2⟩ : ∃ A2, A2 = (if c = 2 then some ⟨b, off, none⟩ else (some ⟨b, off, none⟩ : Option Addr).map (·.add 2)) := ⟨_, rfl⟩
            have hsl := slice_from (some ⟨b, off, none⟩) n c 2 (by omega)
            have hd := HR.out.drop 2 (by rw [← HN.out]; omega)
            rw [← hA2] at hsl hd
            rw [show ((2 : Nat) : Int) = 2 from rfl] at hsl
            have X := HIH.out A2 (l.drop 2) (n - 2) (c - 2) w (by omega) (by rw [List.length_drop, ← HN.out]) hd (by omega)
            clear hA2 hd
            go_enter Try.func11, Try.ntmps11
            go_wp2_with fail
            with_reducible refine X.mono ?_
            rintro e w1 ⟨A3, c3, A4, c4, rfl, hr3, hb3⟩
            obtain ⟨d, hd⟩ : ∃ d, (readD (l.drop 2)).1 = d := ⟨_, rfl⟩
            obtain ⟨r, hrr⟩ : ∃ r, (readD (l.drop 2)).2 = r := ⟨_, rfl⟩
            obtain ⟨dl, hdl⟩ : ∃ dl, d.length = dl := ⟨_, rfl⟩
            have b5 : dl ≤ 1000 := by
              have h := readD_le (l.drop 2)
              rw [hd, hrr, hdl, List.length_drop, ← HN.out] at h
              omega
            have HE : Hid (readD l = (255 :: d, 2 + r)) := by
              show _ = _
              rw [readD_go hp (by rw [HW.out]; decide), HW.out, hd, hrr, HU.out]
            rw [hd] at hr3
            rw [hd, hrr, hdl]
            have HDL := keepd hdl
            have R3 := keepd hr3
            have H3 := keepd hb3
            have hc1 := (hb3.cell (p := ⟨b, off, none⟩) hbl).trans hc
            clear hd hrr hdl hr3 hb3 X hsl
            go_wp2_with (at_builtin; refine wpList_app _ rfl (.tmp 65) (.tmp 66) rfl w1.heap.size _ [255] rfl (one_own w1 255 _ (Nat.le_refl _)) w1.heap.size A3 dl c3 d rfl HDL.out.symm (R3.out.alloc (Nat.le_refl _) (Nat.le_refl _) _) ?_ ?_ ?_)
            · rw [HDL.out]; simp; omega
            · simp
            intro va wa ho hg hat
            have HB := keepd (bCall H3.out (grown_one hg))
            have ho' : Own wa w1.heap.size va (255 :: d) := ho
            obtain ⟨A5, c5, hv5, hr5⟩ := ho'.rd
            rw [List.length_cons, HDL.out] at hv5
            subst hv5
            have R5 := keepd hr5
            clear ho ho' hg hat hr5
            go_wp2
            go_ret2
            exact GotRR.go HE.out HDL.out R5.out HB.out (by omega)
          · have g1 : ¬ (v.toNat : Int) = 255 := fun hh => e2 (by rw [← u8_eq, hh]; rfl)
            have HW := keepd (wid_end H0.out (by rw [H1.out, beq_eq_false_iff_ne]; intro e; injection e with e; exact e2 e))
            generalize (v.toNat : Int) = z at hc' g1
            have g3 : (z != 255) = true := by rw [bne_iff_ne]; exact g1
            clear hw e2 H1
            go_enter Try.func11, Try.ntmps11
            go_wp2
            go_ret2
            exact GotRR.fin (readD_stop (.inr HW.out))
        · by_cases e2 : u = 13
          · subst e2
            rw [show ((13 : UInt8).toNat : Int) = 13 from rfl] at hc
            clear e1
            by_cases e3 : v = 10
            · subst e3
              rw [show ((10 : UInt8).toNat : Int) = 10 from rfl] at hc'
              have HW := keepd (wid_ten H0.out (by rw [H1.out]; rfl))
              clear hw
              obtain ⟨A2, hA2⟩ : ∃ A2, A2 = (if c = 2 then some ⟨b, off, none⟩ else (some ⟨b, off, none⟩ : Option Addr).map (·.add 2)) := ⟨_, rfl⟩
              have hsl := slice_from (some ⟨b, off, none⟩) n c 2 (by omega)
              have hd := HR.out.drop 2 (by rw [← HN.out]; omega)
              rw [← hA2] at hsl hd
              rw [show ((2 : Nat) : Int) = 2 from rfl] at hsl
              have X := HIH.out A2 (l.drop 2) (n - 2) (c - 2) w (by omega) (by rw [List.length_drop, ← HN.out]) hd (by omega)
              clear hA2 hd
              go_enter Try.func11, Try.ntmps11
              go_wp2_with fail
              with_reducible refine X.mono ?_
              rintro e w1 ⟨A3, c3, A4, c4, rfl, hr3, hb3⟩
              obtain ⟨d, hd⟩ : ∃ d, (readD (l.drop 2)).1 = d := ⟨_, rfl⟩
              obtain ⟨r, hrr⟩ : ∃ r, (readD (l.drop 2)).2 = r := ⟨_, rfl⟩
              obtain ⟨dl, hdl⟩ : ∃ dl, d.length = dl := ⟨_, rfl⟩
              have b5 : dl ≤ 1000 := by
                have h := readD_le (l.drop 2)
                rw [hd, hrr, hdl, List.length_drop, ← HN.out] at h
                omega
              have HE : Hid (readD l = (13 :: d, 2 + r)) := by
                show _ = _
                rw [readD_go hp (by rw [HW.out]; decide), HW.out, hd, hrr, HU.out]
              rw [hd] at hr3
              rw [hd, hrr, hdl]
              have HDL := keepd hdl
              have R3 := keepd hr3
              have H3 := keepd hb3
              have hc1 := (hb3.cell (p := ⟨b, off, none⟩) hbl).trans hc
              clear hd hrr hdl hr3 hb3 X hsl
              go_wp2_with (at_builtin; refine wpList_app _ rfl (.tmp 65) (.tmp 66) rfl w1.heap.size _ [13] rfl (one_own w1 13 _ (Nat.le_refl _)) w1.heap.size A3 dl c3 d rfl HDL.out.symm (R3.out.alloc (Nat.le_refl _) (Nat.le_refl _) _) ?_ ?_ ?_)
              · rw [HDL.out]; simp; omega
              · simp
              intro va wa ho hg hat
              have HB := keepd (bCall H3.out (grown_one hg))
              have ho' : Own wa w1.heap.size va (13 :: d) := ho
              obtain ⟨A5, c5, hv5, hr5⟩ := ho'.rd
              rw [List.length_cons, HDL.out] at hv5
              subst hv5
              have R5 := keepd hr5
              clear ho ho' hg hat hr5
              go_wp2
              go_ret2
              exact GotRR.go HE.out HDL.out R5.out HB.out (by omega)
            · by_cases e4 : v = 0
              · subst e4
                rw [show ((0 : UInt8).toNat : Int) = 0 from rfl] at hc'
                have HW := keepd (wid_nul H0.out (by rw [H1.out]; rfl))
                clear hw e3
                obtain ⟨A2, hA2⟩ : ∃ A2, A2 = (if c = 2 then some ⟨b, off, none⟩ else (some ⟨b, off, none⟩ : Option Addr).map (·.add 2)) := ⟨_, rfl⟩
                have hsl := slice_from (some ⟨b, off, none⟩) n c 2 (by omega)
                have hd := HR.out.drop 2 (by rw [← HN.out]; omega)
                rw [← hA2] at hsl hd
                rw [show ((2 : Nat) : Int) = 2 from rfl] at hsl
                have X := HIH.out A2 (l.drop 2) (n - 2) (c - 2) w (by omega) (by rw [List.length_drop, ← HN.out]) hd (by omega)
                clear hA2 hd
                go_enter Try.func11, Try.ntmps11
                go_wp2_with fail
                with_reducible refine X.mono ?_
                rintro e w1 ⟨A3, c3, A4, c4, rfl, hr3, hb3⟩
                obtain ⟨d, hd⟩ : ∃ d, (readD (l.drop 2)).1 = d := ⟨_, rfl⟩
                obtain ⟨r, hrr⟩ : ∃ r, (readD (l.drop 2)).2 = r := ⟨_, rfl⟩
                obtain ⟨dl, hdl⟩ : ∃ dl, d.length = dl := ⟨_, rfl⟩
                have b5 : dl ≤ 1000 := by
                  have h := readD_le (l.drop 2)
                  rw [hd, hrr, hdl, List.length_drop, ← HN.out] at h
                  omega
                have HE : Hid (readD l = (13 :: d, 2 + r)) := by
                  show _ = _
                  rw [readD_go hp (by rw [HW.out]; decide), HW.out, hd, hrr, HU.out]
                rw [hd] at hr3
                rw [hd, hrr, hdl]
                have HDL := keepd hdl
                have R3 := keepd hr3
                have H3 := keepd hb3
                have hc1 := (hb3.cell (p := ⟨b, off, none⟩) hbl).trans hc
                clear hd hrr hdl hr3 hb3 X hsl
                go_wp2_with (at_builtin; refine wpList_app _ rfl (.tmp 65) (.tmp 66) rfl w1.heap.size _ [13] rfl (one_own w1 13 _ (Nat.le_refl _)) w1.heap.size A3 dl c3 d rfl HDL.out.symm (R3.out.alloc (Nat.le_refl _) (Nat.le_refl _) _) ?_ ?_ ?_)
                · rw [HDL.out]; simp; omega
                · simp
                intro va wa ho hg hat
                have HB := keepd (bCall H3.out (grown_one hg))
                have ho' : Own wa w1.heap.size va (13 :: d) := ho
                obtain ⟨A5, c5, hv5, hr5⟩ := ho'.rd
                rw [List.length_cons, HDL.out] at hv5
                subst hv5
                have R5 := keepd hr5
                clear ho ho' hg hat hr5
                go_wp2
                go_ret2
                exact GotRR.go HE.out HDL.out R5.out HB.out (by omega)
              · have g1 : ¬ (v.toNat : Int) = 10 := fun hh => e3 (by rw [← u8_eq, hh]; rfl)
                have g2 : ¬ (v.toNat : Int) = 0 := fun hh => e4 (by rw [← u8_eq, hh]; rfl)
                have HW := keepd (wid_cr H0.out (by rw [H1.out, beq_eq_false_iff_ne]; intro e; injection e with e; exact e3 e) (by rw [H1.out, beq_eq_false_iff_ne]; intro e; injection e with e; exact e4 e))
                generalize (v.toNat : Int) = z at hc' g1 g2
                have g3 : (z == 10) = false := by rw [beq_eq_false_iff_ne]; exact g1
                have g4 : (z == 0) = false := by rw [beq_eq_false_iff_ne]; exact g2
                clear hw e3 e4 H1 g1 g2
                obtain ⟨A2, hA2⟩ : ∃ A2, A2 = (if c = 1 then some ⟨b, off, none⟩ else (some ⟨b, off, none⟩ : Option Addr).map (·.add 1)) := ⟨_, rfl⟩
                have hsl := slice_from (some ⟨b, off, none⟩) n c 1 (by omega)
                have hd := HR.out.drop 1 (by rw [← HN.out]; omega)
                rw [← hA2] at hsl hd
                rw [show ((1 : Nat) : Int) = 1 from rfl] at hsl
                have X := HIH.out A2 (l.drop 1) (n - 1) (c - 1) w (by omega) (by rw [List.length_drop, ← HN.out]) hd (by omega)
                clear hA2 hd
                go_enter Try.func11, Try.ntmps11
                go_wp2_with fail
                with_reducible refine X.mono ?_
                rintro e w1 ⟨A3, c3, A4, c4, rfl, hr3, hb3⟩
                obtain ⟨d, hd⟩ : ∃ d, (readD (l.drop 1)).1 = d := ⟨_, rfl⟩
                obtain ⟨r, hrr⟩ : ∃ r, (readD (l.drop 1)).2 = r := ⟨_, rfl⟩
                obtain ⟨dl, hdl⟩ : ∃ dl, d.length = dl := ⟨_, rfl⟩
                have b5 : dl ≤ 1000 := by
                  have h := readD_le (l.drop 1)
                  rw [hd, hrr, hdl, List.length_drop, ← HN.out] at h
                  omega
                have HE : Hid (readD l = (13 :: d, 1 + r)) := by
                  show _ = _
                  rw [readD_go hp (by rw [HW.out]; decide), HW.out, hd, hrr, HU.out]
                rw [hd] at hr3
                rw [hd, hrr, hdl]
                have HDL := keepd hdl
                have R3 := keepd hr3
                have H3 := keepd hb3
                have hc1 := (hb3.cell (p := ⟨b, off, none⟩) hbl).trans hc
                clear hd hrr hdl hr3 hb3 X hsl
                go_wp2_with (at_builtin; refine wpList_app _ rfl (.tmp 65) (.tmp 66) rfl w1.heap.size _ [13] rfl (one_own w1 13 _ (Nat.le_refl _)) w1.heap.size A3 dl c3 d rfl HDL.out.symm (R3.out.alloc (Nat.le_refl _) (Nat.le_refl _) _) ?_ ?_ ?_)
                · rw [HDL.out]; simp; omega
                · simp
                intro va wa ho hg hat
                have HB := keepd (bCall H3.out (grown_one hg))
                have ho' : Own wa w1.heap.size va (13 :: d) := ho
                obtain ⟨A5, c5, hv5, hr5⟩ := ho'.rd
                rw [List.length_cons, HDL.out] at hv5
                subst hv5
                have R5 := keepd hr5
                clear ho ho' hg hat hr5
                go_wp2
                go_ret2
                exact GotRR.go HE.out HDL.out R5.out HB.out (by omega)
          · have g1 : ¬ (u.toNat : Int) = 255 := fun hh => e1 (by rw [← u8_eq, hh]; rfl)
            have g2 : ¬ (u.toNat : Int) = 13 := fun hh => e2 (by rw [← u8_eq, hh]; rfl)
            have HW := keepd (wid_other (l := l) (by rw [H0.out]; intro e; injection e with e; exact e1 e) (by rw [H0.out]; intro e; injection e with e; exact e2 e))
            have g3 : ((u.toNat : Int) == 255) = false := by rw [beq_eq_false_iff_ne]; exact g1
            have g4 : ((u.toNat : Int) == 13) = false := by rw [beq_eq_false_iff_ne]; exact g2
            clear hw e1 e2 H1 hc' g1 g2
            obtain ⟨A2, hA2⟩ : ∃ A2, A2 = (if c = 1 then some ⟨b, off, none⟩ else (some ⟨b, off, none⟩ : Option Addr).map (·.add 1)) := ⟨_, rfl⟩
            have hsl := slice_from (some ⟨b, off, none⟩) n c 1 (by omega)
            have hd := HR.out.drop 1 (by rw [← HN.out]; omega)
            rw [← hA2] at hsl hd
            rw [show ((1 : Nat) : Int) = 1 from rfl] at hsl
            have X := HIH.out A2 (l.drop 1) (n - 1) (c - 1) w (by omega) (by rw [List.length_drop, ← HN.out]) hd (by omega)
            clear hA2 hd
            go_enter Try.func11, Try.ntmps11
            go_wp2_with fail
            with_reducible refine X.mono ?_
            rintro e w1 ⟨A3, c3, A4, c4, rfl, hr3, hb3⟩
            obtain ⟨d, hd⟩ : ∃ d, (readD (l.drop 1)).1 = d := ⟨_, rfl⟩
            obtain ⟨r, hrr⟩ : ∃ r, (readD (l.drop 1)).2 = r := ⟨_, rfl⟩
            obtain ⟨dl, hdl⟩ : ∃ dl, d.length = dl := ⟨_, rfl⟩
            have b5 : dl ≤ 1000 := by
              have h := readD_le (l.drop 1)
              rw [hd, hrr, hdl, List.length_drop, ← HN.out] at h
              omega
            have HE : Hid (readD l = (u :: d, 1 + r)) := by
              show _ = _
              rw [readD_go hp (by rw [HW.out]; decide), HW.out, hd, hrr, HU.out]
            rw [hd] at hr3
            rw [hd, hrr, hdl]
            have HDL := keepd hdl
            have R3 := keepd hr3
            have H3 := keepd hb3
            have hc1 := (hb3.cell (p := ⟨b, off, none⟩) hbl).trans hc
            clear hd hrr hdl hr3 hb3 X hsl
            go_wp2_with (at_builtin; refine wpList_app _ rfl (.tmp 65) (.tmp 66) rfl w1.heap.size _ [u] rfl (one_own w1 u _ (Nat.le_refl _)) w1.heap.size A3 dl c3 d rfl HDL.out.symm (R3.out.alloc (Nat.le_refl _) (Nat.le_refl _) _) ?_ ?_ ?_)
            · rw [HDL.out]; simp; omega
            · simp
            intro va wa ho hg hat
            have HB := keepd (bCall H3.out (grown_one hg))
            have ho' : Own wa w1.heap.size va (u :: d) := ho
            obtain ⟨A5, c5, hv5, hr5⟩ := ho'.rd
            rw [List.length_cons, HDL.out] at hv5
            subst hv5
            have R5 := keepd hr5
            clear ho ho' hg hat hr5
            go_wp2
            go_ret2
            exact GotRR.go HE.out HDL.out R5.out HB.out (by omega)
      · obtain rfl : n = 1 := by omega
        have hq : l[1]? = none := List.getElem?_eq_none (by rw [← HN.out]; omega)
        obtain ⟨u, hu⟩ : ∃ u, l[0] = u := ⟨_, rfl⟩
        rw [hu] at hc H0
        have HU := keepd hu
        have HQ := keepd hq
        clear hu hq h1 hi0
        by_cases e1 : u = 255
        · subst e1
          rw [show ((255 : UInt8).toNat : Int) = 255 from rfl] at hc
          have HW := keepd (wid_end H0.out (by rw [HQ.out]; rfl))
          clear hw
          go_enter Try.func11, Try.ntmps11
          go_wp2
          go_ret2
          exact GotRR.fin (readD_stop (.inr HW.out))
        · by_cases e2 : u = 13
          · subst e2
            rw [show ((13 : UInt8).toNat : Int) = 13 from rfl] at hc
            have HW := keepd (wid_cr H0.out (by rw [HQ.out]; rfl) (by rw [HQ.out]; rfl))
            clear hw e1
            obtain ⟨A2, hA2⟩ : ∃ A2, A2 = (if c = 1 then some ⟨b, off, none⟩ else (some ⟨b, off, none⟩ : Option Addr).map (·.add 1)) := ⟨_, rfl⟩
            have hsl := slice_from (some ⟨b, off, none⟩) 1 c 1 (by omega)
            have hd := HR.out.drop 1 (by rw [← HN.out]; omega)
            rw [← hA2] at hsl hd
            rw [show ((1 : Nat) : Int) = 1 from rfl] at hsl
            have X := HIH.out A2 (l.drop 1) (1 - 1) (c - 1) w (by omega) (by rw [List.length_drop, ← HN.out]) hd (by omega)
            rw [Nat.sub_self] at X hsl
            clear hA2 hd
            go_enter Try.func11, Try.ntmps11
            go_wp2_with fail
            with_reducible refine X.mono ?_
            rintro e w1 ⟨A3, c3, A4, c4, rfl, hr3, hb3⟩
            obtain ⟨d, hd⟩ : ∃ d, (readD (l.drop 1)).1 = d := ⟨_, rfl⟩
            obtain ⟨r, hrr⟩ : ∃ r, (readD (l.drop 1)).2 = r := ⟨_, rfl⟩
            obtain ⟨dl, hdl⟩ : ∃ dl, d.length = dl := ⟨_, rfl⟩
            have b5 : dl ≤ 1000 := by
              have h := readD_le (l.drop 1)
              rw [hd, hrr, hdl, List.length_drop, ← HN.out] at h
              omega
            have HE : Hid (readD l = (13 :: d, 1 + r)) := by
              show _ = _
              rw [readD_go hp (by rw [HW.out]; decide), HW.out, hd, hrr, HU.out]
            rw [hd] at hr3
            rw [hd, hrr, hdl]
            have HDL := keepd hdl
            have R3 := keepd hr3
            have H3 := keepd hb3
            have hc1 := (hb3.cell (p := ⟨b, off, none⟩) hbl).trans hc
            clear hd hrr hdl hr3 hb3 X hsl
            go_wp2_with (at_builtin; refine wpList_app _ rfl (.tmp 65) (.tmp 66) rfl w1.heap.size _ [13] rfl (one_own w1 13 _ (Nat.le_refl _)) w1.heap.size A3 dl c3 d rfl HDL.out.symm (R3.out.alloc (Nat.le_refl _) (Nat.le_refl _) _) ?_ ?_ ?_)
            · rw [HDL.out]; simp; omega
            · simp
            intro va wa ho hg hat
            have HB := keepd (bCall H3.out (grown_one hg))
            have ho' : Own wa w1.heap.size va (13 :: d) := ho
            obtain ⟨A5, c5, hv5, hr5⟩ := ho'.rd
            rw [List.length_cons, HDL.out] at hv5
            subst hv5
            have R5 := keepd hr5
            clear ho ho' hg hat hr5
            go_wp2
            go_ret2
            exact GotRR.go HE.out HDL.out R5.out HB.out (by omega)
          · have g1 : ¬ (u.toNat : Int) = 255 := fun hh => e1 (by rw [← u8_eq, hh]; rfl)
            have g2 : ¬ (u.toNat : Int) = 13 := fun hh => e2 (by rw [← u8_eq, hh]; rfl)
            have HW := keepd (wid_other (l := l) (by rw [H0.out]; intro e; injection e with e; exact e1 e) (by rw [H0.out]; intro e; injection e with e; exact e2 e))
            have g3 : ((u.toNat : Int) == 255) = false := by rw [beq_eq_false_iff_ne]; exact g1
            have g4 : ((u.toNat : Int) == 13) = false := by rw [beq_eq_false_iff_ne]; exact g2
            clear hw e1 e2 g1 g2
            obtain ⟨A2, hA2⟩ : ∃ A2, A2 = (if c = 1 then some ⟨b, off, none⟩ else (some ⟨b, off, none⟩ : Option Addr).map (·.add 1)) := ⟨_, rfl⟩
            have hsl := slice_from (some ⟨b, off, none⟩) 1 c 1 (by omega)
            have hd := HR.out.drop 1 (by rw [← HN.out]; omega)
            rw [← hA2] at hsl hd
            rw [show ((1 : Nat) : Int) = 1 from rfl] at hsl
            have X := HIH.out A2 (l.drop 1) (1 - 1) (c - 1) w (by omega) (by rw [List.length_drop, ← HN.out]) hd (by omega)
            rw [Nat.sub_self] at X hsl
            clear hA2 hd
            go_enter Try.func11, Try.ntmps11
            go_wp2_with fail
            with_reducible refine X.mono ?_
            rintro e w1 ⟨A3, c3, A4, c4, rfl, hr3, hb3⟩
            obtain ⟨d, hd⟩ : ∃ d, (readD (l.drop 1)).1 = d := ⟨_, rfl⟩
            obtain ⟨r, hrr⟩ : ∃ r, (readD (l.drop 1)).2 = r := ⟨_, rfl⟩
            obtain ⟨dl, hdl⟩ : ∃ dl, d.length = dl := ⟨_, rfl⟩
            have b5 : dl ≤ 1000 := by
              have h := readD_le (l.drop 1)
              rw [hd, hrr, hdl, List.length_drop, ← HN.out] at h
              omega
            have HE : Hid (readD l = (u :: d, 1 + r)) := by
              show _ = _
              rw [readD_go hp (by rw [HW.out]; decide), HW.out, hd, hrr, HU.out]
            rw [hd] at hr3
            rw [hd, hrr, hdl]
            have HDL := keepd hdl
            have R3 := keepd hr3
            have H3 := keepd hb3
            have hc1 := (hb3.cell (p := ⟨b, off, none⟩) hbl).trans hc
            clear hd hrr hdl hr3 hb3 X hsl
            go_wp2_with (at_builtin; refine wpList_app _ rfl (.tmp 65) (.tmp 66) rfl w1.heap.size _ [u] rfl (one_own w1 u _ (Nat.le_refl _)) w1.heap.size A3 dl c3 d rfl HDL.out.symm (R3.out.alloc (Nat.le_refl _) (Nat.le_refl _) _) ?_ ?_ ?_)
            · rw [HDL.out]; simp; omega
            · simp
            intro va wa ho hg hat
            have HB := keepd (bCall H3.out (grown_one hg))
            have ho' : Own wa w1.heap.size va (u :: d) := ho
            obtain ⟨A5, c5, hv5, hr5⟩ := ho'.rd
            rw [List.length_cons, HDL.out] at hv5
            subst hv5
            have R5 := keepd hr5
            clear ho ho' hg hat hr5
            go_wp2
            go_ret2
            exact GotRR.go HE.out HDL.out R5.out HB.out (by omega)

end Go.Proofs.Ytoiiiakhgmledaa
