/-
  Contracts over the document's answers: Data, and how one item lies (lies). No conditions beyond those each theorem states.
-/
import Derived.Test.YtagfoidljficoaaDoorJ1
import Derived.Test.YtagfoidljficoaaDoorT9
namespace Go.Proofs.YtagfoidljficoaaDoor
open Go.RowKit

set_option maxHeartbeats 1000000 in
theorem rdata_any (A : Option Addr) (l : List UInt8) (n c : Nat) (w : World) (hn : n = l.length) (hl : n ≤ 1000) (hr : Rd w w.heap.size A l c) : Calls Tryd.prog 19 #[.slice A n c] w (GotData w l) := by
  have HR := keepd hr
  have HN := keepd hn
  have c1 := hr.1
  have c2 := hr.2.1
  unfold maxLen at c2
  rw [← hn] at c1
  clear hr hn
  go_enter Tryd.func19, Tryd.ntmps19
  go_wp2_with fail
  go_loopw [3, 4] (fun vo vi wr => ∃ k : Nat, k ≤ n ∧ vi = .int .i64 k ∧ Hid (OwnI wr w.heap.size vo (dataL (l.take k))) ∧ Hid (Below w.heap.size w wr)) (fun _ vi _ => n - (intOf vi).toNat)
  case atStart => exact ⟨0, by omega, rfl, OwnI.nil _ _, Below.refl _ _⟩
  case round =>
    obtain ⟨k, hk, rfl, HO, HB⟩ := hrel
    have hsz := HB.out.size
    by_cases hlt : k < n
    · have hkL : k < l.length := by rw [← HN.out]; exact hlt
      obtain ⟨b, off, hA, hbl, hcu⟩ := (HR.out.at_ HB.out).form hkL
      subst hA
      have HS : Hid (dataL (l.take (k + 1)) = dataL (l.take k) ++ [datum l[k]]) := by
        show _ = _
        unfold dataL
        rw [List.take_succ_eq_append_getElem hkL, List.map_append]
        rfl
      have HLn : Hid ((dataL (l.take k)).length + [datum l[k]].length ≤ 10000) := by show _ ≤ _; unfold dataL; rw [List.length_map, List.length_take]; simp only [List.length_cons, List.length_nil]; omega
      have hu0 : (0 : Int) ≤ (l[k].toNat : Int) := by omega
      have hu1 : (l[k].toNat : Int) ≤ 255 := by have := l[k].toNat_lt; omega
      have HR1 : Hid (RdI (wr.alloc (.cells #[.int .i64 1, .int .i64 (l[k].toNat : Int), .int .i64 0, .slice none 0 0] 29)) (some ⟨wr.heap.size, 0, none⟩) [datum l[k]] 1) := one_rdI wr (datum l[k]) (Rd.nil _ _)
      generalize l[k] = u at *
      go_wp2_with (at_builtin; refine wpList_appI _ rfl (.tmp 11) (.tmp 18) rfl w.heap.size _ (dataL (l.take k)) rfl (HO.out.alloc _) (some ⟨wr.heap.size, 0, none⟩) 1 1 [datum u] rfl rfl HR1.out HLn.out (by simp only [World.size_alloc]; omega) ?_; intro va w4 ho hg _)
      have HB4 := keepd ((bAlloc HB.out _).trans (ownI_grown (HO.out.alloc _) hg (by simp only [World.size_alloc]; omega)))
      have HO4 : Hid (OwnI w4 w.heap.size va (dataL (l.take (k + 1)))) := by
        show OwnI _ _ _ _
        rw [HS.out]
        exact ho
      clear ho hg hcu
      go_roundw
      case rel => exact ⟨k + 1, by omega, by go_num, HO4, HB4⟩
      case measure => simp [intOf]; omega
    · obtain rfl : k = n := by omega
      have HO2 : Hid (OwnI wr w.heap.size u3 (dataL l)) := by
        have := HO.out
        rw [List.take_of_length_le (by rw [← HN.out]; omega)] at this
        exact this
      obtain ⟨A', c', rfl, hr'⟩ := HO2.out.rd (fun x hx => by
        unfold dataL at hx
        obtain ⟨u, _, rfl⟩ := List.mem_map.1 hx
        exact Rd.nil _ _)
      have H1 := keepd hr'
      have HLd : Hid ((dataL l).length = l.length) := by show _ = _; unfold dataL; rw [List.length_map]
      rw [HLd.out]
      clear hr' HO HO2
      go_wp2
      go_ret
      exact ⟨A', c', rfl, H1.out, HB.out⟩

theorem three_own (w : World) (z : Int) (base : Nat) (h : base ≤ w.heap.size) (h0 : 0 ≤ z) (h1 : z ≤ 255) : Own (w.alloc (.cells #[.int .u8 255, .int .u8 250, .int .u8 z] 5)) base (.slice (some ⟨w.heap.size, 0, none⟩) 3 3) [255, 250, u8 z] := by
  rw [u8_val h0 h1]
  exact ⟨by simp, .inr ⟨w.heap.size, 3, _, rfl, h, heap_alloc_new w _, Nat.le_refl _, by unfold maxLen; omega, by simp, by simp; exact ⟨rfl, rfl⟩⟩⟩

theorem dbl_succ (l : List UInt8) (k : Nat) (h : k < l.length) : dbl (l.take (k + 1)) = dbl (l.take k) ++ d1 l[k] := by
  rw [List.take_succ_eq_append_getElem h, dbl_append]
  simp [dbl]

set_option maxRecDepth 100000 in
set_option maxHeartbeats 2000000 in
theorem lies_sub (a b : Int) (A : Option Addr) (l : List UInt8) (n c : Nat) (w : World) (hn : n = l.length) (hn2 : n ≤ 512) (hr : Rd w w.heap.size A l c) (h0 : 0 ≤ a) (h1 : a ≤ 255) :
    Calls Tryd.prog 29 #[.agg #[.int .i64 4, .int .i64 a, .int .i64 b, .slice A n c]] w (GotO w ([255, 250, u8 a] ++ dbl l ++ [255, 240])) := by
  have HR := keepd hr
  have HN := keepd hn
  have c1 := hr.1
  have c2 := hr.2.1
  unfold maxLen at c2
  rw [← hn] at c1
  clear hr hn
  go_enter Tryd.func29, Tryd.ntmps29
  go_upto_region 7 with fail
  have HQ := keepd (SR.new 29 w [.int .i64 4, .int .i64 a, .int .i64 b, .slice A n c])
  have HBW := keepd (bAlloc (Below.refl w.heap.size w) (.cells #[.int .i64 4, .int .i64 a, .int .i64 b, .slice A n c] 29))
  have hqs : w.heap.size < (w.alloc (.cells #[.int .i64 4, .int .i64 a, .int .i64 b, .slice A n c] 29)).heap.size := by simp
  have HQ' : Hid (SR 29 (w.alloc (.cells #[.int .i64 4, .int .i64 a, .int .i64 b, .slice A n c] 29)) w.heap.size [.int .i64 4, .int .i64 a, .int .i64 b, .slice A n c]) := HQ.out
  clear HQ
  generalize w.alloc (.cells #[.int .i64 4, .int .i64 a, .int .i64 b, .slice A n c] 29) = V at *
  have qa := HQ'.out.cell 1
  simp only [List.getElem?_cons_zero, List.getElem?_cons_succ] at qa
  have HO0 := keepd (three_own V a V.heap.size (Nat.le_refl _) h0 h1)
  go_wp2_with fail
  go_loopw [3, 4] (fun vo vi wr => ∃ (k mv cv : Nat) (Av : Option Addr), k ≤ n ∧ vi = .int .i64 k ∧ vo = .slice Av mv cv ∧ Hid (Own wr V.heap.size (.slice Av mv cv) ([255, 250, u8 a] ++ dbl (l.take k))) ∧ Hid (Below V.heap.size V wr)) (fun _ vi _ => n - (intOf vi).toNat)
  case atStart => exact ⟨0, 3, 3, _, by omega, rfl, rfl, HO0.out, bAlloc (Below.refl _ _) _⟩
  case round =>
    obtain ⟨k, mv, cv, Av, hk, rfl, rfl, HO, HB⟩ := hrel
    have hsz := HB.out.size
    have q3 := (HQ'.out.call HB.out hqs).cell 3
    simp only [List.getElem?_cons_zero, List.getElem?_cons_succ] at q3
    have HLD : Hid (([255, 250, u8 a] ++ dbl (l.take k)).length ≤ 1100) := by
      show _ ≤ _
      have h2 := dbl_len (l.take k)
      have h3 := List.count_le_length (a := (255 : UInt8)) (l := l.take k)
      rw [List.length_append, h2]
      rw [List.length_take, ← HN.out] at h3 ⊢
      simp only [List.length_cons, List.length_nil]
      omega
    by_cases hlt : k < n
    · have hkL : k < l.length := by rw [← HN.out]; exact hlt
      obtain ⟨b', off, hA, hbl, hcw⟩ := HR.out.form hkL
      have hcu := ((bCall HBW.out HB.out).cell (p := ⟨b', off + k, none⟩) hbl).trans hcw
      have HS := keepd (dbl_succ l k hkL)
      generalize l[k] = u at *
      generalize hD : [255, 250, u8 a] ++ dbl (l.take k) = D at *
      subst hA
      have HLe : Hid (D.length + ([u] : List UInt8).length ≤ 1000000) := by show _ ≤ _; have := HLD.out; simp only [List.length_cons, List.length_nil]; omega
      have hu1 : (u.toNat : Int) ≤ 255 := by have := u.toNat_lt; omega
      have hu0 : (0 : Int) ≤ (u.toNat : Int) := by omega
      go_wp2_with (at_builtin; refine wpList_app _ rfl (.tmp 41) (.tmp 47) rfl V.heap.size _ D rfl (HO.out.alloc _) (wr.heap.size + 1) (some ⟨wr.heap.size, 0, none⟩) 1 1 [u] rfl rfl (one_rdb wr u) ?_ ?_ ?_)
      · exact HLe.out
      · simp only [World.size_alloc]; omega
      intro va w4 ho hg _
      have hb4 : Below V.heap.size V w4 := (bAlloc HB.out _).trans (grown_below (HO.out.alloc _) hg (by simp only [World.size_alloc]; omega))
      obtain ⟨A4, c4, e4, _⟩ := ho.rd
      obtain ⟨m4, hm4⟩ : ∃ m, (D ++ [u]).length = m := ⟨_, rfl⟩
      rw [hm4] at e4
      subst e4
      have HO4 := keepd ho
      clear hm4
      have HB4 := keepd hb4
      have hs4 := hb4.size
      have q3' := (HQ'.out.call hb4 hqs).cell 3
      simp only [List.getElem?_cons_zero, List.getElem?_cons_succ] at q3'
      have hcu' := ((bCall HBW.out hb4).cell (p := ⟨b', off + k, none⟩) hbl).trans hcw
      clear ho hg hb4 hcu q3 hcw
      by_cases h255 : u = 255
      · subst h255
        have HLe2 : Hid ((D ++ [255]).length + ([255] : List UInt8).length ≤ 1000000) := by show _ ≤ _; have := HLD.out; rw [List.length_append]; simp only [List.length_cons, List.length_nil]; omega
        have HR2 : Hid (Rd (w4.alloc (.cells #[.int .u8 255] 5)) (w4.heap.size + 1) (some ⟨w4.heap.size, 0, none⟩) [255] 1) := one_rdb w4 255
        go_wp2_with (at_builtin; refine wpList_app _ rfl (.tmp 55) (.tmp 56) rfl V.heap.size _ (D ++ [255]) rfl (HO4.out.alloc _) (w4.heap.size + 1) (some ⟨w4.heap.size, 0, none⟩) 1 1 [255] rfl rfl HR2.out ?_ ?_ ?_)
        · exact HLe2.out
        · simp only [World.size_alloc]; omega
        intro vb w6 ho hg _
        have hb6 : Below V.heap.size V w6 := (bAlloc HB4.out _).trans (grown_below (HO4.out.alloc _) hg (by simp only [World.size_alloc]; omega))
        obtain ⟨A6, c6, e6, _⟩ := ho.rd
        obtain ⟨m6, hm6⟩ : ∃ m, (D ++ [255, 255]).length = m := ⟨_, rfl⟩
        rw [hm6] at e6
        subst e6
        clear hm6
        have HO6 : Hid (Own w6 V.heap.size (.slice A6 m6 c6) ([255, 250, u8 a] ++ dbl (l.take (k + 1)))) := by
          show Own _ _ _ _
          have e : [255, 250, u8 a] ++ dbl (l.take (k + 1)) = D ++ [255, 255] := by rw [HS.out, ← List.append_assoc, hD]; rfl
          rw [e]
          exact ho
        have HB6 := keepd hb6
        clear ho hg hb6 q3' hcu'
        go_wp2
        go_roundw
        case rel => exact ⟨k + 1, _, c6, A6, by omega, by go_num, rfl, HO6, HB6⟩
        case measure => simp [intOf]; omega
      · have hne : ((u.toNat : Int) == 255) = false := by
          have := u8_beq u 255
          have e2 : ((255 : UInt8).toNat : Int) = 255 := rfl
          rw [e2] at this
          rw [this]
          simpa using h255
        have HO6 : Hid (Own w4 V.heap.size (.slice A4 m4 c4) ([255, 250, u8 a] ++ dbl (l.take (k + 1)))) := by
          show Own _ _ _ _
          have e : [255, 250, u8 a] ++ dbl (l.take (k + 1)) = D ++ [u] := by rw [HS.out, ← List.append_assoc, hD]; unfold d1; rw [if_neg h255]
          rw [e]
          exact HO4.out
        go_wp2
        go_roundw
        case rel => exact ⟨k + 1, _, c4, A4, by omega, by go_num, rfl, HO6, HB4⟩
        case measure => simp [intOf]; omega
    · obtain rfl : k = n := by omega
      have HO2 : Hid (Own wr V.heap.size (.slice Av mv cv) ([255, 250, u8 a] ++ dbl l)) := by
        have := HO.out
        rw [List.take_of_length_le (by rw [← HN.out]; omega)] at this
        exact this
      have HLe : Hid (([255, 250, u8 a] ++ dbl l).length + ([255, 240] : List UInt8).length ≤ 1000000) := by
        show _ ≤ _
        have := HLD.out
        rw [List.take_of_length_le (by rw [← HN.out]; omega)] at this
        simp only [List.length_cons, List.length_nil] at this ⊢
        omega
      have hgk : decide ((k : Int) < (k : Int)) = false := by simp
      have HR2 : Hid (Rd (wr.alloc (.cells #[.int .u8 255, .int .u8 240] 5)) (wr.alloc (.cells #[.int .u8 255, .int .u8 240] 5)).heap.size (some ⟨wr.heap.size, 0, none⟩) [255, 240] 2) := new_rd wr _ [255, 240] 2 rfl rfl (by omega)
      clear HO HLD
      go_wp2_with (at_builtin; refine wpList_app _ rfl (.tmp 58) (.tmp 59) rfl V.heap.size _ ([255, 250, u8 a] ++ dbl l) rfl (HO2.out.alloc _) _ (some ⟨wr.heap.size, 0, none⟩) 2 2 [255, 240] rfl rfl HR2.out ?_ ?_ ?_)
      · exact HLe.out
      · simp only [World.size_alloc]; omega
      intro vb w6 ho hg _
      have hb6 : Below V.heap.size V w6 := (bAlloc HB.out _).trans (grown_below (HO2.out.alloc _) hg (by simp only [World.size_alloc]; omega))
      obtain ⟨A6, c6, e6, hr6⟩ := ho.rd
      subst e6
      have H1 := keepd hr6
      have H2 := keepd (bCall HBW.out hb6)
      clear ho hg hb6 hr6
      go_wp2
      go_ret
      exact ⟨A6, c6, rfl, H1.out, H2.out⟩

theorem lies_data (a b : Int) (A : Option Addr) (n c : Nat) (w : World) (h0 : 0 ≤ a) (h1 : a ≤ 255) :
    Calls Tryd.prog 29 #[.agg #[.int .i64 1, .int .i64 a, .int .i64 b, .slice A n c]] w (GotO w (layL [u8 a])) := by
  go_enter Tryd.func29, Tryd.ntmps29
  go_wp2_with fail
  have g := new_rd2 w (.cells #[.int .i64 1, .int .i64 a, .int .i64 b, .slice A n c] 29) #[.int .u8 a] [u8 a] 1 (by rw [u8_val h0 h1]; rfl) rfl (by omega)
  with_reducible refine (refLay_any _ [u8 a] 1 1 _ rfl g (by omega)).mono ?_
  rintro e w1 ⟨A', c', rfl, hr, hb⟩
  have H1 := keepd hr
  have H2 := keepd (upA (upA hb))
  clear hr hb g
  go_wp2
  go_ret
  exact ⟨A', c', rfl, H1.out, H2.out⟩

theorem lies_cmd (a b : Int) (A : Option Addr) (n c : Nat) (w : World) (h0 : 0 ≤ a) (h1 : a ≤ 255) :
    Calls Tryd.prog 29 #[.agg #[.int .i64 2, .int .i64 a, .int .i64 b, .slice A n c]] w (GotO w [255, u8 a]) := by
  have g := new_rd2 w (.cells #[.int .i64 2, .int .i64 a, .int .i64 b, .slice A n c] 29) #[.int .u8 255, .int .u8 a] [255, u8 a] 2 (by rw [u8_val h0 h1]; rfl) rfl (by omega)
  have G := keepd g
  clear g
  go_enter Tryd.func29, Tryd.ntmps29
  go_wp2
  go_ret
  exact ⟨_, 2, rfl, G.out, bAlloc (bAlloc (Below.refl _ _) _) _⟩

theorem lies_opt (a b : Int) (A : Option Addr) (n c : Nat) (w : World) (h0 : 0 ≤ a) (h1 : a ≤ 255) (h2 : 0 ≤ b) (h3 : b ≤ 255) :
    Calls Tryd.prog 29 #[.agg #[.int .i64 3, .int .i64 a, .int .i64 b, .slice A n c]] w (GotO w [255, u8 a, u8 b]) := by
  have g := new_rd2 w (.cells #[.int .i64 3, .int .i64 a, .int .i64 b, .slice A n c] 29) #[.int .u8 255, .int .u8 a, .int .u8 b] [255, u8 a, u8 b] 3 (by rw [u8_val h0 h1, u8_val h2 h3]; rfl) rfl (by omega)
  have G := keepd g
  clear g
  go_enter Tryd.func29, Tryd.ntmps29
  go_wp2
  go_ret
  exact ⟨_, 3, rfl, G.out, bAlloc (bAlloc (Below.refl _ _) _) _⟩

/-- lies, of an item that may be. -/
theorem lies_any (k a b : Int) (A : Option Addr) (l : List UInt8) (n c : Nat) (w : World) (hn : n = l.length) (hr : Rd w w.heap.size A l c) (hm : mayN k a b n = true) :
    Calls Tryd.prog 29 #[.agg #[.int .i64 k, .int .i64 a, .int .i64 b, .slice A n c]] w (GotO w (liesN k a b l)) := by
  unfold mayN at hm
  unfold liesN
  by_cases h1 : k = 1
  · subst h1
    rw [if_pos rfl] at hm ⊢
    simp only [Bool.and_eq_true] at hm
    obtain ⟨o1, o2⟩ := oct_iff hm.1.1
    exact lies_data a b A n c w o1 o2
  rw [if_neg h1] at hm ⊢
  by_cases h2 : k = 2
  · subst h2
    rw [if_pos rfl] at hm ⊢
    simp only [Bool.and_eq_true] at hm
    obtain ⟨o1, o2, _⟩ := of_decide_eq_true (show decide _ = true from hm.1.1)
    exact lies_cmd a b A n c w (by omega) (by omega)
  rw [if_neg h2] at hm ⊢
  by_cases h3 : k = 3
  · subst h3
    rw [if_pos rfl] at hm ⊢
    simp only [Bool.and_eq_true] at hm
    obtain ⟨o1, o2⟩ := of_decide_eq_true (show decide _ = true from hm.1.1)
    obtain ⟨o3, o4⟩ := oct_iff hm.1.2
    exact lies_opt a b A n c w (by omega) (by omega) o3 o4
  rw [if_neg h3] at hm ⊢
  by_cases h4 : k = 4
  · subst h4
    rw [if_pos rfl] at hm
    simp only [Bool.and_eq_true] at hm
    obtain ⟨o1, o2⟩ := oct_iff hm.1.1
    exact lies_sub a b A l n c w hn (of_decide_eq_true hm.2) hr o1 o2
  · rw [if_neg h4] at hm
    cases hm

end Go.Proofs.YtagfoidljficoaaDoor
