/-
  The law ItemLong, walked: it returns true, whatever the option, the octets and the number.
-/
import Derived.Test.YtagfoidljficoaaDoorI9
namespace Go.Proofs.YtagfoidljficoaaDoor
open Go.RowKit

theorem isize_at (A : Option Addr) (L : List Itm) (m n c : Nat) (er : Int) (w : World) (hn : n = L.length) (hl : n ≤ 300) (hr : RdI w A L c) (hm : (putL L).length = m) (he : errL L = er) :
    Calls Tryd.prog 14 #[.slice A n c] w fun e w' => e = .returned (.tuple #[.int .i64 (m : Int), .int .i64 er]) ∧ Below w.heap.size w w' := by
  subst hm he
  exact isize_any A L n c w hn hl hr

theorem long_may (o : Int) (A : Option Addr) (l : List UInt8) (c : Nat) (h0 : 0 ≤ o) (h1 : o ≤ 255) : allMay [⟨4, o, 0, A, l, c⟩] = decide (l.length ≤ 512) := by
  unfold allMay
  rw [List.all_cons, List.all_nil, Bool.and_true]
  unfold Itm.may mayN
  rw [if_neg (show ¬ (4 : Int) = 1 by decide), if_neg (show ¬ (4 : Int) = 2 by decide), if_neg (show ¬ (4 : Int) = 3 by decide), if_pos rfl, show oct o = true from decide_eq_true ⟨h0, h1⟩]
  simp

theorem long_put (o : Int) (A : Option Addr) (l : List UInt8) (c : Nat) (h0 : 0 ≤ o) (h1 : o ≤ 255) (h : l.length ≤ 512) :
    errL [⟨4, o, 0, A, l, c⟩] = 0 ∧ l.length + 5 ≤ (putL [⟨4, o, 0, A, l, c⟩]).length ∧ (putL [⟨4, o, 0, A, l, c⟩]).length ≤ 2 * l.length + 5 := by
  have hm : allMay [⟨4, o, 0, A, l, c⟩] = true := by rw [long_may o A l c h0 h1]; exact decide_eq_true h
  refine ⟨errL_yes hm, ?_⟩
  rw [putL_yes hm]
  have e : liesAll [⟨4, o, 0, A, l, c⟩] = [255, 250, u8 o] ++ dbl l ++ [255, 240] := by
    unfold liesAll
    rw [List.flatMap_cons, List.flatMap_nil, List.append_nil]
    unfold Itm.lies liesN
    rw [if_neg (show ¬ (4 : Int) = 1 by decide), if_neg (show ¬ (4 : Int) = 2 by decide), if_neg (show ¬ (4 : Int) = 3 by decide)]
  have hd := dbl_len l
  have hc := List.count_le_length (a := (255 : UInt8)) (l := l)
  rw [e, List.length_append, List.length_append, hd]
  simp only [List.length_cons, List.length_nil]
  omega

set_option maxRecDepth 100000 in
set_option maxHeartbeats 2000000 in
theorem long_law (o r : Int) (A : Option Addr) (l : List UInt8) (n c : Nat) (w : World) (hn : n = l.length) (hr : Rd w w.heap.size A l c) (ho : 0 ≤ o ∧ o ≤ 255) (hm : 0 ≤ r ∧ r ≤ 255) :
    Calls Tryd.prog 7 #[.int .u8 o, .slice A n c, .int .u8 r] w fun e w' => e = .returned (.bool true) ∧ Below w.heap.size w w' := by
  have c1 := hr.1
  have c2 := hr.2.1
  rw [← hn] at c1
  have HF := fun w => few_any A n c w c1 c2
  have HR : Hid (Rd w w.heap.size A (l.take 200) c) := hr.take 200
  have HN : Hid (min n 200 = (l.take 200).length) := by show _ = _; rw [List.length_take, ← hn]; omega
  generalize l.take 200 = bl at *
  obtain ⟨nb, hnb⟩ : ∃ nb, min n 200 = nb := ⟨_, rfl⟩
  have h200 : nb ≤ 200 := by omega
  rw [hnb] at HN HF
  obtain ⟨ho0, ho1⟩ := ho
  obtain ⟨hr0, hr1⟩ := hm
  clear hr hn hnb
  unfold maxLen at c2
  go_enter Tryd.func7, Tryd.ntmps7
  go_wp2_with (go_at_call 10; with_reducible refine (HF _).mono ?_; rintro e w1 ⟨rfl, rfl⟩)
  obtain ⟨T, hT⟩ : ∃ T : Nat, r % 30 = T := ⟨(r % 30).toNat, by omega⟩
  have hT30 : T < 30 := by omega
  have hTm : r.tmod 30 = (T : Int) := by rw [Int.tmod_eq_emod_of_nonneg hr0]; exact hT
  go_loopw [7] (fun v wr => ∃ (k cv : Nat) (Av : Option Addr) (l0 : List UInt8), k ≤ 500 + T ∧ v = .slice Av k cv ∧ Hid (k = l0.length) ∧ Hid (Own wr w.heap.size (.slice Av k cv) l0) ∧ Hid (Below w.heap.size w wr)) (fun v _ => 530 - lenOfV v)
  case atStart => exact ⟨0, 0, none, [], by omega, rfl, rfl, Own.nil _ _, Below.refl _ _⟩
  case round =>
    obtain ⟨k, cv, Av, l0, hk, rfl, HK, HO, HB⟩ := hrel
    by_cases hlt : k < 500 + T
    · have hg : decide ((k : Int) < 500 + (T : Int)) = true := by simp; omega
      have hz := HB.out.size
      have HO1 : Hid (Rd (wr.alloc (.cells #[.int .u8 ((k : Int) % 256)] 5)) (wr.heap.size + 1) (some ⟨wr.heap.size, 0, none⟩) [UInt8.ofNat ((k : Int) % 256).toNat] 1) := one_rd wr ((k : Int) % 256) (wr.heap.size + 1) (by omega) (by omega) (by omega)
      have HLe : Hid (l0.length + ([UInt8.ofNat ((k : Int) % 256).toNat] : List UInt8).length ≤ 1000000) := by show _ ≤ _; rw [← HK.out]; simp; omega
      go_wp2_with (at_builtin; refine wpList_app _ rfl (.tmp 20) (.tmp 24) rfl w.heap.size _ l0 rfl (HO.out.alloc _) (wr.heap.size + 1) (some ⟨wr.heap.size, 0, none⟩) 1 1 [UInt8.ofNat ((k : Int) % 256).toNat] rfl rfl HO1.out HLe.out (by simp only [World.size_alloc]; omega) ?_; intro va w4 ho hg _)
      obtain ⟨A4, c4, e4, _⟩ := ho.rd
      have e5 : (l0 ++ [UInt8.ofNat ((k : Int) % 256).toNat]).length = k + 1 := by rw [List.length_append, ← HK.out]; rfl
      rw [e5] at e4
      subst e4
      have HO4 := keepd ho
      have HK4 : Hid (k + 1 = (l0 ++ [UInt8.ofNat ((k : Int) % 256).toNat]).length) := e5.symm
      have HB4 := keepd ((bAlloc HB.out _).trans (grown_below (HO.out.alloc _) hg (by simp only [World.size_alloc]; omega)))
      clear ho hg e5
      go_roundw
      case rel => exact ⟨k + 1, c4, A4, _, by omega, rfl, HK4, HO4, HB4⟩
      case measure => simp [lenOfV]; omega
    · obtain rfl : k = 500 + T := by omega
      have hg0 : decide (((500 + T : Nat) : Int) < 500 + (T : Int)) = false := by simp
      have hz := HB.out.size
      have HRb := keepd (HR.out.at_ HB.out)
      have HLe : Hid (l0.length + bl.length ≤ 1000000) := by show _ ≤ _; rw [← HK.out, ← HN.out]; omega
      have HLL : Hid ((l0 ++ bl).length = 500 + T + nb) := by show _ = _; rw [List.length_append, ← HK.out, ← HN.out]
      go_wp2_with (at_builtin; refine wpList_app _ rfl (.tmp 26) (.tmp 27) rfl w.heap.size _ l0 rfl HO.out wr.heap.size A nb c bl rfl HN.out HRb.out HLe.out hz ?_; intro va w4 ho hg _; obtain ⟨A4, c4, e4, hr4⟩ := ho.rd; rw [HLL.out] at e4; subst e4)
      have HB4 := keepd (HB.out.trans (grown_below HO.out hg hz))
      have HR4 := keepd hr4
      generalize l0 ++ bl = ll at *
      obtain ⟨m, hm⟩ : ∃ m, 500 + T + nb = m := ⟨_, rfl⟩
      rw [hm]
      rw [hm] at HLL
      have hm1 : 500 ≤ m := by omega
      have hm2 : m ≤ 730 := by omega
      clear ho hg hr4 HO HK HLe HRb HB
      have g0 := one_rdI2 w4 (.cells #[.int .i64 4, .int .i64 o, .int .i64 0, .slice A4 m c4] 29) ⟨4, o, 0, A4, ll, c4⟩ HR4.out
      have g1 : RdI ((w4.alloc (.cells #[.int .i64 4, .int .i64 o, .int .i64 0, .slice A4 m c4] 29)).alloc (.cells #[.int .i64 4, .int .i64 o, .int .i64 0, .slice A4 m c4] 29)) (some ⟨w4.heap.size + 1, 0, none⟩) [⟨4, o, 0, A4, ll, c4⟩] 1 := by
        have e : Value.slice A4 ll.length c4 = .slice A4 m c4 := by rw [HLL.out]
        have g2 : RdI ((w4.alloc (.cells #[.int .i64 4, .int .i64 o, .int .i64 0, .slice A4 m c4] 29)).alloc (.cells #[.int .i64 4, .int .i64 o, .int .i64 0, .slice A4 ll.length c4] 29)) (some ⟨w4.heap.size + 1, 0, none⟩) [⟨4, o, 0, A4, ll, c4⟩] 1 := g0
        rw [e] at g2
        exact g2
      clear g0
      have HAw := keepd iawake_any
      by_cases h512 : m ≤ 512
      · obtain ⟨x1, x2, x3⟩ := long_put o A4 ll c4 ho0 ho1 (by rw [HLL.out]; exact h512)
        rw [HLL.out] at x2 x3
        obtain ⟨z, hz2⟩ : ∃ z, (putL [⟨4, o, 0, A4, ll, c4⟩]).length = z := ⟨_, rfl⟩
        rw [hz2] at x2 x3
        have g3 : decide ((z : Int) ≥ (m : Int) + 5) = true := by simp; omega
        have g4 : decide ((z : Int) ≤ 2 * (m : Int) + 5) = true := by simp; omega
        with_reducible refine (isize_at _ _ z 1 1 0 _ rfl (by omega) g1 hz2 x1).mono ?_
        rintro e w5 ⟨rfl, hb5⟩
        have HB5 := keepd (bCall HB4.out (upA (upA hb5)))
        clear g1 hb5 x1 hz2
        go_wp2_with (go_at_call 20; with_reducible refine (HAw.out _).mono ?_; rintro e w6 ⟨rfl, hb6⟩)
        go_ret
        exact ⟨rfl, bCall HB5.out hb6⟩
      · have hno : allMay [⟨4, o, 0, A4, ll, c4⟩] = false := by rw [long_may o A4 ll c4 ho0 ho1]; exact decide_eq_false (by rw [HLL.out]; exact h512)
        have x4 : (putL [⟨4, o, 0, A4, ll, c4⟩]).length = 0 := by rw [putL_no hno]; rfl
        have x5 := errL_no hno
        with_reducible refine (isize_at _ _ 0 1 1 1 _ rfl (by omega) g1 x4 x5).mono ?_
        rintro e w5 ⟨rfl, hb5⟩
        have HB5 := keepd (bCall HB4.out (upA (upA hb5)))
        clear g1 hb5 hno x4 x5
        go_wp2_with (go_at_call 20; with_reducible refine (HAw.out _).mono ?_; rintro e w6 ⟨rfl, hb6⟩)
        go_ret
        exact ⟨rfl, bCall HB5.out hb6⟩

end Go.Proofs.YtagfoidljficoaaDoor
