/-
  The walk of the law NvtBack.
-/
import Derived.Test.YtoiiiakhgmledaaT7
import Derived.Test.YtoiiiakhgmledaaT8
namespace Go.Proofs.Ytoiiiakhgmledaa
open Go.RowKit

set_option maxRecDepth 100000 in
set_option maxHeartbeats 1000000 in
theorem back_walk (A : Option Addr) (l : List UInt8) (c : Nat) (x : Int) (u : UInt8) (w : World) (hr : Rd w w.heap.size A l c) (hx : (x = 255 ∧ u = 254) ∨ (x ≠ 255 ∧ x = (u.toNat : Int))) (hu : u ≠ 255) :
    Calls Try.prog 4 #[.slice A l.length c, .int .u8 x] w fun e w' => e = .returned (.bool true) ∧ Below w.heap.size w w' := by
  obtain ⟨q1, q2⟩ := hr.len
  have F := few_any A l.length c w q1 q2
  obtain ⟨n, hn⟩ : ∃ n, min l.length 200 = n := ⟨_, rfl⟩
  obtain ⟨a, ha⟩ : ∃ a, a = l.take 200 := ⟨_, rfl⟩
  have HN : Hid (n = a.length) := by show _ = _; rw [ha, List.length_take, ← hn]; omega
  have HR : Hid (Rd w w.heap.size A a c) := by show Rd _ _ _ _ _; rw [ha]; exact hr.take 200
  have b0 : n ≤ 200 := by omega
  rw [hn] at F
  have FF := keepd F
  obtain ⟨m, hm⟩ : ∃ m, (layL a).length = m := ⟨_, rfl⟩
  have HM := keepd hm
  have b2 : m ≤ 400 := by have := (layL_len a).2; rw [← HN.out] at this; omega
  have HU := keepd hu
  clear F ha hn hr q1 q2 hu hm
  go_enter Try.func4, Try.ntmps4
  go_wp2_with fail
  with_reducible refine FF.out.mono ?_
  rintro e w0 ⟨rfl, rfl⟩
  clear FF
  go_wp2_with fail
  with_reducible refine (lay_any A a n c w HN.out HR.out (by omega)).mono ?_
  rintro e w1 ⟨A1, c1, rfl, hr1, hb1⟩
  have R1 := keepd hr1
  have H1 := keepd hb1
  clear hr1 hb1
  have X := read_any A1 (layL a) (layL a).length c1 w1 rfl R1.out (by have := HM.out; omega)
  rw [read_lay, HM.out] at X
  rw [HM.out]
  go_wp2_with fail
  with_reducible refine X.mono ?_
  rintro e w2 ⟨A2, c2, rfl, hr2, hb2⟩
  have R2 := keepd hr2
  have R1' := keepd (R1.out.at_ hb2)
  have H2 := keepd (bCall H1.out hb2)
  rw [← HN.out]
  clear X hr2 hb2 R1 H1
  rcases hx with ⟨rfl, rfl⟩ | ⟨h255, rfl⟩
  · go_wp2_with (at_builtin; refine wpList_app _ rfl (.tmp 22) (.tmp 23) rfl w2.heap.size _ [] rfl (empty_own w2 _ (Nat.le_refl _)) w2.heap.size A1 m c1 (layL a) rfl HM.out.symm ?_ ?_ ?_ ?_)
    · exact R1'.out.alloc (Nat.le_refl _) (Nat.le_refl _) _
    · rw [HM.out]; simp; omega
    · simp
    · intro va wa ho hg hat
      have HA := keepd (app_start0 hg)
      have HO := keepd ho
      obtain ⟨A3, c3, hv, _⟩ := ho.rd
      rw [HM.out] at hv
      subst hv
      clear ho hg hat
      go_wp2_with (at_builtin; refine wpList_app _ rfl (.tmp 24) (.tmp 26) rfl w2.heap.size _ (layL a) rfl (HO.out.alloc _) _ (some ⟨wa.heap.size, 0, none⟩) 2 2 [255, 254] rfl rfl (new_rd wa #[.int .u8 255, .int .u8 254] [255, 254] 2 rfl rfl (by omega)) ?_ ?_ ?_)
      · rw [HM.out]; simp; omega
      · have := HA.out.size; simp; omega
      · intro vb wb ho hg hat
        have HB := keepd (bCall H2.out (app_below (bAlloc HA.out _) (HO.out.alloc _) hg))
        obtain ⟨A4, c4, hv, hr4⟩ := ho.rd
        rw [show (layL a ++ ([255, 254] : List UInt8)).length = m + 2 from by rw [List.length_append, HM.out]; rfl] at hv
        subst hv
        have R4 := keepd hr4
        have R2' := keepd (R2.out.at_ (app_below (bAlloc HA.out _) (HO.out.alloc _) hg))
        have X := read_any A4 (layL a ++ [255, 254]) (m + 2) c4 wb (by rw [List.length_append, HM.out]; rfl) R4.out (by omega)
        rw [read_laid _ _ (read_cmd _ HU.out), HM.out] at X
        clear ho hg hat hr4 HO HA R2 R1' R4
        go_wp2_with fail
        with_reducible refine X.mono ?_
        rintro e w5 ⟨A5, c5, rfl, hr5, hb5⟩
        rw [← HN.out]
        have R5 := keepd hr5
        have R25 := keepd (R2'.out.at_ hb5)
        have H5 := keepd (bCall HB.out hb5)
        clear X hr5 hb5 HB R2'
        go_wp2_with fail
        have Y := octets_n A2 A a a n n c2 c _ w5 HN.out HN.out R25.out (HR.out.at_ H5.out)
        have Y' := octets_n A5 A a a n n c5 c _ w5 HN.out HN.out R5.out (HR.out.at_ H5.out)
        rw [beq_self_eq_true] at Y Y'
        with_reducible refine Y.mono ?_
        rintro e w6 ⟨rfl, rfl⟩
        clear Y
        go_wp2_with fail
        with_reducible refine Y'.mono ?_
        rintro e w6 ⟨rfl, rfl⟩
        clear Y'
        go_wp2_with fail
        with_reducible refine (awake_any w5).mono ?_
        rintro e w6 ⟨rfl, hb6⟩
        have H6 := keepd (bCall H5.out hb6)
        clear hb6 H5 R5 R25
        go_wp2
        go_ret
        exact ⟨rfl, H6.out⟩
  · go_wp2_with (at_builtin; refine wpList_app _ rfl (.tmp 22) (.tmp 23) rfl w2.heap.size _ [] rfl (empty_own w2 _ (Nat.le_refl _)) w2.heap.size A1 m c1 (layL a) rfl HM.out.symm ?_ ?_ ?_ ?_)
    · exact R1'.out.alloc (Nat.le_refl _) (Nat.le_refl _) _
    · rw [HM.out]; simp; omega
    · simp
    · intro va wa ho hg hat
      have HA := keepd (app_start0 hg)
      have HO := keepd ho
      obtain ⟨A3, c3, hv, _⟩ := ho.rd
      rw [HM.out] at hv
      subst hv
      clear ho hg hat
      go_wp2_with (at_builtin; refine wpList_app _ rfl (.tmp 24) (.tmp 26) rfl w2.heap.size _ (layL a) rfl (HO.out.alloc _) _ (some ⟨wa.heap.size, 0, none⟩) 2 2 [255, u] rfl rfl (new_rd wa #[.int .u8 255, .int .u8 (u.toNat : Int)] [255, u] 2 rfl rfl (by omega)) ?_ ?_ ?_)
      · rw [HM.out]; simp; omega
      · have := HA.out.size; simp; omega
      · intro vb wb ho hg hat
        have HB := keepd (bCall H2.out (app_below (bAlloc HA.out _) (HO.out.alloc _) hg))
        obtain ⟨A4, c4, hv, hr4⟩ := ho.rd
        rw [show (layL a ++ ([255, u] : List UInt8)).length = m + 2 from by rw [List.length_append, HM.out]; rfl] at hv
        subst hv
        have R4 := keepd hr4
        have R2' := keepd (R2.out.at_ (app_below (bAlloc HA.out _) (HO.out.alloc _) hg))
        have X := read_any A4 (layL a ++ [255, u]) (m + 2) c4 wb (by rw [List.length_append, HM.out]; rfl) R4.out (by omega)
        rw [read_laid _ _ (read_cmd _ HU.out), HM.out] at X
        clear ho hg hat hr4 HO HA R2 R1' R4
        go_wp2_with fail
        with_reducible refine X.mono ?_
        rintro e w5 ⟨A5, c5, rfl, hr5, hb5⟩
        rw [← HN.out]
        have R5 := keepd hr5
        have R25 := keepd (R2'.out.at_ hb5)
        have H5 := keepd (bCall HB.out hb5)
        clear X hr5 hb5 HB R2'
        go_wp2_with fail
        have Y := octets_n A2 A a a n n c2 c _ w5 HN.out HN.out R25.out (HR.out.at_ H5.out)
        have Y' := octets_n A5 A a a n n c5 c _ w5 HN.out HN.out R5.out (HR.out.at_ H5.out)
        rw [beq_self_eq_true] at Y Y'
        with_reducible refine Y.mono ?_
        rintro e w6 ⟨rfl, rfl⟩
        clear Y
        go_wp2_with fail
        with_reducible refine Y'.mono ?_
        rintro e w6 ⟨rfl, rfl⟩
        clear Y'
        go_wp2_with fail
        with_reducible refine (awake_any w5).mono ?_
        rintro e w6 ⟨rfl, hb6⟩
        have H6 := keepd (bCall H5.out hb6)
        clear hb6 H5 R5 R25
        go_wp2
        go_ret
        exact ⟨rfl, H6.out⟩

theorem back_law (A : Option Addr) (l : List UInt8) (c : Nat) (x : Int) (w : World) (hr : Rd w w.heap.size A l c) (hx : 0 ≤ x ∧ x ≤ 255) :
    Calls Try.prog 4 #[.slice A l.length c, .int .u8 x] w fun e w' => e = .returned (.bool true) ∧ Below w.heap.size w w' := by
  by_cases h : x = 255
  · exact back_walk A l c x 254 w hr (.inl ⟨h, rfl⟩) (by decide)
  · have e : ((UInt8.ofNat x.toNat).toNat : Int) = x := by
      rw [UInt8.toNat_ofNat']
      omega
    refine back_walk A l c x (UInt8.ofNat x.toNat) w hr (.inr ⟨h, e.symm⟩) (fun e2 => h ?_)
    rw [← e, e2]
    rfl

end Go.Proofs.Ytoiiiakhgmledaa
