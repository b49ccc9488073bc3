/-
  What the law QueueFull returns.
-/
import Derived.Test.YtifimgachkecpaaApp
import Derived.Deep.RegionHeld3
import Derived.Deep.DeepCutAuto
namespace Go.Proofs.Ytifimgachkecpaa
open Go.RowKit

theorem one_rd (w : World) (z : Int) (B : Nat) (hB : w.heap.size < B) (h0 : 0 ≤ z) (h1 : z ≤ 255) : Rd (w.alloc (.cells #[.int .u8 z] 5)) B (some ⟨w.heap.size, 0, none⟩) [UInt8.ofNat z.toNat] 1 := by
  have hz : Value.int .u8 z = bv (UInt8.ofNat z.toNat) := by
    unfold bv
    have : ((UInt8.ofNat z.toNat).toNat : Int) = z := by
      rw [UInt8.toNat_ofNat']
      omega
    rw [this]
  have hb : Bk (w.alloc (.cells #[.int .u8 z] 5)) w.heap.size [UInt8.ofNat z.toNat] := by
    rw [hz]
    exact heap_alloc_new w _
  exact hb.rd hB (by simp) (by unfold maxLen; omega)

theorem one_bk2 (w : World) (o : Obj) (z : Int) (h0 : 0 ≤ z) (h1 : z ≤ 255) : Bk ((w.alloc o).alloc (.cells #[.int .u8 z] 5)) (w.heap.size + 1) [UInt8.ofNat z.toNat] := by
  have hz : Value.int .u8 z = bv (UInt8.ofNat z.toNat) := by
    unfold bv
    have : ((UInt8.ofNat z.toNat).toNat : Int) = z := by
      rw [UInt8.toNat_ofNat']
      omega
    rw [this]
  rw [hz]
  exact n3 w o _

theorem Bk.rdN {w : World} {g n : Nat} {l : List UInt8} (h : Bk w g l) (hn : l.length = n) (hl : n ≤ 100000) : Rd w w.heap.size (some ⟨g, 0, none⟩) l n := by
  subst hn
  exact h.rdS hl

/-- A struct's two cells, in every world that has w1's old memory. -/
theorem sOf2 {w1 W : World} {a : Nat} {u0 u1 : Value} (k0 : w1.cell? ⟨a, 0, none⟩ = some u0) (k1 : w1.cell? ⟨a, 1, none⟩ = some u1) (ha : a < w1.heap.size) (h : Below w1.heap.size w1 W) :
    W.cell? ⟨a, 0, none⟩ = some u0 ∧ W.cell? ⟨a, 1, none⟩ = some u1 ∧ Below w1.heap.size w1 W :=
  ⟨(h.cell (p := ⟨a, 0, none⟩) ha).trans k0, (h.cell (p := ⟨a, 1, none⟩) ha).trans k1, h⟩
theorem noDrew {W w9 : World} (h : Below W.drew.heap.size W.drew w9) : Below W.heap.size W w9 := ⟨h.os, h.tape, h.output, h.size, h.block⟩
theorem bSet {a w : World} {b i : Nat} (h : Below a.heap.size a w) (hb : a.heap.size ≤ b) (u : Value) : Below a.heap.size a (w.setCell ⟨b, i, none⟩ u) := h.setCell (p := ⟨b, i, none⟩) hb u

set_option maxRecDepth 100000 in
set_option maxHeartbeats 1000000 in
theorem full_any (R : Nat) (C : Int) (w : World) (hR : R ≤ 255) (hC0 : 0 ≤ C) (hC1 : C ≤ 255) :
    Calls Try.prog 8 #[.int .u8 R, .int .u8 C] w fun e w' => e = .returned (.bool true) ∧ Below w.heap.size w w' := by
  go_enter Try.func8, Try.ntmps8
  go_wp2_with fail
  with_reducible refine (new_yes (1 + ↑R) _ (by omega) (by omega)).mono ?_
  rintro e w1 ⟨rfl, hb1⟩
  go_wp2_with fail
  go_loopw [8, 9] (fun b i wr => ∃ (k : Nat) (l : List UInt8), k ≤ R + 4 ∧ i = .int .i64 k ∧ Hid (l.length = k) ∧ Hid (Own wr (w1.heap.size + 1) b l) ∧ Hid (Below (w1.heap.size + 1) (w1.alloc (.cells #[.int .i64 (1 + ↑R), .slice none 0 0] 24)) wr))
    (fun _ i _ => R + 4 - (intOf i).toNat)
  case atStart => exact ⟨0, [], by omega, rfl, rfl, Own.nil _ _, Below.refl _ _⟩
  case round =>
    obtain ⟨k, l, hk, rfl, HL, HO, HB⟩ := hrel
    by_cases hlt : k < R + 4
    · go_wp2_with (at_builtin; refine wpList_app _ rfl (.tmp 36) (.tmp 41) rfl (w1.heap.size + 1) _ l rfl (HO.out.alloc _) (wr.heap.size + 1) _ 1 1 [UInt8.ofNat _] rfl rfl (one_rd wr _ _ (by omega) ?_ ?_) ?_ ?_ ?_)
      · omega
      · omega
      · have := HL.out
        simp
        omega
      · have := HB.out.size
        simp at this ⊢
        omega
      · intro v' w' ho hg hat
        have hs := HB.out.size
        simp at hs
        have hb2 := grown_below (HO.out.alloc (.cells #[.int .u8 ((C + ↑k) % 256)] 5)) hg (by simp; omega)
        have HO' := keepd ho
        have HB' := keepd ((HB.out.alloc (by omega) _).trans hb2)
        have HL' : Hid ((l ++ [UInt8.ofNat ((C + ↑k) % 256).toNat]).length = k + 1) := by show _ = _; have := HL.out; simp; omega
        clear ho hg hat hb2
        generalize l ++ [UInt8.ofNat ((C + ↑k) % 256).toNat] = l2 at *
        go_wp2
        go_roundw
        case rel => exact ⟨k + 1, l2, by omega, by go_num, HL', HO', HB'⟩
        case measure => simp [intOf]; omega
    · obtain rfl : k = R + 4 := by omega
      have q2 := (QR.new w1 (.int .i64 (1 + ↑R)) (.slice none 0 0)).call HB.out (by omega)
      have s2 : Below w.heap.size w wr := (bAlloc hb1 _).trans (HB.out.mono (by have := hb1.size; omega))
      have f2 := q2.facts
      have x2 := q2.lt
      have HQ2 := keepd q2
      obtain ⟨A, cb, hv, hrd⟩ := HO.out.rd
      rw [HL.out] at hv
      subst hv
      have hcb := hrd.len
      have HP : Hid ((l.take (R + 1)).length = R + 1) := by show _ = _; rw [List.length_take, HL.out]; omega
      have HE1 : Hid (([] : List UInt8) ++ l.take (min l.length ((1 + (R : Int)).toNat - ([] : List UInt8).length)) = l.take (R + 1)) := by
        show _ = _
        rw [HL.out, List.nil_append]
        congr 1
        simp
        omega
      have HE2 : Hid (((min l.length ((1 + (R : Int)).toNat - ([] : List UInt8).length) : Nat) : Int) = 1 + ↑R) := by show _ = _; rw [HL.out]; simp; omega
      have HL1 : Hid (R + 4 = l.length) := by show _ = _; rw [HL.out]
      have b1 : R + 4 ≤ cb := by have := hcb.1; rw [HL.out] at this; exact this
      have HRd := keepd hrd
      clear q2 hrd hcb
      go_wp2_with fail
      with_reducible refine (put_at (1 + ↑R) none A [] l (l.take (R + 1)) 0 (R + 4) 0 cb (1 + ↑R) _ rfl HL1.out HE1.out HE2.out (by unfold May; simp; omega) (Rd.nil _ _) HRd.out (by rw [← HL1.out]; omega)).mono ?_
      rintro e w3 ⟨g3, rfl, hg3, hbk3, hb3⟩
      have HR3 := keepd ((HRd.out.take (R + 1)).at_ hb3)
      have HR3' := keepd (HRd.out.at_ hb3)
      generalize l.take (R + 1) = P at *
      unfold qv
      rw [HP.out]
      have s3 := bCall s2 hb3
      have HB3 := keepd hbk3
      have l3 := hb3.size
      clear hbk3 hb3 f2
      go_wp2_with fail
      -- one octet more: there is no room
      have HE3 : Hid (P ++ [UInt8.ofNat C.toNat].take (min [UInt8.ofNat C.toNat].length ((1 + (R : Int)).toNat - P.length)) = P) := by
        show _ = _
        rw [HP.out, show min [UInt8.ofNat C.toNat].length ((1 + (R : Int)).toNat - (R + 1)) = 0 by omega]
        simp
      have HE4 : Hid (((min [UInt8.ofNat C.toNat].length ((1 + (R : Int)).toNat - P.length) : Nat) : Int) = 0) := by show _ = _; rw [HP.out]; omega
      have HM : Hid (May (1 + ↑R) P.length) := by show May _ _; rw [HP.out]; unfold May; omega
      with_reducible refine (put_at (1 + ↑R) (some ⟨g3, 0, none⟩) (some ⟨w3.heap.size + 1, 0, none⟩) P [UInt8.ofNat C.toNat] P (R + 1) 1 (R + 1) 1 0 _ HP.out.symm rfl HE3.out HE4.out HM.out
        (((HB3.out.alloc _).alloc _).rdN HP.out (by omega)) ((one_bk2 w3 _ C hC0 hC1).rdN rfl (by omega)) (by simp)).mono ?_
      rintro e w5 ⟨g5, rfl, hg5, hbk5, hb5⟩
      unfold qv
      rw [HP.out]
      simp only [World.size_alloc] at hb5 hg5
      have s5 : Below w.heap.size w w5 := (bAlloc (bAlloc s3 _) _).trans (hb5.mono (by have := s3.size; omega))
      have p5 := ((QR.new w3 (.int .i64 (1 + ↑R)) (.slice (some ⟨g3, 0, none⟩) (R + 1) (R + 1))).alloc (.cells #[.int .u8 C] 5)).call hb5 (by omega)
      have c5 := ((HB3.out.alloc (.cells #[.int .i64 (1 + ↑R), .slice (some ⟨g3, 0, none⟩) (R + 1) (R + 1)] 24)).alloc (.cells #[.int .u8 C] 5)).below hb5 (by have := HB3.out.lt; omega)
      have r5 := ((HR3.out.alloc (Nat.le_refl _) (Nat.le_succ _) (.cells #[.int .i64 (1 + ↑R), .slice (some ⟨g3, 0, none⟩) (R + 1) (R + 1)] 24)).alloc (by simp) (Nat.le_succ _) (.cells #[.int .u8 C] 5)).below hb5 (by have := hb5.size; simp at this; omega : w3.heap.size + 1 + 1 ≤ w5.heap.size)
      have x5 := p5.lt
      have HP5 := keepd p5
      have HC5 := keepd c5
      have HR5 := keepd r5
      have HB5 := keepd hbk5
      clear p5 c5 r5 hbk5 hb5 HR3 HB3 HR3' HQ2 HO HB
      go_wp2_with fail
      -- all of it is taken
      have HK : Hid (((R + 1 : Nat) : Int) = max (0 : Int) (min (1 + (R : Int)) (P.length : Int))) := by show _ = _; rw [HP.out]; omega
      have HD : Hid (P.drop (R + 1) = []) := by show _ = _; rw [List.drop_eq_nil_iff, HP.out]; omega
      have HT : Hid (P.take (R + 1) = P) := by show _ = _; rw [List.take_of_length_le]; rw [HP.out]; omega
      with_reducible refine (take_at (1 + ↑R) (1 + ↑R) (some ⟨g5, 0, none⟩) P [] P (R + 1) (R + 1) (R + 1) _ HP.out.symm HK.out HD.out HT.out HM.out ((HB5.out.alloc _).rdN HP.out (by omega))).mono ?_
      rintro e w7 ⟨g7, o7, rfl, hg7, ho7, hne7, hbk7, hbo7, hb7⟩
      unfold qv
      rw [HP.out]
      simp only [World.size_alloc] at hb7 hg7 ho7
      have s7 : Below w.heap.size w w7 := (bAlloc s5 _).trans (hb7.mono (by have := s5.size; omega))
      have p7 := (HP5.out.alloc (.cells #[.int .i64 (1 + ↑R), .slice (some ⟨g5, 0, none⟩) (R + 1) (R + 1)] 24)).call hb7 (by omega)
      have q7 := (QR.new w5 (.int .i64 (1 + ↑R)) (.slice (some ⟨g5, 0, none⟩) (R + 1) (R + 1))).call hb7 (by omega)
      have c7 := (HC5.out.alloc (.cells #[.int .i64 (1 + ↑R), .slice (some ⟨g5, 0, none⟩) (R + 1) (R + 1)] 24)).below hb7 (by have := HC5.out.lt; omega)
      have d7 := (HB5.out.alloc (.cells #[.int .i64 (1 + ↑R), .slice (some ⟨g5, 0, none⟩) (R + 1) (R + 1)] 24)).below hb7 (by have := HB5.out.lt; omega)
      have r7 := (HR5.out.alloc (Nat.le_refl _) (Nat.le_succ _) (.cells #[.int .i64 (1 + ↑R), .slice (some ⟨g5, 0, none⟩) (R + 1) (R + 1)] 24)).below hb7 (by have := hb7.size; simp at this; omega : w5.heap.size + 1 ≤ w7.heap.size)
      have x7 := p7.lt
      have y7 := q7.lt
      have HP7 := keepd p7
      have HQ7 := keepd q7
      have HC7 := keepd c7
      have HD7 := keepd d7
      have HR7 := keepd r7
      have HB7 := keepd hbk7
      have HO7 := keepd hbo7
      clear p7 q7 c7 d7 r7 hbk7 hbo7 hb7 HP5 HC5 HR5 HB5
      go_wp2_with fail
      have HP8 := keepd (HP7.out.alloc (.cells #[.int .i64 (1 + ↑R), .slice (some ⟨g7, 0, none⟩) 0 0] 24))
      have HQ8 := keepd (HQ7.out.alloc (.cells #[.int .i64 (1 + ↑R), .slice (some ⟨g7, 0, none⟩) 0 0] 24))
      have HT8 := keepd (QR.new w7 (.int .i64 (1 + ↑R)) (.slice (some ⟨g7, 0, none⟩) 0 0))
      have HC8 := keepd (HC7.out.alloc (.cells #[.int .i64 (1 + ↑R), .slice (some ⟨g7, 0, none⟩) 0 0] 24))
      have HD8 := keepd (HD7.out.alloc (.cells #[.int .i64 (1 + ↑R), .slice (some ⟨g7, 0, none⟩) 0 0] 24))
      have HB8 := keepd (HB7.out.alloc (.cells #[.int .i64 (1 + ↑R), .slice (some ⟨g7, 0, none⟩) 0 0] 24))
      have HO8 := keepd (HO7.out.alloc (.cells #[.int .i64 (1 + ↑R), .slice (some ⟨g7, 0, none⟩) 0 0] 24))
      have HR8 := keepd (HR7.out.at_ (bAlloc (Below.refl _ _) (.cells #[.int .i64 (1 + ↑R), .slice (some ⟨g7, 0, none⟩) 0 0] 24)))
      have s8 := bAlloc s7 (.cells #[.int .i64 (1 + ↑R), .slice (some ⟨g7, 0, none⟩) 0 0] 24)
      have z8 : (w7.alloc (.cells #[.int .i64 (1 + ↑R), .slice (some ⟨g7, 0, none⟩) 0 0] 24)).heap.size = w7.heap.size + 1 := by simp
      clear HP7 HQ7 HC7 HD7 HB7 HO7 HR7
      generalize w7.alloc (.cells #[.int .i64 (1 + ↑R), .slice (some ⟨g7, 0, none⟩) 0 0] 24) = W8 at *
      have Z8 := keepd z8
      have y8 : w7.heap.size < W8.heap.size := by omega
      have v1 : (1 : Int) + ↑R ≤ ↑cb := by omega
      have v2 : (0 : Int) ≤ 1 + ↑R := by omega
      have HE5 : Hid (([] : List UInt8) ++ P.take (min P.length ((1 + (R : Int)).toNat - ([] : List UInt8).length)) = P) := by
        show _ = _
        rw [HP.out, List.nil_append, List.take_of_length_le]
        rw [HP.out]
        simp
        omega
      have HE6 : Hid (((min P.length ((1 + (R : Int)).toNat - ([] : List UInt8).length) : Nat) : Int) = 1 + ↑R) := by show _ = _; rw [HP.out]; simp; omega
      have k0 := HT8.out.facts.1
      have k1 := HT8.out.facts.2.1
      have K0 := keepd k0
      have K1 := keepd k1
      clear z8
      go_cut [19, 20, 21] (fun s19 s20 s21 wx => ∃ g9 b9 : Nat, s19 = .pointer (some ⟨b9, 0, none⟩) ∧ s20 = .int .i64 (1 + ↑R) ∧ s21 = .int .i64 0 ∧ Hid (QR wx b9 (.int .i64 (1 + ↑R)) (.slice (some ⟨g9, 0, none⟩) (R + 1) (R + 1))) ∧ Hid (Bk wx g9 P) ∧ Hid (Below W8.heap.size W8 wx))
      case first =>
        go_region_held3 (fun W => W.cell? ⟨w7.heap.size, 0, none⟩ = some (.int .i64 (1 + ↑R)) ∧ W.cell? ⟨w7.heap.size, 1, none⟩ = some (.slice (some ⟨g7, 0, none⟩) 0 0) ∧ Below W8.heap.size W8 W)
          ((refine sOf2 K0.out K1.out y8 ?_; repeat (first | assumption | exact Below.refl _ _ | with_reducible refine bSet ?_ ?_ _ | with_reducible refine bAlloc ?_ _ | with_reducible refine Below.drew ?_ | omega)))
          (first | (go_at_call 16; refine (put_at (1 + ↑R) (some ⟨g7, 0, none⟩) A [] P P 0 _ 0 cb (1 + ↑R) _ rfl ?_ HE5.out HE6.out ?_ ?_ ?_ ?_).mono ?_; (rw [HP.out]; omega); (unfold May; simp; omega); (focus (refine (HB8.out.rdN (n := 0) rfl (by omega)).at_ ?_; repeat (first | assumption | exact Below.refl _ _ | with_reducible refine bSet ?_ ?_ _ | with_reducible refine bAlloc ?_ _ | with_reducible refine Below.drew ?_ | omega))); (focus (refine HR8.out.at_ ?_; repeat (first | assumption | exact Below.refl _ _ | with_reducible refine bSet ?_ ?_ _ | with_reducible refine bAlloc ?_ _ | with_reducible refine Below.drew ?_ | omega))); (rw [HP.out]; omega); rintro e w9 ⟨g9, rfl, hg9, hbk9, hb9⟩; have HB9 := keepd hbk9; clear hbk9; have hbb : Below W8.heap.size W8 w9 := (by refine bCall ?_ hb9; repeat (first | assumption | exact Below.refl _ _ | with_reducible refine bSet ?_ ?_ _ | with_reducible refine bAlloc ?_ _ | with_reducible refine Below.drew ?_ | omega)); have lbb := hbb.size; (try have hb9' := noDrew hb9); (try simp only [World.size_alloc] at hb9'); obtain ⟨hc9, hf9⟩ := old hb9'; unfold qv; rw [HP.out]))
        all_goals
          go_wp2_with fail
          go_meet
        · exact ⟨g9, _, rfl, rfl, rfl, QR.new w9 _ _, HB9.out.alloc _, bAlloc hbb _⟩
        · have q9 := (QR.new W8 (.int .i64 0) (.slice none 0 0)).call hb9' (by omega)
          exact ⟨g9, _, rfl, rfl, rfl, q9.store _ _, set2_bk HB9.out (by simp at hg9; omega) _ _, set2_below hbb (Nat.le_refl _) _ _⟩
      case rest =>
        obtain ⟨g9, b9, rfl, rfl, rfl, HQ9, HB9, HW9⟩ := hcut
        have p10 := (HP8.out.call HW9.out (by omega)).facts
        have q10 := (HQ8.out.call HW9.out (by omega)).facts
        have t10 := (HT8.out.call HW9.out (by omega)).facts
        have u10 := HQ9.out.facts
        have HC10 := keepd (HC8.out.below HW9.out HC8.out.lt)
        have HD10 := keepd (HD8.out.below HW9.out HD8.out.lt)
        have HO10 := keepd (HO8.out.below HW9.out HO8.out.lt)
        have HR10 := keepd (HR8.out.at_ HW9.out)
        have s10 := bCall s8 HW9.out
        have HPP : Hid ((P == P) = true) := by show _ = _; simp
        clear k0 k1
        go_wp2_with fail
        with_reducible refine (same14 (1 + ↑R) (some ⟨g3, 0, none⟩) (some ⟨g5, 0, none⟩) P P (R + 1) (R + 1) (R + 1) (R + 1) _ HP.out.symm HP.out.symm (HC10.out.rdN HP.out (by omega)) (HD10.out.rdN HP.out (by omega))).mono ?_
        rintro e w11 ⟨rfl, hb11⟩
        rw [HPP.out]
        have p11 := ((HP8.out.call HW9.out (by omega)).call hb11 (by have := (HP8.out.call HW9.out (by omega)).lt; omega)).facts
        have t11 := ((HT8.out.call HW9.out (by omega)).call hb11 (by have := (HT8.out.call HW9.out (by omega)).lt; omega)).facts
        have u11 := (HQ9.out.call hb11 HQ9.out.lt).facts
        clear p10 q10 t10 u10
        go_wp2_with fail
        with_reducible refine (same14 (1 + ↑R) (some ⟨g9, 0, none⟩) (some ⟨g3, 0, none⟩) P P (R + 1) (R + 1) (R + 1) (R + 1) _ HP.out.symm HP.out.symm ((HB9.out.rdN HP.out (by omega)).at_ hb11) ((HC10.out.rdN HP.out (by omega)).at_ hb11)).mono ?_
        rintro e w12 ⟨rfl, hb12⟩
        rw [HPP.out]
        have hb13 := bCall hb11 hb12
        have t12 := ((HT8.out.call HW9.out (by omega)).call hb13 (by have := (HT8.out.call HW9.out (by omega)).lt; omega)).facts
        have HR12 := keepd (HR10.out.at_ hb13)
        have HO12 := keepd ((HO10.out.rdN HP.out (by omega)).at_ hb13)
        have s12 := bCall s10 hb13
        clear p11 t11 u11
        go_wp2_with fail
        with_reducible refine (octets_at (some ⟨o7, 0, none⟩) A P P (R + 1) (1 + R) (R + 1) cb _ _ HP.out.symm (by rw [HP.out]; omega) HO12.out HR12.out).mono ?_
        rintro e w13 ⟨rfl, rfl⟩
        rw [HPP.out]
        go_wp2_with fail
        with_reducible refine (awake_any _).mono ?_
        rintro e w14 ⟨rfl, hb14⟩
        go_wp2
        go_ret
        exact ⟨rfl, bCall s12 hb14⟩
end Go.Proofs.Ytifimgachkecpaa
