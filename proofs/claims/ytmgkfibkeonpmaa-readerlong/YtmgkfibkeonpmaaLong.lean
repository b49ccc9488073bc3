/-
  The law ReaderLong, walked: it returns true, whatever the option, the octet, the number and the octets.
-/
import Derived.Test.YtmgkfibkeonpmaaP2
namespace Go.Proofs.Ytmgkfibkeonpmaa
open Go.RowKit

theorem one_rdz (w : World) (u : UInt8) (z : Int) (hz : z = (u.toNat : Int)) : Rd (w.alloc (.cells #[.int .u8 z] 5)) (w.heap.size + 1) (some ⟨w.heap.size, 0, none⟩) [u] 1 := by
  rw [hz]
  exact one_rdb w u

/-- What is told of an option, as far as its octets. -/
def toldL (o c : UInt8) (k : Nat) : List UInt8 := [255, 250, o] ++ List.replicate k c
theorem toldL_len (o c : UInt8) (k : Nat) : (toldL o c k).length = 3 + k := by unfold toldL; simp; omega
theorem toldL_succ (o c : UInt8) (k : Nat) : toldL o c (k + 1) = toldL o c k ++ [c] := by unfold toldL; rw [List.replicate_succ', List.append_assoc]

theorem few_q (A : Option Addr) (n c : Nat) (w : World) (hn : n ≤ c) (hc : c ≤ maxLen) :
    Calls Try.prog 7 #[.slice A n c] w fun e w' => e = .returned (.slice A (min n 200) c) ∧ w' = w := (few_any A n c w hn hc).mono fun _ _ ⟨h1, h2⟩ => ⟨h1, h2.symm⟩

set_option maxRecDepth 100000 in
set_option maxHeartbeats 1000000 in
theorem long_law (x y z : Int) (A : Option Addr) (l : List UInt8) (m c : Nat) (hm : m = l.length) (hx : 0 ≤ x ∧ x ≤ 255) (hy : 0 ≤ y ∧ y ≤ 255) (hz : 0 ≤ z ∧ z ≤ 65535) (w : World) (hr : Rd w w.heap.size A l c) :
    Calls Try.prog 5 #[.agg #[.int .u8 x, .int .u8 y, .int .u16 z, .slice A m c]] w fun e w' => e = .returned (.bool true) ∧ Below w.heap.size w w' := by
  have hrl : m ≤ c := by have := hr.1; omega
  have hrm := hr.2.1
  have HA0 : Hid (Rd w w.heap.size A (l.take 200) c) := hr.take 200
  have e2 : (l.take 200).length = min m 200 := by rw [List.length_take, hm]; omega
  have m1 : min m 200 ≤ 200 := by omega
  have HAw := keepd rawake_any
  clear hr hm
  obtain ⟨xu, hxu⟩ : ∃ xu : UInt8, x = (xu.toNat : Int) := ⟨u8 x, (u8_back hx.1 hx.2).symm⟩
  subst hxu
  obtain ⟨yu, hyu⟩ : ∃ yu : UInt8, y = (yu.toNat : Int) := ⟨u8 y, (u8_back hy.1 hy.2).symm⟩
  obtain ⟨cu, hcu⟩ : ∃ cu : UInt8, (y == 255) = true ∧ (cu.toNat : Int) = 254 ∧ cu ≠ 255 ∨ (y == 255) = false ∧ (cu.toNat : Int) = y ∧ cu ≠ 255 := by
    by_cases h : yu = 255
    · exact ⟨254, .inl ⟨by rw [hyu, h]; rfl, rfl, by decide⟩⟩
    · exact ⟨yu, .inr ⟨u8_isnt yu 255 y 255 hyu rfl h, hyu.symm, h⟩⟩
  clear hyu
  rcases hcu with ⟨hy1, hcz, hcn⟩ | ⟨hy1, hcz, hcn⟩
  all_goals
    have HCZ := keepd hcz.symm
    have HCN := keepd hcn
    clear hcz hcn
    go_enter Try.func5, Try.ntmps5
    go_wp2_with fail
    go_quiet ((go_at_call 7; exact Calls.quiet_of_same (few_q A m c _ hrl hrm)))
    generalize l.take 200 = al at *
    generalize min m 200 = an at *
    go_wp2_with fail
    generalize hzn : z % 600 = zn at *
    obtain ⟨N, hN⟩ := Int.eq_ofNat_of_zero_le (show 0 ≤ zn by omega)
    subst hN
    have hN6 : N < 600 := by omega
    clear hzn
    have HB0 : Hid (Below w.heap.size w ((w.alloc (.cells #[.int .u8 (xu.toNat : Int), .int .u8 y, .int .u16 z, .slice A m c] 45)).drewN nq)) := bDrewN (bAlloc (Below.refl _ _) _) nq
    have HO0 : Hid (Own (((w.alloc (.cells #[.int .u8 (xu.toNat : Int), .int .u8 y, .int .u16 z, .slice A m c] 45)).drewN nq).alloc (.cells #[.int .u8 255, .int .u8 250, .int .u8 (xu.toNat : Int)] 5)) w.heap.size (.slice (some ⟨w.heap.size + 1, 0, none⟩) 3 3) [255, 250, xu]) := by
      have := three_own ((w.alloc (.cells #[.int .u8 (xu.toNat : Int), .int .u8 y, .int .u16 z, .slice A m c] 45)).drewN nq) xu w.heap.size HB0.out.size
      have hsz : ((w.alloc (.cells #[.int .u8 (xu.toNat : Int), .int .u8 y, .int .u16 z, .slice A m c] 45)).drewN nq).heap.size = w.heap.size + 1 := by
        show (w.alloc _).heap.size = _
        simp
      rw [hsz] at this
      exact this
    have HB1 := keepd (bAlloc HB0.out (.cells #[.int .u8 255, .int .u8 250, .int .u8 (xu.toNat : Int)] 5))
    clear HB0
    generalize ((w.alloc (.cells #[.int .u8 (xu.toNat : Int), .int .u8 y, .int .u16 z, .slice A m c] 45)).drewN nq).alloc (.cells #[.int .u8 255, .int .u8 250, .int .u8 (xu.toNat : Int)] 5) = W0 at *
    go_loopw [7, 8] (fun va vi wr => ∃ k : Nat, k ≤ N ∧ vi = .int .i64 k ∧ Hid (Own wr w.heap.size va (toldL xu cu k)) ∧ Hid (Below w.heap.size w wr)) (fun _ vi _ => N - (intOf vi).toNat)
    case atStart => exact ⟨0, by omega, rfl, HO0, HB1⟩
    case round =>
      obtain ⟨k, hk, rfl, HO, HB⟩ := hrel
      have hsz := HB.out.size
      by_cases hlt : k < N
      · have HLL := keepd (toldL_len xu cu k)
        go_wp2_with (at_builtin; refine wpList_app _ rfl (.tmp 35) (.tmp 37) rfl w.heap.size _ (toldL xu cu k) rfl (HO.out.alloc _) _ (some ⟨wr.heap.size, 0, none⟩) 1 1 [cu] rfl rfl (one_rdz wr cu _ HCZ.out) ?_ ?_ ?_)
        · rw [HLL.out]; simp; omega
        · simp; omega
        · intro v' w4 ho hg _
          have HB4 := keepd (app_below (bAlloc HB.out _) (HO.out.alloc _) hg)
          have HO4 : Hid (Own w4 w.heap.size v' (toldL xu cu (k + 1))) := by
            show Own _ _ _ _
            rw [toldL_succ]
            exact ho
          clear ho hg
          go_wp2
          go_roundw
          case rel => exact ⟨k + 1, by omega, by go_num, HO4, HB4⟩
          case measure => simp [intOf]; omega
      · obtain rfl : k = N := by omega
        have HLL := keepd (toldL_len xu cu k)
        have hr2 := new_rd wr #[.int .u8 255, .int .u8 240] [255, 240] 2 rfl rfl (by omega)
        have HR2 := keepd hr2
        clear hr2 HO0 HB1
        go_wp2_with (at_builtin; refine wpList_app _ rfl (.tmp 39) (.tmp 40) rfl w.heap.size _ (toldL xu cu k) rfl (HO.out.alloc _) _ (some ⟨wr.heap.size, 0, none⟩) 2 2 [255, 240] rfl rfl HR2.out ?_ ?_ ?_)
        · rw [HLL.out]; simp; omega
        · simp; omega
        · intro v5 w5 ho5 hg5 _
          have HB5 := keepd (app_below (bAlloc HB.out _) (HO.out.alloc _) hg5)
          have hs5 := HB5.out.size
          have HLL5 : Hid ((toldL xu cu k ++ [255, 240]).length = 5 + k) := by show _ = _; rw [List.length_append, HLL.out]; simp; omega
          obtain ⟨P2, hP2⟩ : ∃ P2, toldL xu cu k ++ [255, 240] = P2 := ⟨_, rfl⟩
          rw [hP2] at ho5 HLL5
          have HO5 := keepd ho5
          have HP2 := keepd hP2
          clear hP2
          clear ho5 hg5 HR2 HO HB
          go_wp2_with (at_builtin; refine wpList_app _ rfl (.tmp 41) (.tmp 42) rfl w.heap.size _ P2 rfl HO5.out _ A an c al rfl e2.symm (HA0.out.at_ HB5.out) ?_ ?_ ?_)
          · rw [HLL5.out, e2]; omega
          · omega
          · intro v6 w6 ho6 hg6 _
            have HB6 := keepd (app_below HB5.out HO5.out hg6)
            have HLL6 : Hid ((P2 ++ al).length = 5 + k + an) := by show _ = _; rw [List.length_append, HLL5.out, e2]
            obtain ⟨full, hfull⟩ : ∃ full, P2 ++ al = full := ⟨_, rfl⟩
            rw [hfull] at ho6 HLL6
            have HFu : Hid (full = [255, 250, xu] ++ List.replicate k cu ++ [255, 240] ++ al) := by show _ = _; rw [← hfull, ← HP2.out]; rfl
            obtain ⟨A6, c6, rfl, hr6⟩ := ho6.rd
            rw [HLL6.out]
            have HR6 := keepd hr6
            clear ho6 hg6 hr6 HO5 HB5 HLL5 HLL hfull
            obtain ⟨⟨⟨k2, a2, b2, l2⟩, out2⟩, hf2⟩ : ∃ x, feed ⟨0, 0, 0, []⟩ al = x := ⟨_, rfl⟩
            obtain ⟨n2, hn2⟩ : ∃ n2, l2.length = n2 := ⟨_, rfl⟩
            obtain ⟨s, hs⟩ : ∃ s, out2.length = s := ⟨_, rfl⟩
            have HF2 : Hid (feedE ⟨0, 0, 0, []⟩ al = (⟨k2, a2, b2, l2⟩, out2)) := (feedE_yes mayZ al).trans hf2
            have HN2 := keepd hn2
            have HS := keepd hs
            have hs200 : s ≤ 200 := by
              have := (feed_may mayZ al).2.2
              rw [hf2] at this
              simp only at this
              omega
            by_cases h512 : k ≤ 512
            · have HF1 : Hid (feedE ⟨0, 0, 0, []⟩ full = (⟨k2, a2, b2, l2⟩, ⟨4, (xu.toNat : Int), 0, List.replicate k cu⟩ :: out2)) := by
                show _ = _
                rw [feedE_yes mayZ, HFu.out, feed_told xu cu HCN.out k h512 al, hf2]
              obtain ⟨s1, hs1⟩ : ∃ s1, s1 = s + 1 := ⟨_, rfl⟩
              have HS1 : Hid ((Abs.mk 4 (xu.toNat : Int) 0 (List.replicate k cu) :: out2).length = s1) := by show _ = _; rw [List.length_cons, hs, hs1]
              have HSS := keepd hs1
              have t2 : ((s1 : Int) == (s : Int) + 1) = true := by rw [hs1]; simp
              clear hs1
              have t1 : decide ((512 : Int) < (k : Int)) = false := by simp; omega
              clear hf2 hn2 hs
              go_wp2_with fail
              with_reducible refine (feed_at 0 0 0 none [] 0 A6 full 0 (5 + k + an) c6 w6 rfl HLL6.out.symm (by omega) (by omega) (Rd.nil _ _) HR6.out k2 a2 b2 l2 n2 _ s1 0 HF1.out HN2.out HS1.out errZ).mono ?_
              rintro e w7 ⟨A7, c7, B7, d7, L7, rfl, hL7, hR7, hI7, hb7⟩
              have HB7 := keepd (bCall HB6.out hb7)
              have HR7 := keepd hR7
              have HI7 := keepd hI7
              have HL7 := keepd hL7
              clear hb7 hR7 hI7 hL7 HB6 HR6 HF1
              go_wp2_with fail
              with_reducible refine (feed_at 0 0 0 none [] 0 A al 0 an c _ rfl e2.symm (by omega) (by omega) (Rd.nil _ _) (HA0.out.at_ (bAlloc HB7.out _)) k2 a2 b2 l2 n2 out2 s 0 HF2.out HN2.out HS.out errZ).mono ?_
              rintro e w8 ⟨A8, c8, B8, d8, L8, rfl, hL8, hR8, hI8, hb8⟩
              have q7 := (SR.new 24 w7 [.int .i64 k2, .int .i64 a2, .int .i64 b2, .slice A7 n2 c7]).call hb8 (by simp)
              obtain ⟨⟨x0, x1, x2, x3⟩, _⟩ := q7.facts4
              have x4 := q7.lt
              have h78 : Below w7.heap.size w7 w8 := upA hb8
              have HB8 := keepd (bCall HB7.out h78)
              have HR7' := keepd (HR7.out.at_ h78)
              have HI7' := keepd (HI7.out.at_ h78)
              have HR8 := keepd hR8
              have HI8 := keepd hI8
              have HL8 := keepd hL8
              have hsame : sameI ⟨k2, a2, b2, A7, l2, c7⟩ ⟨k2, a2, b2, A8, l2, c8⟩ = true := by rw [sameI_abs]; exact decide_eq_true rfl
              have HSm := keepd hsame
              clear hL8 hR8 hI8 hb8 h78 q7 HB7 HR7 HI7 hsame
              go_wp2_with fail
              with_reducible refine (rsameR_any ⟨k2, a2, b2, A7, l2, c7⟩ ⟨k2, a2, b2, A8, l2, c8⟩ true HSm.out n2 n2 HN2.out.symm HN2.out.symm _ (HR7'.out.at_ (bAlloc (Below.refl _ _) _)) (HR8.out.at_ (bAlloc (Below.refl _ _) _))).mono ?_
              rintro e w9 ⟨rfl, hb9⟩
              have h89 : Below w8.heap.size w8 w9 := upA hb9
              have HB9 := keepd (bCall HB8.out h89)
              have HI7'' := keepd (HI7'.out.at_ h89)
              have HI8' := keepd (HI8.out.at_ h89)
              clear hb9 h89 x0 x1 x2 x3 x4 HR7' HR8 HI7' HI8 HB8 HSm
              obtain ⟨X, M7, hLX, hXa, hMa⟩ := List.map_eq_cons_iff.1 HL7.out
              subst hLX
              have X1 : X.k = 4 := congrArg Abs.k hXa
              have X2 : X.a = (xu.toNat : Int) := congrArg Abs.a hXa
              have X3 : X.l = List.replicate k cu := congrArg Abs.l hXa
              have X4 : X.l.length = k := by rw [X3, List.length_replicate]
              have hMl : M7.length = s := by rw [← List.length_map (f := Itm.abs), hMa]; exact HS.out
              have hd1 := HI7''.out.1
              rw [List.length_cons, hMl] at hd1
              have hd2 := HI7''.out.2.1
              unfold maxLen at hd2
              have hdr := HI7''.out.drop1
              obtain ⟨bb, off, hB7, hbl, hce⟩ := HI7''.out.2.2.1 (by simp)
              subst hB7
              obtain ⟨y0, y1, y2, y3⟩ := hce 0 (by simp)
              simp only [List.getElem_cons_zero, Nat.zero_mul, Nat.add_zero] at y0 y1 y2 y3
              rw [X1] at y0
              rw [X2] at y1
              rw [X4] at y3
              have hsl := slice_fromI (some ⟨bb, off, none⟩) s1 d7 (by rw [HSS.out]; omega)
              obtain ⟨A9, hA9⟩ : ∃ A9, (if d7 = 1 then some (⟨bb, off, none⟩ : Addr) else (some (⟨bb, off, none⟩ : Addr)).map (·.add 4)) = A9 := ⟨_, rfl⟩
              rw [hA9] at hdr hsl
              rw [show s1 - 1 = s by rw [HSS.out]; omega] at hsl
              have hsm : sameL M7 L8 = true := by rw [sameL_abs, hMa, HL8.out]; simp
              have hL8l : s = L8.length := by rw [← HS.out, ← HL8.out, List.length_map]
              have HD := keepd hdr
              have HSm := keepd hsm
              have HM := keepd hMl.symm
              have HL8l := keepd hL8l
              have i1 : (0 : Int) < (s1 : Int) := by rw [HSS.out]; omega
              have i2 : s1 ≤ d7 := by rw [HSS.out]; exact hd1
              have i3 : s1 ≤ 201 := by rw [HSS.out]; omega
              clear hdr hsm hL8l hMl X1 X2 X3 X4 hXa hMa hce hA9 HL7 HI7'' hd2 hd1
              go_wp2_with fail
              with_reducible refine (same_any A9 B8 M7 L8 s s (d7 - 1) d8 _ HM.out HL8l.out HD.out HI8'.out).mono ?_
              rintro e w10 ⟨rfl, hb10⟩
              rw [HSm.out]
              have HB10 := keepd (bCall HB9.out hb10)
              clear hb10 y0 y1 y2 y3 hsl
              go_wp2_with fail
              with_reducible refine (HAw.out _).mono ?_
              rintro e w11 ⟨rfl, hb11⟩
              have HB11 := keepd (bCall HB10.out hb11)
              clear hb11
              go_wp2
              go_ret
              exact ⟨rfl, HB11.out⟩
            · have HF1 : Hid (feedE ⟨0, 0, 0, []⟩ full = (⟨k2, a2, b2, l2⟩, out2)) := by
                show _ = _
                rw [feedE_yes mayZ, HFu.out, feed_skipped xu cu HCN.out k (by omega) al, hf2]
              have t1 : decide ((512 : Int) < (k : Int)) = true := by simp; omega
              clear hf2 hn2 hs
              go_wp2_with fail
              with_reducible refine (feed_at 0 0 0 none [] 0 A6 full 0 (5 + k + an) c6 w6 rfl HLL6.out.symm (by omega) (by omega) (Rd.nil _ _) HR6.out k2 a2 b2 l2 n2 _ s 0 HF1.out HN2.out HS.out errZ).mono ?_
              rintro e w7 ⟨A7, c7, B7, d7, L7, rfl, hL7, hR7, hI7, hb7⟩
              have HB7 := keepd (bCall HB6.out hb7)
              have HR7 := keepd hR7
              have HI7 := keepd hI7
              have HL7 := keepd hL7
              clear hb7 hR7 hI7 hL7 HB6 HR6 HF1
              go_wp2_with fail
              with_reducible refine (feed_at 0 0 0 none [] 0 A al 0 an c _ rfl e2.symm (by omega) (by omega) (Rd.nil _ _) (HA0.out.at_ (bAlloc HB7.out _)) k2 a2 b2 l2 n2 out2 s 0 HF2.out HN2.out HS.out errZ).mono ?_
              rintro e w8 ⟨A8, c8, B8, d8, L8, rfl, hL8, hR8, hI8, hb8⟩
              have q7 := (SR.new 24 w7 [.int .i64 k2, .int .i64 a2, .int .i64 b2, .slice A7 n2 c7]).call hb8 (by simp)
              obtain ⟨⟨x0, x1, x2, x3⟩, _⟩ := q7.facts4
              have x4 := q7.lt
              have h78 : Below w7.heap.size w7 w8 := upA hb8
              have HB8 := keepd (bCall HB7.out h78)
              have HR7' := keepd (HR7.out.at_ h78)
              have HI7' := keepd (HI7.out.at_ h78)
              have HR8 := keepd hR8
              have HI8 := keepd hI8
              have HL8 := keepd hL8
              have hsame : sameI ⟨k2, a2, b2, A7, l2, c7⟩ ⟨k2, a2, b2, A8, l2, c8⟩ = true := by rw [sameI_abs]; exact decide_eq_true rfl
              have HSm := keepd hsame
              clear hL8 hR8 hI8 hb8 h78 q7 HB7 HR7 HI7 hsame
              go_wp2_with fail
              with_reducible refine (rsameR_any ⟨k2, a2, b2, A7, l2, c7⟩ ⟨k2, a2, b2, A8, l2, c8⟩ true HSm.out n2 n2 HN2.out.symm HN2.out.symm _ (HR7'.out.at_ (bAlloc (Below.refl _ _) _)) (HR8.out.at_ (bAlloc (Below.refl _ _) _))).mono ?_
              rintro e w9 ⟨rfl, hb9⟩
              have h89 : Below w8.heap.size w8 w9 := upA hb9
              have HB9 := keepd (bCall HB8.out h89)
              have HI7'' := keepd (HI7'.out.at_ h89)
              have HI8' := keepd (HI8.out.at_ h89)
              clear hb9 h89 x0 x1 x2 x3 x4 HR7' HR8 HI7' HI8 HB8 HSm
              have hsm : sameL L7 L8 = true := by rw [sameL_abs, HL7.out, HL8.out]; simp
              have hL8l : s = L8.length := by rw [← HS.out, ← HL8.out, List.length_map]
              have hL7l : s = L7.length := by rw [← HS.out, ← HL7.out, List.length_map]
              have HSm := keepd hsm
              have HL8l := keepd hL8l
              have HL7l := keepd hL7l
              clear hsm hL8l hL7l
              go_wp2_with fail
              with_reducible refine (same_any B7 B8 L7 L8 s s d7 d8 _ HL7l.out HL8l.out HI7''.out HI8'.out).mono ?_
              rintro e w10 ⟨rfl, hb10⟩
              rw [HSm.out]
              have HB10 := keepd (bCall HB9.out hb10)
              clear hb10
              go_wp2_with fail
              with_reducible refine (HAw.out _).mono ?_
              rintro e w11 ⟨rfl, hb11⟩
              have HB11 := keepd (bCall HB10.out hb11)
              clear hb11
              go_wp2
              go_ret
              exact ⟨rfl, HB11.out⟩

end Go.Proofs.Ytmgkfibkeonpmaa
