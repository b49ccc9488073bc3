/-
  Several texts in one: R1 R2. No conditions beyond those each theorem states.
-/
import Derived.Test.YtlfmbfecajhffaaDoorRT
/-
  The document's own line of two parts. No conditions beyond those each theorem states.
-/
namespace Go.Proofs.YtlfmbfecajhffaaDoor
open Go.RowKit
set_option maxRecDepth 100000

/-- A line that a call has answered, and whether it was done. -/
def GotRZ (w : World) (L : List UInt8) (m : Nat) (z : Int) (d : Bool) (e : Ending) (w' : World) : Prop :=
  (∃ A c, e = .returned (.tuple #[.agg #[.slice A m c, .int .i64 z], .bool d]) ∧ Rd w' w'.heap.size A L c) ∧ Below w.heap.size w w'

theorem of_any (A A' : Option Addr) (l l' : List UInt8) (n n' c c' m : Nat) (w : World) (hn : n = l.length) (hn' : n' = l'.length) (hr : Rd w w.heap.size A l c) (hr' : Rd w w.heap.size A' l' c') (hl : n ≤ 100000) (hl' : n' ≤ 100000) (hm : (l ++ l').length = m) :
    Calls Tryd.prog 76 #[.slice A n c, .slice A' n' c'] w (GotN w (l ++ l') m (n : Int)) := by
  have HN := keepd hn
  have HN' := keepd hn'
  have HR := keepd hr
  have HR' := keepd hr'
  have HM := keepd hm
  have HL1 : Hid (([] : List UInt8).length + l.length ≤ 1000000) := by show _ ≤ _; rw [← hn]; simp; omega
  have HL2 : Hid (l.length + l'.length ≤ 1000000) := by show _ ≤ _; rw [← hn, ← hn']; omega
  clear hn hn' hr hr' hm
  go_enter Tryd.func76, Tryd.ntmps76
  go_upto_region 1 with fail
  generalize hV : w.alloc (.cells #[.slice none 0 0, .int .i64 0] 30) = V
  obtain ⟨H, HB⟩ := line_new _ _ _ _ hV
  have HLT := keepd H.out.lt
  have HE := keepd (empty_own V _ (Nat.le_refl _))
  have HRa : Hid (Rd (V.alloc (.cells #[] 5)) (V.alloc (.cells #[] 5)).heap.size A l c) := (HR.out.at_ HB.out).at_ (bAlloc (Below.refl _ _) _)
  have HSZ : Hid (V.heap.size ≤ (V.alloc (.cells #[] 5)).heap.size) := by show _ ≤ _; rw [World.size_alloc]; omega
  clear hV
  go_wp2_with (first
    | (at_builtin; refine wpList_app _ rfl (.tmp 5) (.tmp 6) rfl V.heap.size _ [] rfl HE.out _ A n c l rfl HN.out HRa.out HL1.out HSZ.out ?_; intro v1 w1 ho1 hg1 _; rw [List.nil_append] at ho1; have HO1 := keepd ho1; have HB1 := keepd (app_start0 hg1); clear ho1 hg1)
    | (at_builtin; refine wpList_app _ rfl (.tmp 7) (.tmp 8) rfl V.heap.size _ l rfl HO1.out _ A' n' c' l' rfl HN'.out ((HR'.out.at_ HB.out).at_ HB1.out) HL2.out HB1.out.size ?_; intro v2 w2 ho2 hg2 _; have HB2 := keepd (app_below HB1.out HO1.out hg2); obtain ⟨A2, c2, hv2, _⟩ := ho2.rd; rw [show (l ++ l').length = m from HM.out] at hv2; subst hv2; have HO2 := keepd ho2; clear ho2 hg2; obtain ⟨m0, m1, m2, m3, lt⟩ := line_facts (SR.call H.out HB2.out HLT.out)))
  refine bodyPost_ret (v := .agg #[.slice A2 m c2, .int .i64 (n : Int)]) (by simp [results, Tryd.results76, go_sem, m0, m1]) rfl ?_
  obtain ⟨q1, q2⟩ := gotn_end1 (z := (n : Int)) HLT.out HO2.out (HB.out.trans (HB2.out.mono HB.out.size))
  exact ⟨⟨A2, c2, rfl, q1⟩, q2⟩

end Go.Proofs.YtlfmbfecajhffaaDoor
/-
  The document's own Type. No conditions beyond those each theorem states.
-/
namespace Go.Proofs.YtlfmbfecajhffaaDoor
open Go.RowKit
set_option maxRecDepth 100000

theorem za_ii {V wa : World} {u : UInt8} (hg : ((V.alloc (.cells #[] 5)).alloc (.cells #[.int .u8 (u.toNat : Int)] 5)).drew.grownBy wa (Value.ownBlock (.slice (some ⟨V.heap.size, 0, none⟩) 0 0))) : Rd wa wa.heap.size (some ⟨V.heap.size + 1, 0, none⟩) [u] 1 := by
  have hb : Bk ((V.alloc (.cells #[] 5)).alloc (.cells #[.int .u8 (u.toNat : Int)] 5)) (V.heap.size + 1) [u] := n3 V _ _
  have hb2 : Bk wa (V.heap.size + 1) [u] := (hg.block (V.heap.size + 1) (by show _ < (World.alloc _ _).heap.size; simp) (by simp [Value.ownBlock])).trans hb
  exact hb2.rd hb2.lt (by simp) (by unfold maxLen; omega)
theorem za_iii {V wa : World} {u : UInt8} (hg : ((V.alloc (.cells #[.int .u8 (u.toNat : Int)] 5)).alloc (.cells #[] 5)).drew.grownBy wa (Value.ownBlock (.slice (some ⟨V.heap.size + 1, 0, none⟩) 0 0))) : Rd wa wa.heap.size (some ⟨V.heap.size, 0, none⟩) [u] 1 := by
  have hb : Bk ((V.alloc (.cells #[.int .u8 (u.toNat : Int)] 5)).alloc (.cells #[] 5)) V.heap.size [u] := row_alloc (heap_alloc_new V _)
  have hb2 : Bk wa V.heap.size [u] := (hg.block V.heap.size (by show _ < (World.alloc _ _).heap.size; simp; omega) (by simp [Value.ownBlock])).trans hb
  exact hb2.rd hb2.lt (by simp) (by unfold maxLen; omega)

set_option maxHeartbeats 4000000 in
theorem rty_over (A : Option Addr) (l : List UInt8) (n c t m : Nat) (room : Int) (u : UInt8) (w : World) (hn : n = l.length) (hr : Rd w w.heap.size A l c) (hl : n ≤ 4096) (ht : t ≤ n) (hlt : t < n) (hm : (l.take t ++ ([u] ++ l.drop (t + 1))).length = m) :
    Calls Tryd.prog 75 #[.agg #[.slice A n c, .int .i64 (t : Int)], .int .i64 room, .bool true, .int .u8 (u.toNat : Int)] w (GotRZ w (l.take t ++ ([u] ++ l.drop (t + 1))) m ((t : Int) + 1) true) := by
  have HN := keepd hn
  have HR0 := keepd hr
  obtain ⟨xt, hxt⟩ : ∃ xt, l.take t = xt := ⟨_, rfl⟩
  have HXT : Hid (t = xt.length) := by show _ = _; rw [← hxt, List.length_take]; omega
  have HXR : Hid (Rd w w.heap.size A xt c) := hxt ▸ hr.take t
  obtain ⟨A2, k, d, hk, hr2, hsl⟩ := tail_of hn hr ht
  have hkn : k = n - t := by rw [hk, List.length_drop, hn]
  have hk4 : k ≤ 100000 := by omega
  have hc1 : n ≤ c := by rw [hn]; exact hr.1
  have hc2 := hr.2.1
  unfold maxLen at hc2
  have s0 : (t : Int) ≤ c := by omega
  have s1 : t ≤ c := by omega
  have s2 : (0 : Int) ≤ (t : Int) := by omega
  have s3 : (t : Int) ≤ (n : Int) := by omega
  have HK := keepd hk
  have HR2 := keepd hr2
  have HXE := keepd hxt
  have hk1 : 1 ≤ k := by omega
  have i0 : (k : Int) > 0 := by omega
  have i1 : (0 : Int) < (k : Int) := by omega
  have i2 : 0 < k := hk1
  obtain ⟨A3, k3, d3, hk3, hr3, hsl3⟩ := tail_of (t := 1) hk hr2 hk1
  have HS3 : Hid (∀ W : World, (Instr.sliceAt 28 (.slice A2 k d) (some (.int .i64 1)) none none).run Tryd.prog W = .ok (.slice A3 k3 d3) W) := fun W => hsl3 W
  rw [List.drop_drop] at hr3 hk3
  have hk34 : k3 ≤ 4096 := by rw [hk3, List.length_drop]; omega
  have HK3 := keepd hk3
  have HR3 := keepd hr3
  obtain ⟨LL, hLL⟩ : ∃ LL, l.take t ++ ([u] ++ l.drop (t + 1)) = LL := ⟨_, rfl⟩
  rw [hLL] at hm ⊢
  have HGL : Hid ((xt ++ [u]) ++ l.drop (t + 1) = LL) := by show _ = _; rw [← hLL, hxt, List.append_assoc]
  have HM := keepd hm
  clear hm hsl3 hk3 hr3 hLL
  clear hn hr hr2 hk hxt hkn
  go_enter Tryd.func75, Tryd.ntmps75
  go_upto_region 1 with fail
  generalize hV : (w.alloc (.cells #[.slice A n c, .int .i64 (t : Int)] 30)).alloc (.cells #[.slice none 0 0, .int .i64 0] 30) = V0
  obtain ⟨H1, H2, HB⟩ := line_new2 _ _ _ _ _ _ hV
  obtain ⟨g0, g1⟩ := H1.out.gr
  clear hV
  refine wp_region_gr (by kernel_rfl) (by kernel_rfl) ?_
  repeat
    refine wpQuiet_step (fun K hK => ?_)
    first
      | (refine gr_want (by rfl) ?_
         go_simp
         first
           | (refine hK _ ?_; clear hK K)
           | (apply Exists.intro
              refine ⟨fun _ => ?_, hK _ ?_⟩
              (fail)
              clear hK K))
      | (refine gr_skip (by rfl) ?_
         go_simp
         refine hK _ ?_
         clear hK K)
  refine wpQuiet_nil ?_
  intro y9
  have HB2 := keepd (bCall HB.out y9.h)
  have H1b := keepd (SR.call H1.out y9.h H1.out.lt)
  have H2b := keepd (SR.call H2.out y9.h H2.out.lt)
  obtain ⟨V, hw3⟩ : ∃ V, y9.W = V := ⟨_, rfl⟩
  rw [hw3] at HB2 H1b H2b
  rw [hw3]
  clear hw3 g0 g1 H1 H2 HB hsl
  obtain ⟨k0, k1, _, _, _⟩ := line_facts H1b.out
  have HLT := keepd H2b.out.lt
  have HP1 : Hid ((xt ++ [u]).length = t + 1) := by show _ = _; rw [List.length_append, ← HXT.out]; rfl
  have HL1 : Hid (([] : List UInt8).length + xt.length ≤ 1000000) := by show _ ≤ _; rw [← HXT.out]; simp; omega
  have HL2 : Hid (xt.length + [u].length ≤ 1000000) := by show _ ≤ _; rw [← HXT.out]; simp; omega
  have HE := keepd (empty_own V _ (Nat.le_refl _))
  have HRV := keepd (HXR.out.at_ HB2.out)
  have CF := keepd fun (W : World) (B : Option Addr) (e : Nat) (hb : Below V.heap.size V W) (ho : Rd W W.heap.size B (xt ++ [u]) e) => HGL.out ▸ of_any B A3 (xt ++ [u]) (l.drop (t + 1)) (t + 1) k3 e d3 m W HP1.out.symm HK3.out ho ((HR3.out.at_ HB2.out).at_ hb) (by omega) (by omega) (by rw [HGL.out]; exact HM.out)
  have hs3 := HS3.out
  go_wp2_with fail
  go_region_held3 (fun _ => True) (trivial)
    (first
      | (refine step_app _ rfl (.tmp 28) (.tmp 29) rfl V.heap.size _ [] rfl ?_ V.heap.size A t c xt rfl HXT.out ?_ HL1.out ?_ ?_; (first | exact (empty_own V _ (Nat.le_refl _)).drew | exact empty_ii V _ | exact empty_iii V _); (focus (refine HRV.out.below ?_ (Nat.le_refl _); repeat (first | assumption | exact Below.refl _ _ | with_reducible refine bAlloc ?_ _ | with_reducible refine Below.drew ?_ | omega))); (first | omega | (focus (simp; omega)) | (focus simp)); intro va wa ho hg hat; (first | have hba := app_below ((bAlloc (Below.refl V.heap.size V) _).drew) (empty_own V _ (Nat.le_refl _)).drew hg | have hba := app_below ((bAlloc (bAlloc (Below.refl V.heap.size V) _) _).drew) (empty_ii V _) hg | have hba := app_below ((bAlloc (bAlloc (Below.refl V.heap.size V) _) _).drew) (empty_iii V _) hg); (first | have HZ := keepd (za_ii hg) | have HZ := keepd (za_iii hg) | skip); rw [List.nil_append] at ho; have HOa := keepd ho; have HBa := keepd hba; have lba := hba.size; clear ho hg hat)
      | (refine step_app _ rfl (.tmp 30) (.tmp 32) rfl V.heap.size _ xt rfl HOa.out wa.heap.size _ 1 1 [u] rfl rfl HZ.out HL2.out lba ?_; intro vb wb ho hg hat; have hbb := app_below HBa.out HOa.out hg; obtain ⟨Bv, dv, hv, _⟩ := ho.rd; rw [show (xt ++ [u]).length = t + 1 from HP1.out] at hv; subst hv; have HOb := keepd ho; have HBb := keepd hbb; clear ho hg hat)
      | (refine step_app _ rfl (.tmp 30) (.tmp 32) rfl V.heap.size _ xt rfl (HOa.out.alloc _) (wa.heap.size + 1) _ 1 1 [u] rfl rfl (one_rdb wa u) HL2.out ?_ ?_; (first | omega | (focus (simp; omega)) | (focus simp)); intro vb wb ho hg hat; have hbb := app_below (bAlloc HBa.out _) (HOa.out.alloc _) hg; obtain ⟨Bv, dv, hv, _⟩ := ho.rd; rw [show (xt ++ [u]).length = t + 1 from HP1.out] at hv; subst hv; have HOb := keepd ho; have HBb := keepd hbb; clear ho hg hat)
      | (go_at_call 76; (with_reducible refine (CF.out wb Bv dv HBb.out HOb.out.rdOf).mono ?_); rintro e w4 ⟨⟨A4, c4, rfl, ho⟩, hb4⟩; have hb5 := bCall HBb.out hb4; have HO4 := keepd ho; have HB4 := keepd (bCall HB2.out hb5); have HLT4 := Nat.lt_of_lt_of_le HLT.out HBb.out.size; obtain ⟨m0, m1, m2, m3, lt⟩ := line_facts (SR.call H2b.out hb5 HLT.out); clear ho hb4 hb5))
  all_goals go_wp2_with fail
  all_goals
    refine bodyPost_ret (v := .tuple #[.agg #[.slice A4 m c4, .int .i64 ((t : Int) + 1)], .bool true]) (by simp [results, Tryd.results75, go_sem, m0, m1]) rfl ?_
    obtain ⟨q1, q2⟩ := gotn_end (z := ((t : Int) + 1)) HLT4 HO4.out HB4.out
    exact ⟨⟨A4, c4, rfl, q1.rdOf⟩, q2⟩

set_option maxHeartbeats 4000000 in
theorem rty_fullta (A : Option Addr) (l : List UInt8) (n c t : Nat) (room : Int) (u : UInt8) (w : World) (hn : n = l.length) (hr : Rd w w.heap.size A l c) (hl : n ≤ 4096) (ht : t ≤ n) (hge : ¬ t < n) (hf : room ≤ (n : Int)) :
    Calls Tryd.prog 75 #[.agg #[.slice A n c, .int .i64 (t : Int)], .int .i64 room, .bool true, .int .u8 (u.toNat : Int)] w (GotRZ w l n (t : Int) false) := by
  have HN := keepd hn
  have HR0 := keepd hr
  obtain ⟨xt, hxt⟩ : ∃ xt, l.take t = xt := ⟨_, rfl⟩
  have HXT : Hid (t = xt.length) := by show _ = _; rw [← hxt, List.length_take]; omega
  have HXR : Hid (Rd w w.heap.size A xt c) := hxt ▸ hr.take t
  obtain ⟨A2, k, d, hk, hr2, hsl⟩ := tail_of hn hr ht
  have hkn : k = n - t := by rw [hk, List.length_drop, hn]
  have hk4 : k ≤ 100000 := by omega
  have hc1 : n ≤ c := by rw [hn]; exact hr.1
  have hc2 := hr.2.1
  unfold maxLen at hc2
  have s0 : (t : Int) ≤ c := by omega
  have s1 : t ≤ c := by omega
  have s2 : (0 : Int) ≤ (t : Int) := by omega
  have s3 : (t : Int) ≤ (n : Int) := by omega
  have HK := keepd hk
  have HR2 := keepd hr2
  have HXE := keepd hxt
  have hk00 : k = 0 := by omega
  have i0 : ¬ (k : Int) > 0 := by omega
  have i1 : ¬ (0 : Int) < (k : Int) := by omega
  have i2 : ¬ 0 < k := by omega
  clear hk00
  have r0 : (n : Int) ≥ room := hf
  have r1 : room ≤ (n : Int) := hf
  clear hn hr hr2 hk hxt hkn
  go_enter Tryd.func75, Tryd.ntmps75
  go_upto_region 1 with fail
  generalize hV : (w.alloc (.cells #[.slice A n c, .int .i64 (t : Int)] 30)).alloc (.cells #[.slice none 0 0, .int .i64 0] 30) = V0
  obtain ⟨H1, H2, HB⟩ := line_new2 _ _ _ _ _ _ hV
  obtain ⟨g0, g1⟩ := H1.out.gr
  clear hV
  refine wp_region_gr (by kernel_rfl) (by kernel_rfl) ?_
  repeat
    refine wpQuiet_step (fun K hK => ?_)
    first
      | (refine gr_want (by rfl) ?_
         go_simp
         first
           | (refine hK _ ?_; clear hK K)
           | (apply Exists.intro
              refine ⟨fun _ => ?_, hK _ ?_⟩
              (fail)
              clear hK K))
      | (refine gr_skip (by rfl) ?_
         go_simp
         refine hK _ ?_
         clear hK K)
  refine wpQuiet_nil ?_
  intro y9
  have HB2 := keepd (bCall HB.out y9.h)
  have H1b := keepd (SR.call H1.out y9.h H1.out.lt)
  have H2b := keepd (SR.call H2.out y9.h H2.out.lt)
  obtain ⟨V, hw3⟩ : ∃ V, y9.W = V := ⟨_, rfl⟩
  rw [hw3] at HB2 H1b H2b
  rw [hw3]
  clear hw3 g0 g1 H1 H2 HB hsl
  obtain ⟨k0, k1, _, _, _⟩ := line_facts H1b.out
  have HLT := keepd H2b.out.lt
  obtain ⟨m0, m1, m2, m3, lt⟩ := line_facts H2b.out
  go_wp2_with fail
  refine bodyPost_ret (v := .tuple #[.agg #[.slice A n c, .int .i64 (t : Int)], .bool false]) (by simp [results, Tryd.results75, go_sem, m0, m1]) rfl ?_
  have hb := set2_below HB2.out (Nat.le_succ w.heap.size) (.slice A n c) (.int .i64 (t : Int))
  exact ⟨⟨A, c, rfl, HR0.out.at_ hb⟩, hb⟩

set_option maxHeartbeats 4000000 in
theorem rty_fulltb (A : Option Addr) (l : List UInt8) (n c t : Nat) (room : Int) (u : UInt8) (w : World) (hn : n = l.length) (hr : Rd w w.heap.size A l c) (hl : n ≤ 4096) (ht : t ≤ n) (hge : ¬ t < n) (hf : ¬ room ≤ (n : Int)) (hf2 : 4096 ≤ n) :
    Calls Tryd.prog 75 #[.agg #[.slice A n c, .int .i64 (t : Int)], .int .i64 room, .bool true, .int .u8 (u.toNat : Int)] w (GotRZ w l n (t : Int) false) := by
  have HN := keepd hn
  have HR0 := keepd hr
  obtain ⟨xt, hxt⟩ : ∃ xt, l.take t = xt := ⟨_, rfl⟩
  have HXT : Hid (t = xt.length) := by show _ = _; rw [← hxt, List.length_take]; omega
  have HXR : Hid (Rd w w.heap.size A xt c) := hxt ▸ hr.take t
  obtain ⟨A2, k, d, hk, hr2, hsl⟩ := tail_of hn hr ht
  have hkn : k = n - t := by rw [hk, List.length_drop, hn]
  have hk4 : k ≤ 100000 := by omega
  have hc1 : n ≤ c := by rw [hn]; exact hr.1
  have hc2 := hr.2.1
  unfold maxLen at hc2
  have s0 : (t : Int) ≤ c := by omega
  have s1 : t ≤ c := by omega
  have s2 : (0 : Int) ≤ (t : Int) := by omega
  have s3 : (t : Int) ≤ (n : Int) := by omega
  have HK := keepd hk
  have HR2 := keepd hr2
  have HXE := keepd hxt
  have hk00 : k = 0 := by omega
  have i0 : ¬ (k : Int) > 0 := by omega
  have i1 : ¬ (0 : Int) < (k : Int) := by omega
  have i2 : ¬ 0 < k := by omega
  clear hk00
  have r0 : ¬ (n : Int) ≥ room := hf
  have r1 : ¬ room ≤ (n : Int) := hf
  have r2 : (n : Int) ≥ 4096 := by omega
  have r3 : (4096 : Int) ≤ (n : Int) := by omega
  have r4 : 4096 ≤ n := hf2
  clear hn hr hr2 hk hxt hkn
  go_enter Tryd.func75, Tryd.ntmps75
  go_upto_region 1 with fail
  generalize hV : (w.alloc (.cells #[.slice A n c, .int .i64 (t : Int)] 30)).alloc (.cells #[.slice none 0 0, .int .i64 0] 30) = V0
  obtain ⟨H1, H2, HB⟩ := line_new2 _ _ _ _ _ _ hV
  obtain ⟨g0, g1⟩ := H1.out.gr
  clear hV
  refine wp_region_gr (by kernel_rfl) (by kernel_rfl) ?_
  repeat
    refine wpQuiet_step (fun K hK => ?_)
    first
      | (refine gr_want (by rfl) ?_
         go_simp
         first
           | (refine hK _ ?_; clear hK K)
           | (apply Exists.intro
              refine ⟨fun _ => ?_, hK _ ?_⟩
              (fail)
              clear hK K))
      | (refine gr_skip (by rfl) ?_
         go_simp
         refine hK _ ?_
         clear hK K)
  refine wpQuiet_nil ?_
  intro y9
  have HB2 := keepd (bCall HB.out y9.h)
  have H1b := keepd (SR.call H1.out y9.h H1.out.lt)
  have H2b := keepd (SR.call H2.out y9.h H2.out.lt)
  obtain ⟨V, hw3⟩ : ∃ V, y9.W = V := ⟨_, rfl⟩
  rw [hw3] at HB2 H1b H2b
  rw [hw3]
  clear hw3 g0 g1 H1 H2 HB hsl
  obtain ⟨k0, k1, _, _, _⟩ := line_facts H1b.out
  have HLT := keepd H2b.out.lt
  obtain ⟨m0, m1, m2, m3, lt⟩ := line_facts H2b.out
  go_wp2_with fail
  refine bodyPost_ret (v := .tuple #[.agg #[.slice A n c, .int .i64 (t : Int)], .bool false]) (by simp [results, Tryd.results75, go_sem, m0, m1]) rfl ?_
  have hb := set2_below HB2.out (Nat.le_succ w.heap.size) (.slice A n c) (.int .i64 (t : Int))
  exact ⟨⟨A, c, rfl, HR0.out.at_ hb⟩, hb⟩

set_option maxHeartbeats 4000000 in
theorem rty_roomt (A : Option Addr) (l : List UInt8) (n c t m : Nat) (room : Int) (u : UInt8) (w : World) (hn : n = l.length) (hr : Rd w w.heap.size A l c) (hl : n ≤ 4096) (ht : t ≤ n) (hge : ¬ t < n) (hf : ¬ room ≤ (n : Int)) (hf2 : ¬ 4096 ≤ n) (hm : (l.take t ++ ([u] ++ l.drop t)).length = m) :
    Calls Tryd.prog 75 #[.agg #[.slice A n c, .int .i64 (t : Int)], .int .i64 room, .bool true, .int .u8 (u.toNat : Int)] w (GotRZ w (l.take t ++ ([u] ++ l.drop t)) m ((t : Int) + 1) true) := by
  have HN := keepd hn
  have HR0 := keepd hr
  obtain ⟨xt, hxt⟩ : ∃ xt, l.take t = xt := ⟨_, rfl⟩
  have HXT : Hid (t = xt.length) := by show _ = _; rw [← hxt, List.length_take]; omega
  have HXR : Hid (Rd w w.heap.size A xt c) := hxt ▸ hr.take t
  obtain ⟨A2, k, d, hk, hr2, hsl⟩ := tail_of hn hr ht
  have hkn : k = n - t := by rw [hk, List.length_drop, hn]
  have hk4 : k ≤ 100000 := by omega
  have hc1 : n ≤ c := by rw [hn]; exact hr.1
  have hc2 := hr.2.1
  unfold maxLen at hc2
  have s0 : (t : Int) ≤ c := by omega
  have s1 : t ≤ c := by omega
  have s2 : (0 : Int) ≤ (t : Int) := by omega
  have s3 : (t : Int) ≤ (n : Int) := by omega
  have HK := keepd hk
  have HR2 := keepd hr2
  have HXE := keepd hxt
  have hk00 : k = 0 := by omega
  have i0 : ¬ (k : Int) > 0 := by omega
  have i1 : ¬ (0 : Int) < (k : Int) := by omega
  have i2 : ¬ 0 < k := by omega
  clear hk00
  have r0 : ¬ (n : Int) ≥ room := hf
  have r1 : ¬ room ≤ (n : Int) := hf
  have r2 : ¬ (n : Int) ≥ 4096 := by omega
  have r3 : ¬ (4096 : Int) ≤ (n : Int) := by omega
  have r4 : ¬ 4096 ≤ n := hf2
  obtain ⟨LL, hLL⟩ : ∃ LL, l.take t ++ ([u] ++ l.drop t) = LL := ⟨_, rfl⟩
  rw [hLL] at hm ⊢
  have HGL : Hid ((xt ++ [u]) ++ l.drop t = LL) := by show _ = _; rw [← hLL, hxt, List.append_assoc]
  have HM := keepd hm
  clear hm hLL
  clear hn hr hr2 hk hxt hkn
  go_enter Tryd.func75, Tryd.ntmps75
  go_upto_region 1 with fail
  generalize hV : (w.alloc (.cells #[.slice A n c, .int .i64 (t : Int)] 30)).alloc (.cells #[.slice none 0 0, .int .i64 0] 30) = V0
  obtain ⟨H1, H2, HB⟩ := line_new2 _ _ _ _ _ _ hV
  obtain ⟨g0, g1⟩ := H1.out.gr
  clear hV
  refine wp_region_gr (by kernel_rfl) (by kernel_rfl) ?_
  repeat
    refine wpQuiet_step (fun K hK => ?_)
    first
      | (refine gr_want (by rfl) ?_
         go_simp
         first
           | (refine hK _ ?_; clear hK K)
           | (apply Exists.intro
              refine ⟨fun _ => ?_, hK _ ?_⟩
              (fail)
              clear hK K))
      | (refine gr_skip (by rfl) ?_
         go_simp
         refine hK _ ?_
         clear hK K)
  refine wpQuiet_nil ?_
  intro y9
  have HB2 := keepd (bCall HB.out y9.h)
  have H1b := keepd (SR.call H1.out y9.h H1.out.lt)
  have H2b := keepd (SR.call H2.out y9.h H2.out.lt)
  obtain ⟨V, hw3⟩ : ∃ V, y9.W = V := ⟨_, rfl⟩
  rw [hw3] at HB2 H1b H2b
  rw [hw3]
  clear hw3 g0 g1 H1 H2 HB hsl
  obtain ⟨k0, k1, _, _, _⟩ := line_facts H1b.out
  have HLT := keepd H2b.out.lt
  have HP1 : Hid ((xt ++ [u]).length = t + 1) := by show _ = _; rw [List.length_append, ← HXT.out]; rfl
  have HL1 : Hid (([] : List UInt8).length + xt.length ≤ 1000000) := by show _ ≤ _; rw [← HXT.out]; simp; omega
  have HL2 : Hid (xt.length + [u].length ≤ 1000000) := by show _ ≤ _; rw [← HXT.out]; simp; omega
  have HE := keepd (empty_own V _ (Nat.le_refl _))
  have HRV := keepd (HXR.out.at_ HB2.out)
  have CF := keepd fun (W : World) (B : Option Addr) (e : Nat) (hb : Below V.heap.size V W) (ho : Rd W W.heap.size B (xt ++ [u]) e) => HGL.out ▸ of_any B A2 (xt ++ [u]) (l.drop t) (t + 1) k e d m W HP1.out.symm HK.out ho ((HR2.out.at_ HB2.out).at_ hb) (by omega) hk4 (by rw [HGL.out]; exact HM.out)
  have HRa : Hid (Rd (V.alloc (.cells #[] 5)) (V.alloc (.cells #[] 5)).heap.size A xt c) := HRV.out.at_ (bAlloc (Below.refl _ _) _)
  have HSZ : Hid (V.heap.size ≤ (V.alloc (.cells #[] 5)).heap.size) := by show _ ≤ _; rw [World.size_alloc]; omega
  go_wp2_with (first
    | (at_builtin; refine wpList_app _ rfl (.tmp 49) (.tmp 50) rfl V.heap.size _ [] rfl HE.out _ A t c xt rfl HXT.out HRa.out HL1.out HSZ.out ?_; intro v1 wa ho1 hg1 _; rw [List.nil_append] at ho1; have HO1 := keepd ho1; have HB1 := keepd (app_start0 hg1); have lb1 := HB1.out.size; clear ho1 hg1)
    | (at_builtin; refine wpList_app _ rfl (.tmp 51) (.tmp 53) rfl V.heap.size _ xt rfl (HO1.out.alloc _) (wa.heap.size + 1) _ 1 1 [u] rfl rfl (one_rdb wa u) HL2.out (by rw [World.size_alloc]; omega) ?_; intro v2 wb ho2 hg2 _; have HBb := keepd (app_below (bAlloc HB1.out _) (HO1.out.alloc _) hg2); obtain ⟨Bv, dv, hv2, _⟩ := ho2.rd; rw [show (xt ++ [u]).length = t + 1 from HP1.out] at hv2; subst hv2; have HOb := keepd ho2; clear ho2 hg2))
  with_reducible refine (CF.out wb Bv dv HBb.out HOb.out.rdOf).mono ?_
  rintro e w4 ⟨⟨A4, c4, rfl, ho⟩, hb4⟩
  have hb5 := bCall HBb.out hb4
  have HO4 := keepd ho
  have HB4 := keepd (bCall HB2.out hb5)
  have HLT4 := Nat.lt_of_lt_of_le HLT.out HBb.out.size
  obtain ⟨m0, m1, m2, m3, lt⟩ := line_facts (SR.call H2b.out hb5 HLT.out)
  clear ho hb4 hb5
  go_wp2_with fail
  refine bodyPost_ret (v := .tuple #[.agg #[.slice A4 m c4, .int .i64 ((t : Int) + 1)], .bool true]) (by simp [results, Tryd.results75, go_sem, m0, m1]) rfl ?_
  obtain ⟨q1, q2⟩ := gotn_end (z := ((t : Int) + 1)) HLT4 HO4.out HB4.out
  exact ⟨⟨A4, c4, rfl, q1.rdOf⟩, q2⟩

set_option maxHeartbeats 4000000 in
theorem rty_fullfa (A : Option Addr) (l : List UInt8) (n c t : Nat) (room : Int) (u : UInt8) (w : World) (hn : n = l.length) (hr : Rd w w.heap.size A l c) (hl : n ≤ 4096) (ht : t ≤ n) (hf : room ≤ (n : Int)) :
    Calls Tryd.prog 75 #[.agg #[.slice A n c, .int .i64 (t : Int)], .int .i64 room, .bool false, .int .u8 (u.toNat : Int)] w (GotRZ w l n (t : Int) false) := by
  have HN := keepd hn
  have HR0 := keepd hr
  obtain ⟨xt, hxt⟩ : ∃ xt, l.take t = xt := ⟨_, rfl⟩
  have HXT : Hid (t = xt.length) := by show _ = _; rw [← hxt, List.length_take]; omega
  have HXR : Hid (Rd w w.heap.size A xt c) := hxt ▸ hr.take t
  obtain ⟨A2, k, d, hk, hr2, hsl⟩ := tail_of hn hr ht
  have hkn : k = n - t := by rw [hk, List.length_drop, hn]
  have hk4 : k ≤ 100000 := by omega
  have hc1 : n ≤ c := by rw [hn]; exact hr.1
  have hc2 := hr.2.1
  unfold maxLen at hc2
  have s0 : (t : Int) ≤ c := by omega
  have s1 : t ≤ c := by omega
  have s2 : (0 : Int) ≤ (t : Int) := by omega
  have s3 : (t : Int) ≤ (n : Int) := by omega
  have HK := keepd hk
  have HR2 := keepd hr2
  have HXE := keepd hxt
  have r0 : (n : Int) ≥ room := hf
  have r1 : room ≤ (n : Int) := hf
  clear hn hr hr2 hk hxt hkn
  go_enter Tryd.func75, Tryd.ntmps75
  go_upto_region 1 with fail
  generalize hV : (w.alloc (.cells #[.slice A n c, .int .i64 (t : Int)] 30)).alloc (.cells #[.slice none 0 0, .int .i64 0] 30) = V0
  obtain ⟨H1, H2, HB⟩ := line_new2 _ _ _ _ _ _ hV
  obtain ⟨g0, g1⟩ := H1.out.gr
  clear hV
  refine wp_region_gr (by kernel_rfl) (by kernel_rfl) ?_
  repeat
    refine wpQuiet_step (fun K hK => ?_)
    first
      | (refine gr_want (by rfl) ?_
         go_simp
         first
           | (refine hK _ ?_; clear hK K)
           | (apply Exists.intro
              refine ⟨fun _ => ?_, hK _ ?_⟩
              (fail)
              clear hK K))
      | (refine gr_skip (by rfl) ?_
         go_simp
         refine hK _ ?_
         clear hK K)
  refine wpQuiet_nil ?_
  intro y9
  have HB2 := keepd (bCall HB.out y9.h)
  have H1b := keepd (SR.call H1.out y9.h H1.out.lt)
  have H2b := keepd (SR.call H2.out y9.h H2.out.lt)
  obtain ⟨V, hw3⟩ : ∃ V, y9.W = V := ⟨_, rfl⟩
  rw [hw3] at HB2 H1b H2b
  rw [hw3]
  clear hw3 g0 g1 H1 H2 HB hsl
  obtain ⟨k0, k1, _, _, _⟩ := line_facts H1b.out
  have HLT := keepd H2b.out.lt
  obtain ⟨m0, m1, m2, m3, lt⟩ := line_facts H2b.out
  go_wp2_with fail
  refine bodyPost_ret (v := .tuple #[.agg #[.slice A n c, .int .i64 (t : Int)], .bool false]) (by simp [results, Tryd.results75, go_sem, m0, m1]) rfl ?_
  have hb := set2_below HB2.out (Nat.le_succ w.heap.size) (.slice A n c) (.int .i64 (t : Int))
  exact ⟨⟨A, c, rfl, HR0.out.at_ hb⟩, hb⟩

set_option maxHeartbeats 4000000 in
theorem rty_fullfb (A : Option Addr) (l : List UInt8) (n c t : Nat) (room : Int) (u : UInt8) (w : World) (hn : n = l.length) (hr : Rd w w.heap.size A l c) (hl : n ≤ 4096) (ht : t ≤ n) (hf : ¬ room ≤ (n : Int)) (hf2 : 4096 ≤ n) :
    Calls Tryd.prog 75 #[.agg #[.slice A n c, .int .i64 (t : Int)], .int .i64 room, .bool false, .int .u8 (u.toNat : Int)] w (GotRZ w l n (t : Int) false) := by
  have HN := keepd hn
  have HR0 := keepd hr
  obtain ⟨xt, hxt⟩ : ∃ xt, l.take t = xt := ⟨_, rfl⟩
  have HXT : Hid (t = xt.length) := by show _ = _; rw [← hxt, List.length_take]; omega
  have HXR : Hid (Rd w w.heap.size A xt c) := hxt ▸ hr.take t
  obtain ⟨A2, k, d, hk, hr2, hsl⟩ := tail_of hn hr ht
  have hkn : k = n - t := by rw [hk, List.length_drop, hn]
  have hk4 : k ≤ 100000 := by omega
  have hc1 : n ≤ c := by rw [hn]; exact hr.1
  have hc2 := hr.2.1
  unfold maxLen at hc2
  have s0 : (t : Int) ≤ c := by omega
  have s1 : t ≤ c := by omega
  have s2 : (0 : Int) ≤ (t : Int) := by omega
  have s3 : (t : Int) ≤ (n : Int) := by omega
  have HK := keepd hk
  have HR2 := keepd hr2
  have HXE := keepd hxt
  have r0 : ¬ (n : Int) ≥ room := hf
  have r1 : ¬ room ≤ (n : Int) := hf
  have r2 : (n : Int) ≥ 4096 := by omega
  have r3 : (4096 : Int) ≤ (n : Int) := by omega
  have r4 : 4096 ≤ n := hf2
  clear hn hr hr2 hk hxt hkn
  go_enter Tryd.func75, Tryd.ntmps75
  go_upto_region 1 with fail
  generalize hV : (w.alloc (.cells #[.slice A n c, .int .i64 (t : Int)] 30)).alloc (.cells #[.slice none 0 0, .int .i64 0] 30) = V0
  obtain ⟨H1, H2, HB⟩ := line_new2 _ _ _ _ _ _ hV
  obtain ⟨g0, g1⟩ := H1.out.gr
  clear hV
  refine wp_region_gr (by kernel_rfl) (by kernel_rfl) ?_
  repeat
    refine wpQuiet_step (fun K hK => ?_)
    first
      | (refine gr_want (by rfl) ?_
         go_simp
         first
           | (refine hK _ ?_; clear hK K)
           | (apply Exists.intro
              refine ⟨fun _ => ?_, hK _ ?_⟩
              (fail)
              clear hK K))
      | (refine gr_skip (by rfl) ?_
         go_simp
         refine hK _ ?_
         clear hK K)
  refine wpQuiet_nil ?_
  intro y9
  have HB2 := keepd (bCall HB.out y9.h)
  have H1b := keepd (SR.call H1.out y9.h H1.out.lt)
  have H2b := keepd (SR.call H2.out y9.h H2.out.lt)
  obtain ⟨V, hw3⟩ : ∃ V, y9.W = V := ⟨_, rfl⟩
  rw [hw3] at HB2 H1b H2b
  rw [hw3]
  clear hw3 g0 g1 H1 H2 HB hsl
  obtain ⟨k0, k1, _, _, _⟩ := line_facts H1b.out
  have HLT := keepd H2b.out.lt
  obtain ⟨m0, m1, m2, m3, lt⟩ := line_facts H2b.out
  go_wp2_with fail
  refine bodyPost_ret (v := .tuple #[.agg #[.slice A n c, .int .i64 (t : Int)], .bool false]) (by simp [results, Tryd.results75, go_sem, m0, m1]) rfl ?_
  have hb := set2_below HB2.out (Nat.le_succ w.heap.size) (.slice A n c) (.int .i64 (t : Int))
  exact ⟨⟨A, c, rfl, HR0.out.at_ hb⟩, hb⟩

set_option maxHeartbeats 4000000 in
theorem rty_roomf (A : Option Addr) (l : List UInt8) (n c t m : Nat) (room : Int) (u : UInt8) (w : World) (hn : n = l.length) (hr : Rd w w.heap.size A l c) (hl : n ≤ 4096) (ht : t ≤ n) (hf : ¬ room ≤ (n : Int)) (hf2 : ¬ 4096 ≤ n) (hm : (l.take t ++ ([u] ++ l.drop t)).length = m) :
    Calls Tryd.prog 75 #[.agg #[.slice A n c, .int .i64 (t : Int)], .int .i64 room, .bool false, .int .u8 (u.toNat : Int)] w (GotRZ w (l.take t ++ ([u] ++ l.drop t)) m ((t : Int) + 1) true) := by
  have HN := keepd hn
  have HR0 := keepd hr
  obtain ⟨xt, hxt⟩ : ∃ xt, l.take t = xt := ⟨_, rfl⟩
  have HXT : Hid (t = xt.length) := by show _ = _; rw [← hxt, List.length_take]; omega
  have HXR : Hid (Rd w w.heap.size A xt c) := hxt ▸ hr.take t
  obtain ⟨A2, k, d, hk, hr2, hsl⟩ := tail_of hn hr ht
  have hkn : k = n - t := by rw [hk, List.length_drop, hn]
  have hk4 : k ≤ 100000 := by omega
  have hc1 : n ≤ c := by rw [hn]; exact hr.1
  have hc2 := hr.2.1
  unfold maxLen at hc2
  have s0 : (t : Int) ≤ c := by omega
  have s1 : t ≤ c := by omega
  have s2 : (0 : Int) ≤ (t : Int) := by omega
  have s3 : (t : Int) ≤ (n : Int) := by omega
  have HK := keepd hk
  have HR2 := keepd hr2
  have HXE := keepd hxt
  have r0 : ¬ (n : Int) ≥ room := hf
  have r1 : ¬ room ≤ (n : Int) := hf
  have r2 : ¬ (n : Int) ≥ 4096 := by omega
  have r3 : ¬ (4096 : Int) ≤ (n : Int) := by omega
  have r4 : ¬ 4096 ≤ n := hf2
  obtain ⟨LL, hLL⟩ : ∃ LL, l.take t ++ ([u] ++ l.drop t) = LL := ⟨_, rfl⟩
  rw [hLL] at hm ⊢
  have HGL : Hid ((xt ++ [u]) ++ l.drop t = LL) := by show _ = _; rw [← hLL, hxt, List.append_assoc]
  have HM := keepd hm
  clear hm hLL
  clear hn hr hr2 hk hxt hkn
  go_enter Tryd.func75, Tryd.ntmps75
  go_upto_region 1 with fail
  generalize hV : (w.alloc (.cells #[.slice A n c, .int .i64 (t : Int)] 30)).alloc (.cells #[.slice none 0 0, .int .i64 0] 30) = V0
  obtain ⟨H1, H2, HB⟩ := line_new2 _ _ _ _ _ _ hV
  obtain ⟨g0, g1⟩ := H1.out.gr
  clear hV
  refine wp_region_gr (by kernel_rfl) (by kernel_rfl) ?_
  repeat
    refine wpQuiet_step (fun K hK => ?_)
    first
      | (refine gr_want (by rfl) ?_
         go_simp
         first
           | (refine hK _ ?_; clear hK K)
           | (apply Exists.intro
              refine ⟨fun _ => ?_, hK _ ?_⟩
              (fail)
              clear hK K))
      | (refine gr_skip (by rfl) ?_
         go_simp
         refine hK _ ?_
         clear hK K)
  refine wpQuiet_nil ?_
  intro y9
  have HB2 := keepd (bCall HB.out y9.h)
  have H1b := keepd (SR.call H1.out y9.h H1.out.lt)
  have H2b := keepd (SR.call H2.out y9.h H2.out.lt)
  obtain ⟨V, hw3⟩ : ∃ V, y9.W = V := ⟨_, rfl⟩
  rw [hw3] at HB2 H1b H2b
  rw [hw3]
  clear hw3 g0 g1 H1 H2 HB hsl
  obtain ⟨k0, k1, _, _, _⟩ := line_facts H1b.out
  have HLT := keepd H2b.out.lt
  have HP1 : Hid ((xt ++ [u]).length = t + 1) := by show _ = _; rw [List.length_append, ← HXT.out]; rfl
  have HL1 : Hid (([] : List UInt8).length + xt.length ≤ 1000000) := by show _ ≤ _; rw [← HXT.out]; simp; omega
  have HL2 : Hid (xt.length + [u].length ≤ 1000000) := by show _ ≤ _; rw [← HXT.out]; simp; omega
  have HE := keepd (empty_own V _ (Nat.le_refl _))
  have HRV := keepd (HXR.out.at_ HB2.out)
  have CF := keepd fun (W : World) (B : Option Addr) (e : Nat) (hb : Below V.heap.size V W) (ho : Rd W W.heap.size B (xt ++ [u]) e) => HGL.out ▸ of_any B A2 (xt ++ [u]) (l.drop t) (t + 1) k e d m W HP1.out.symm HK.out ho ((HR2.out.at_ HB2.out).at_ hb) (by omega) hk4 (by rw [HGL.out]; exact HM.out)
  have HRa : Hid (Rd (V.alloc (.cells #[] 5)) (V.alloc (.cells #[] 5)).heap.size A xt c) := HRV.out.at_ (bAlloc (Below.refl _ _) _)
  have HSZ : Hid (V.heap.size ≤ (V.alloc (.cells #[] 5)).heap.size) := by show _ ≤ _; rw [World.size_alloc]; omega
  go_wp2_with (first
    | (at_builtin; refine wpList_app _ rfl (.tmp 49) (.tmp 50) rfl V.heap.size _ [] rfl HE.out _ A t c xt rfl HXT.out HRa.out HL1.out HSZ.out ?_; intro v1 wa ho1 hg1 _; rw [List.nil_append] at ho1; have HO1 := keepd ho1; have HB1 := keepd (app_start0 hg1); have lb1 := HB1.out.size; clear ho1 hg1)
    | (at_builtin; refine wpList_app _ rfl (.tmp 51) (.tmp 53) rfl V.heap.size _ xt rfl (HO1.out.alloc _) (wa.heap.size + 1) _ 1 1 [u] rfl rfl (one_rdb wa u) HL2.out (by rw [World.size_alloc]; omega) ?_; intro v2 wb ho2 hg2 _; have HBb := keepd (app_below (bAlloc HB1.out _) (HO1.out.alloc _) hg2); obtain ⟨Bv, dv, hv2, _⟩ := ho2.rd; rw [show (xt ++ [u]).length = t + 1 from HP1.out] at hv2; subst hv2; have HOb := keepd ho2; clear ho2 hg2))
  with_reducible refine (CF.out wb Bv dv HBb.out HOb.out.rdOf).mono ?_
  rintro e w4 ⟨⟨A4, c4, rfl, ho⟩, hb4⟩
  have hb5 := bCall HBb.out hb4
  have HO4 := keepd ho
  have HB4 := keepd (bCall HB2.out hb5)
  have HLT4 := Nat.lt_of_lt_of_le HLT.out HBb.out.size
  obtain ⟨m0, m1, m2, m3, lt⟩ := line_facts (SR.call H2b.out hb5 HLT.out)
  clear ho hb4 hb5
  go_wp2_with fail
  refine bodyPost_ret (v := .tuple #[.agg #[.slice A4 m c4, .int .i64 ((t : Int) + 1)], .bool true]) (by simp [results, Tryd.results75, go_sem, m0, m1]) rfl ?_
  obtain ⟨q1, q2⟩ := gotn_end (z := ((t : Int) + 1)) HLT4 HO4.out HB4.out
  exact ⟨⟨A4, c4, rfl, q1.rdOf⟩, q2⟩

theorem rty_go (A : Option Addr) (l L : List UInt8) (n c t s m : Nat) (room : Int) (over : Bool) (u : UInt8) (d : Bool) (w : World) (hn : n = l.length) (hr : Rd w w.heap.size A l c) (hl : n ≤ 4096) (ht : t ≤ n) (hf : tyR l t room over u = (L, s)) (hd : (tyL l t room over u).isSome = d) (hm : L.length = m) :
    Calls Tryd.prog 75 #[.agg #[.slice A n c, .int .i64 (t : Int)], .int .i64 room, .bool over, .int .u8 (u.toNat : Int)] w (GotRZ w L m (s : Int) d) := by
  unfold tyR at hf
  cases hq : tyL l t room over u with
  | none =>
    rw [hq] at hf hd
    simp only [Option.getD_none, Prod.mk.injEq] at hf
    obtain ⟨rfl, rfl⟩ := hf
    subst hd
    unfold tyL at hq
    rw [← hn] at hq hm
    subst hm
    split at hq
    · cases hq
    · rename_i h0
      split at hq
      · rename_i h1
        have hx : room ≤ (n : Int) ∨ (¬ room ≤ (n : Int) ∧ 4096 ≤ n) := by omega
        cases over
        · rcases hx with h | ⟨h, h2⟩
          · exact rty_fullfa A l n c t room u w hn hr hl ht h
          · exact rty_fullfb A l n c t room u w hn hr hl ht h h2
        · have hge : ¬ t < n := by simpa using h0
          rcases hx with h | ⟨h, h2⟩
          · exact rty_fullta A l n c t room u w hn hr hl ht hge h
          · exact rty_fulltb A l n c t room u w hn hr hl ht hge h h2
      · cases hq
  | some p =>
    rw [hq] at hf hd
    subst hd
    obtain ⟨P, q⟩ := p
    simp only [Option.getD_some, Prod.mk.injEq] at hf
    obtain ⟨rfl, rfl⟩ := hf
    unfold tyL at hq
    rw [← hn] at hq
    split at hq
    · rename_i h0
      simp only [Option.some.injEq, Prod.mk.injEq] at hq
      obtain ⟨rfl, rfl⟩ := hq
      simp only [Bool.and_eq_true, decide_eq_true_eq] at h0
      obtain ⟨rfl, hlt⟩ := h0
      exact rty_over A l n c t m room u w hn hr hl ht hlt hm
    · rename_i h0
      split at hq
      · cases hq
      · rename_i h1
        simp only [Option.some.injEq, Prod.mk.injEq] at hq
        obtain ⟨rfl, rfl⟩ := hq
        cases over
        · exact rty_roomf A l n c t m room u w hn hr hl ht (by omega) (by omega) hm
        · have hge : ¬ t < n := by simpa using h0
          exact rty_roomt A l n c t m room u w hn hr hl ht hge (by omega) (by omega) hm

end Go.Proofs.YtlfmbfecajhffaaDoor
