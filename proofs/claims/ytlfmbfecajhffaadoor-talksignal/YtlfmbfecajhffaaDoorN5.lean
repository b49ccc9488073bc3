/-
  The contract of Keys. No conditions beyond those each theorem states.
-/
import Derived.Test.YtlfmbfecajhffaaDoorA7
namespace Go.Proofs.YtlfmbfecajhffaaDoor
open Go.RowKit
set_option maxRecDepth 100000

attribute [local go_sem ↓] ex_ld25 ex_st25 ex_al25 ex_bu25 ex_ix25 ex_eq25 ex_ne25 ex_eq23 ex_ne23 ex_ld25o ex_st65 ex_al65 ex_bu65 ex_bu65s
attribute [local go_sem] ptrB_at okPtr_at aggC_at agg62 agg69 isC_at isT_at eqV_t eqV_c isRow_new isRow_new65 World.setRow_alloc_new ptr4_at okPtr4_at cutT_at isI_at isS_at bW_at bWs_at

/-- What Keys answers. -/
def GotKy (w : World) (l : List UInt8) (n : Nat) (e : Ending) (w' : World) : Prop := (∃ A c, e = .returned (.slice A n c) ∧ Own w' w.heap.size (.slice A n c) l) ∧ Below w.heap.size w w'
theorem GotKy.r {w w' : World} {l : List UInt8} {n : Nat} {e : Ending} (h : GotKy w l n e w') : GotR w l n e w' := by
  obtain ⟨⟨A, c, h1, h2⟩, h3⟩ := h
  exact ⟨⟨A, c, h1, h2.rdOf⟩, h3⟩
theorem tabst_new (w : World) (X : Tb) (a b x y : Value) (V : World) (hV : (w.alloc (.cells (cs X).toArray 25)).alloc (.cells #[a, b, x, y] 32) = V) : Hid (TB V w.heap.size X) ∧ Hid (SR 32 V (w.heap.size + 1) [a, b, x, y]) ∧ Hid (Below w.heap.size w V) := by
  subst hV
  refine ⟨SR.alloc (SR.new 25 w _) _, ?_, bAlloc (bAlloc (Below.refl _ _) _) _⟩
  have := SR.new 32 (w.alloc (.cells (cs X).toArray 25)) [a, b, x, y]
  rw [World.size_alloc] at this
  exact this
theorem parts_new {w : World} {B1 B2 B3 : Option Addr} {m1 m2 m3 d1 d2 d3 : Nat} {y1 y2 y3 : List UInt8} (h1 : y1.length = m1) (h2 : y2.length = m2) (h3 : y3.length = m3) (r1 : Rd w w.heap.size B1 y1 d1) (r2 : Rd w w.heap.size B2 y2 d2) (r3 : Rd w w.heap.size B3 y3 d3) :
    RdP (w.alloc (.cells #[.slice B1 m1 d1, .slice B2 m2 d2, .slice B3 m3 d3] 28)) w.heap.size [⟨B1, m1, d1, y1⟩, ⟨B2, m2, d2, y2⟩, ⟨B3, m3, d3, y3⟩] := by
  refine ⟨heap_alloc_new w _, fun p hp => ?_⟩
  have hb : Below w.heap.size w (w.alloc (.cells #[.slice B1 m1 d1, .slice B2 m2 d2, .slice B3 m3 d3] 28)) := bAlloc (Below.refl _ _) _
  simp only [List.mem_cons, List.not_mem_nil, or_false] at hp
  rcases hp with rfl | rfl | rfl
  · exact ⟨h1.symm, r1.at_ hb⟩
  · exact ⟨h2.symm, r2.at_ hb⟩
  · exact ⟨h3.symm, r3.at_ hb⟩

theorem kbad_any (X : Tb) (A : Option Addr) (n c : Nat) (z : Int) (ov li : Bool) (w : World) (hz : mayV n z = false) :
    Calls Tryd.prog 33 #[tv X, .agg #[.slice A n c, .int .i64 z, .bool ov, .bool li]] w (GotKy w [] 0) := by
  have CK := keepd fun W : World => echeck_bad A n c z ov li W hz
  clear hz
  go_enter Tryd.func33, Tryd.ntmps33
  go_upto_region 1 with fail
  generalize hV : (w.alloc (.cells (cs X).toArray 25)).alloc (.cells #[.slice A n c, .int .i64 z, .bool ov, .bool li] 32) = V
  obtain ⟨HT, HS, HB⟩ := tabst_new _ _ _ _ _ _ _ hV
  obtain ⟨k0, k1, k2, k3, _, _, _, _, kt⟩ := st_facts HS.out
  clear hV
  go_wp2_with fail
  with_reducible refine (CK.out _).mono ?_
  rintro e w2 ⟨rfl, hb2⟩
  have HB2 := keepd (bCall HB.out hb2)
  go_wp2_with fail
  go_ret
  exact ⟨⟨none, 0, rfl, Own.nil _ _⟩, HB2.out⟩

set_option maxHeartbeats 4000000 in
theorem kgood_any (X : Tb) (hX : TbO X) (A : Option Addr) (l : List UInt8) (n c t : Nat) (ov li : Bool) (w : World) (hn : n = l.length) (hr : Rd w w.heap.size A l c) (h1 : t ≤ n) (h2 : n ≤ 4096) (L : List UInt8) (m : Nat) (hL : keysL X ⟨l, t, ov, li⟩ = L) (hm : L.length = m) :
    Calls Tryd.prog 33 #[tv X, .agg #[.slice A n c, .int .i64 (t : Int), .bool ov, .bool li]] w (GotKy w L m) := by
  have HX := keepd hX
  have CK := keepd fun W : World => echeck_ok A n c t ov li W h2 h1
  have HR0 := keepd hr
  have HL := keepd hL
  have HM := keepd hm
  have hnc : n ≤ c := by rw [hn]; exact hr.1
  have hcm := hr.2.1
  unfold maxLen at hcm
  have hs := slice_from A n c t h1
  have hrd := hr.drop t (by omega)
  have hrt := hr.take t
  have hb1 : (l.drop t).length = n - t := by rw [List.length_drop, ← hn]
  have ha1 : (l.take t).length = t := by rw [List.length_take, ← hn]; omega
  have hLF : keysL X ⟨l, t, ov, li⟩ = toldL X (l.drop t) ++ (homeL X (l.drop t).length ++ toldL X (l.take t)) ++ (if ov then kL X 26 else []) ++ (if li then kL X 14 else []) := rfl
  rw [hL, hb1] at hLF
  generalize l.drop t = b at *
  generalize l.take t = a at *
  generalize (if c = t then A else A.map (·.add t)) = A2 at hs hrd
  obtain ⟨k2, hk2⟩ : ∃ k2, n - t = k2 := ⟨_, rfl⟩
  rw [hk2] at hs hb1 hLF
  have h3 : k2 ≤ 4096 := by omega
  obtain ⟨c2, hc2⟩ : ∃ c2, c - t = c2 := ⟨_, rfl⟩
  rw [hc2] at hs hrd
  have HA := keepd hrt
  have HBb := keepd hrd
  have HLa := keepd ha1
  have HLb := keepd hb1
  obtain ⟨y1, e1⟩ : ∃ y, toldL X b = y := ⟨_, rfl⟩
  obtain ⟨y2, e2⟩ : ∃ y, homeL X k2 = y := ⟨_, rfl⟩
  obtain ⟨y3, e3⟩ : ∃ y, toldL X a = y := ⟨_, rfl⟩
  obtain ⟨m1, f1⟩ : ∃ y, y1.length = y := ⟨_, rfl⟩
  obtain ⟨m2, f2⟩ : ∃ y, y2.length = y := ⟨_, rfl⟩
  obtain ⟨m3, f3⟩ : ∃ y, y3.length = y := ⟨_, rfl⟩
  have g1 := (toldL_len X b).2
  have g2 := homeL_len X k2
  have g3 := (toldL_len X a).2
  rw [e1, f1] at g1
  rw [e2, f2] at g2
  rw [e3, f3] at g3
  have C2 := keepd fun W : World => home_any X hX k2 y2 m2 W h3 e2 f2
  rw [e1, e2, e3] at hLF
  obtain ⟨L5, e5⟩ : ∃ y, y1 ++ (y2 ++ y3) = y := ⟨_, rfl⟩
  obtain ⟨m5, f5⟩ : ∃ y, L5.length = y := ⟨_, rfl⟩
  have hLE : L5.length ≤ 20000 := by rw [← e5]; simp only [List.length_append]; omega
  rw [e5] at hLF
  have HFIN := keepd hLF
  have HLE := keepd hLE
  have C4 := keepd fun (W : World) (g : Nat) (B1 B2 B3 : Option Addr) (d1 d2 d3 : Nat) (h : RdP W g [⟨B1, m1, d1, y1⟩, ⟨B2, m2, d2, y2⟩, ⟨B3, m3, d3, y3⟩]) => concat_any g 3 _ L5 W h rfl (by omega) (by rw [← e5]; simp [flat]) (by omega)
  rw [f5] at C4
  have C1' := keepd fun (W : World) (g h : Nat) (B : Option Addr) (d : Nat) (hr : Rd W W.heap.size A2 b c2) (hg : TB W g X) (hh : SR 28 W h [.slice B (kL X 14).length d]) (hb : Rd W W.heap.size B (kL X 14) d) => told_any X A2 B b k2 c2 d g h y1 m1 W hb1.symm hr h3 hg hh hb e1 f1
  have C3' := keepd fun (W : World) (g h : Nat) (B : Option Addr) (d : Nat) (hr : Rd W W.heap.size A a c) (hg : TB W g X) (hh : SR 28 W h [.slice B (kL X 14).length d]) (hb : Rd W W.heap.size B (kL X 14) d) => told_any X A B a t c d g h y3 m3 W ha1.symm hr (by omega) hg hh hb e3 f3
  have HM1 := keepd f1
  have HM2 := keepd f2
  have HM3 := keepd f3
  have CT := keepd fun W : World => telling_any X hX W
  clear hX hL hm hn hr e1 e2 e3 e5 f1 f2 f3 f5 g1 g2 g3 hLE hLF ha1 hb1 hrt hrd hk2 hc2
  have i0 : (0 : Int) ≤ (t : Int) := by omega
  have i1 : (t : Int) ≤ (n : Int) := by omega
  have i2 : (n : Int) ≤ (c : Int) := by omega
  have i3 : (t : Int) ≤ (c : Int) := by omega
  go_enter Tryd.func33, Tryd.ntmps33
  go_upto_region 1 with fail
  generalize hV : (w.alloc (.cells (cs X).toArray 25)).alloc (.cells #[.slice A n c, .int .i64 (t : Int), .bool ov, .bool li] 32) = V0
  obtain ⟨HT0, HS0, HB0⟩ := tabst_new _ _ _ _ _ _ _ hV
  obtain ⟨k0, k1, k2', k3, _, _, _, _, kt⟩ := st_facts HS0.out
  clear hV
  go_wp2_with fail
  with_reducible refine (CK.out _).mono ?_
  rintro e w0 ⟨rfl, hb0⟩
  have HT1 := keepd (SR.call HT0.out hb0 (SR.lt HT0.out))
  have HS1 := keepd (SR.call HS0.out hb0 HS0.out.lt)
  replace HB0 := keepd (bCall HB0.out hb0)
  clear hb0 CK k0 k1 k2' k3 kt HT0 HS0
  obtain ⟨k0, k1, k2', k3, _, _, _, _, kt⟩ := st_facts HS1.out
  go_wp2_with fail
  go_quiet (fail)
  have HT2 : Hid (TB (w0.drewN nq) w.heap.size X) := HT1.out
  have HS2 : Hid (SR 32 (w0.drewN nq) (w.heap.size + 1) [.slice A n c, .int .i64 (t : Int), .bool ov, .bool li]) := HS1.out
  have HBq : Hid (Below w.heap.size w (w0.drewN nq)) := bDrewN HB0.out nq
  obtain ⟨W0, hw⟩ : ∃ V, w0.drewN nq = V := ⟨_, rfl⟩
  rw [hw] at HT2 HS2 HBq
  rw [hw]
  clear hw k0 k1 k2' k3 kt HT1 HS1 HB0
  obtain ⟨q0, q1⟩ := TB.facts HT2.out
  go_wp2_with fail
  with_reducible refine (CT.out _).mono ?_
  rintro e V ⟨g, h, B0, d0, rfl, hg, hh, hrb, hbv⟩
  have HT := keepd (SR.call HT2.out hbv (SR.lt HT2.out))
  have HS := keepd (SR.call HS2.out hbv HS2.out.lt)
  have HB0 := keepd (bCall HBq.out hbv)
  have HGH := keepd (And.intro hg (And.intro hh hrb))
  clear hg hh hrb hbv q0 q1 CT HT2 HS2 HBq
  have C1 : Hid (∀ W, Below V.heap.size V W → Calls Tryd.prog 69 #[.slice A2 k2 c2, .pointer (some ⟨g, 0, none⟩), .pointer (some ⟨h, 0, none⟩)] W (GotR W y1 m1)) := fun W hb => C1'.out W g h B0 d0 ((HBb.out.at_ HB0.out).at_ hb) (SR.call HGH.out.1 hb (SR.lt HGH.out.1)) (SR.call HGH.out.2.1 hb HGH.out.2.1.lt) (HGH.out.2.2.at_ hb)
  have C3 : Hid (∀ W, Below V.heap.size V W → Calls Tryd.prog 69 #[.slice A t c, .pointer (some ⟨g, 0, none⟩), .pointer (some ⟨h, 0, none⟩)] W (GotR W y3 m3)) := fun W hb => C3'.out W g h B0 d0 ((HA.out.at_ HB0.out).at_ hb) (SR.call HGH.out.1 hb (SR.lt HGH.out.1)) (SR.call HGH.out.2.1 hb HGH.out.2.1.lt) (HGH.out.2.2.at_ hb)
  clear C1' C3' HGH HBb HA HR0
  go_wp2_with fail
  refine wp_region_held_drew (S := fun W => rowOf W w.heap.size = (cs X).toArray ∧ isRow W 25 w.heap.size 62 = true ∧ Below V.heap.size V W) (by kernel_rfl) (tB HT.out (Below.refl _ _).drew) (fun hHeld => ?_)
  refine wpAnyH_take (i := 0) (oi := { dst := some 28, op := Op.move (Operand.tmp 7), type := 66, pos := "renew.go:29", after := #[], guard := none }) (v := .func (.func 69) #[] #[.pointer (some ⟨g, 0, none⟩), .pointer (some ⟨h, 0, none⟩)]) rfl (by kernel_rfl) (by kernel_rfl) (by kernel_rfl) (fun _ _ _ h => h) (Or.inl ⟨by rfl, fun W hW => ?_⟩) hHeld ?_
  · obtain ⟨q0, q1, q2⟩ := hW
    go_simp
  simp only [Act.put, List.setIfInBounds_toArray, List.set_cons_zero, List.set_cons_succ]
  refine wpAnyH_take (i := 1) (oi := { dst := some 29, op := Op.move (Operand.tmp 6), type := 28, pos := "renew.go:29", after := #[], guard := none }) (v := .slice A2 k2 c2) rfl (by kernel_rfl) (by kernel_rfl) (by kernel_rfl) (fun _ _ _ h => h) (Or.inl ⟨by rfl, fun W hW => ?_⟩) hHeld ?_
  · obtain ⟨q0, q1, q2⟩ := hW
    go_simp
  simp only [Act.put, List.setIfInBounds_toArray, List.set_cons_zero, List.set_cons_succ]
  refine wpAnyH_take (i := 3) (oi := { dst := some 31, op := Op.load 25 (Operand.tmp 2), type := 25, pos := "renew.go:29", after := #[], guard := none }) (v := tv X) rfl (by kernel_rfl) (by kernel_rfl) (by kernel_rfl) (fun _ _ _ h => h) (Or.inl ⟨by rfl, fun W hW => ?_⟩) hHeld ?_
  · obtain ⟨q0, q1, q2⟩ := hW
    go_simp
  simp only [Act.put, List.setIfInBounds_toArray, List.set_cons_zero, List.set_cons_succ]
  refine wpAnyH_take (i := 4) (oi := { dst := some 32, op := Op.move (Operand.tmp 6), type := 28, pos := "renew.go:29", after := #[], guard := none }) (v := .slice A2 k2 c2) rfl (by kernel_rfl) (by kernel_rfl) (by kernel_rfl) (fun _ _ _ h => h) (Or.inl ⟨by rfl, fun W hW => ?_⟩) hHeld ?_
  · obtain ⟨q0, q1, q2⟩ := hW
    go_simp
  simp only [Act.put, List.setIfInBounds_toArray, List.set_cons_zero, List.set_cons_succ]
  refine wpAnyH_take (i := 5) (oi := { dst := some 33, op := Op.call { callee := Callee.builtin Builtin.len, args := #[Operand.tmp 32], argTypes := #[28] }, type := 3, pos := "renew.go:29", after := #[{ on := 4, ground := Ground.data }], guard := none }) (v := .int .i64 (k2 : Int)) rfl (by kernel_rfl) (by kernel_rfl) (by kernel_rfl) (fun _ _ _ h => h) (Or.inl ⟨by rfl, fun W hW => ?_⟩) hHeld ?_
  · obtain ⟨q0, q1, q2⟩ := hW
    go_simp
  simp only [Act.put, List.setIfInBounds_toArray, List.set_cons_zero, List.set_cons_succ]
  refine wpAnyH_take (i := 7) (oi := { dst := some 35, op := Op.move (Operand.tmp 7), type := 66, pos := "renew.go:29", after := #[], guard := none }) (v := .func (.func 69) #[] #[.pointer (some ⟨g, 0, none⟩), .pointer (some ⟨h, 0, none⟩)]) rfl (by kernel_rfl) (by kernel_rfl) (by kernel_rfl) (fun _ _ _ h => h) (Or.inl ⟨by rfl, fun W hW => ?_⟩) hHeld ?_
  · obtain ⟨q0, q1, q2⟩ := hW
    go_simp
  simp only [Act.put, List.setIfInBounds_toArray, List.set_cons_zero, List.set_cons_succ]
  refine wpAnyH_take (i := 8) (oi := { dst := some 36, op := Op.move (Operand.tmp 5), type := 28, pos := "renew.go:29", after := #[], guard := none }) (v := .slice A t c) rfl (by kernel_rfl) (by kernel_rfl) (by kernel_rfl) (fun _ _ _ h => h) (Or.inl ⟨by rfl, fun W hW => ?_⟩) hHeld ?_
  · obtain ⟨q0, q1, q2⟩ := hW
    go_simp
  simp only [Act.put, List.setIfInBounds_toArray, List.set_cons_zero, List.set_cons_succ]
  refine wpAnyH_ready (rs := [2]) (by kernel_rfl) (by simp) ?_
  refine AllReadyH.cons (o := { dst := some 30, op := Op.call { callee := Callee.value (Operand.tmp 28), args := #[Operand.tmp 29], argTypes := #[28] }, type := 28, pos := "renew.go:29", after := #[{ on := 0, ground := Ground.data }, { on := 1, ground := Ground.data }], guard := none }) rfl (fun K hK => ?_) AllReadyH.nil
  go_simp
  with_reducible refine (C1.out _ (Below.refl _ _).drew).mono ?_
  rintro e w1 ⟨⟨B1, d1, rfl, hr1⟩, hb1⟩
  have HB1 : Hid (Below V.heap.size V w1) := bCall (Below.refl _ _).drew hb1
  go_wp2_with fail
  refine hK.out _ _ (tB HT.out HB1.out) (fun hHeld2 => ?_)
  clear hK K hHeld
  have hHeld := hHeld2
  clear hHeld2
  try simp only [Act.put, List.setIfInBounds_toArray, List.set_cons_zero, List.set_cons_succ]
  refine wpAnyH_ready (rs := [6]) (by kernel_rfl) (by simp) ?_
  refine AllReadyH.cons (o := { dst := some 34, op := Op.call { callee := Callee.value (Operand.func 54), args := #[Operand.tmp 31, Operand.tmp 33], argTypes := #[25, 3] }, type := 28, pos := "renew.go:29", after := #[{ on := 3, ground := Ground.data }, { on := 5, ground := Ground.data }, { on := 2, ground := Ground.chain }], guard := none }) rfl (fun K hK => ?_) AllReadyH.nil
  go_simp
  with_reducible refine (C2.out _).mono ?_
  rintro e w2 ⟨⟨B2, d2, rfl, hr2⟩, hb2⟩
  have HB2 : Hid (Below V.heap.size V w2) := bCall HB1.out hb2
  go_wp2_with fail
  refine hK.out _ _ (tB HT.out HB2.out) (fun hHeld2 => ?_)
  clear hK K hHeld
  have hHeld := hHeld2
  clear hHeld2
  try simp only [Act.put, List.setIfInBounds_toArray, List.set_cons_zero, List.set_cons_succ]
  refine wpAnyH_ready (rs := [9]) (by kernel_rfl) (by simp) ?_
  refine AllReadyH.cons (o := { dst := some 37, op := Op.call { callee := Callee.value (Operand.tmp 35), args := #[Operand.tmp 36], argTypes := #[28] }, type := 28, pos := "renew.go:29", after := #[{ on := 7, ground := Ground.data }, { on := 8, ground := Ground.data }, { on := 6, ground := Ground.chain }], guard := none }) rfl (fun K hK => ?_) AllReadyH.nil
  go_simp
  with_reducible refine (C3.out _ HB2.out).mono ?_
  rintro e w3 ⟨⟨B3, d3, rfl, hr3⟩, hb3⟩
  have HB3 : Hid (Below V.heap.size V w3) := bCall HB2.out hb3
  go_wp2_with fail
  refine hK.out _ _ (tB HT.out HB3.out) (fun hHeld2 => ?_)
  clear hK K hHeld
  have hHeld := hHeld2
  clear hHeld2
  try simp only [Act.put, List.setIfInBounds_toArray, List.set_cons_zero, List.set_cons_succ]
  refine wpAnyH_ready (rs := [10]) (by kernel_rfl) (by simp) ?_
  refine AllReadyH.cons (o := { dst := some 38, op := Op.buildSlice 108 3 #[(0, Operand.tmp 30), (1, Operand.tmp 34), (2, Operand.tmp 37)], type := 108, pos := "renew.go:29", after := #[{ on := 2, ground := Ground.data }, { on := 6, ground := Ground.data }, { on := 9, ground := Ground.data }], guard := none }) rfl (fun K hK => ?_) AllReadyH.nil
  go_simp
  have HBx : Hid (Below V.heap.size V (w3.alloc (.cells #[.slice B1 m1 d1, .slice B2 m2 d2, .slice B3 m3 d3] 28))) := bAlloc HB3.out _
  have HP : Hid (RdP (w3.alloc (.cells #[.slice B1 m1 d1, .slice B2 m2 d2, .slice B3 m3 d3] 28)) w3.heap.size [⟨B1, m1, d1, y1⟩, ⟨B2, m2, d2, y2⟩, ⟨B3, m3, d3, y3⟩]) := parts_new (HM1.out) (HM2.out) (HM3.out) ((hr1.at_ hb2).at_ hb3) (hr2.at_ hb3) hr3
  refine hK.out _ _ (tB HT.out HBx.out) (fun hHeld2 => ?_)
  clear hK K hHeld
  have hHeld := hHeld2
  clear hHeld2
  try simp only [Act.put, List.setIfInBounds_toArray, List.set_cons_zero, List.set_cons_succ]
  refine wpAnyH_ready (rs := [11]) (by kernel_rfl) (by simp) ?_
  refine AllReadyH.cons (o := { dst := some 39, op := Op.call { callee := Callee.value (Operand.func 53), args := #[Operand.tmp 38], argTypes := #[108] }, type := 28, pos := "renew.go:29", after := #[{ on := 10, ground := Ground.data }, { on := 9, ground := Ground.chain }], guard := none }) rfl (fun K hK => ?_) AllReadyH.nil
  go_simp
  with_reducible refine (C4.out _ w3.heap.size B1 B2 B3 d1 d2 d3 HP.out).mono ?_
  rintro e w4 ⟨⟨A5, c5, rfl, ho5⟩, hb5⟩
  have HB4 : Hid (Below V.heap.size V w4) := bCall HBx.out hb5
  go_wp2_with fail
  refine hK.out _ _ (tB HT.out HB4.out) (fun hHeld2 => ?_)
  clear hK K hHeld
  have hHeld := hHeld2
  clear hHeld2
  try simp only [Act.put, List.setIfInBounds_toArray, List.set_cons_zero, List.set_cons_succ]
  refine wpAnyH_take (i := 12) (oi := { dst := some 8, op := Op.assign (Operand.tmp 39), type := 28, pos := "renew.go:29", after := #[{ on := 11, ground := Ground.data }, { on := 11, ground := Ground.chain }, { on := 0, ground := Ground.phase }, { on := 1, ground := Ground.phase }, { on := 2, ground := Ground.phase }, { on := 3, ground := Ground.phase }, { on := 4, ground := Ground.phase }, { on := 5, ground := Ground.phase }, { on := 6, ground := Ground.phase }, { on := 7, ground := Ground.phase }, { on := 8, ground := Ground.phase }, { on := 9, ground := Ground.phase }, { on := 10, ground := Ground.phase }, { on := 11, ground := Ground.phase }], guard := none }) (v := .slice A5 m5 c5) rfl (by kernel_rfl) (by kernel_rfl) (by kernel_rfl) (fun _ _ _ h => h) (Or.inl ⟨by rfl, fun W hW => ?_⟩) hHeld ?_
  · obtain ⟨q0, q1, q2⟩ := hW
    go_simp
  simp only [Act.put, List.setIfInBounds_toArray, List.set_cons_zero, List.set_cons_succ]
  refine wpAnyH_done (by kernel_rfl) ?_ _
  have HB4 := keepd HB4.out
  have HO5 : Hid (Own w4 V.heap.size (.slice A5 m5 c5) L5) := ho5.base (by have h2 := HB3.out.size; rw [World.size_alloc]; omega)
  have HS4 := keepd (SR.call HS.out HB4.out HS.out.lt)
  obtain ⟨k0, k1, k2', k3, _, _, _, _, kt⟩ := st_facts HS4.out
  clear HP HBx HB1 HB2 HB3 hr1 hr2 hr3 hb1 hb2 hb3 hb5 ho5 C1 C2 C3 C4 HM1 HM2 HM3 HLa HLb hs
  cases ov
  case false =>
    cases li
    case false =>
      go_wp2_with fail
      obtain ⟨A9, c9, he9, hr9⟩ := HO5.out.rd
      have hL9 : L5 = L := by simpa using HFIN.out.symm
      rw [hL9, show L.length = m from HM.out] at he9
      have ho9 := HO5.out.base HB0.out.size
      rw [hL9, he9] at ho9
      have HR9 := keepd ho9
      have HE9 := keepd he9
      clear hL9 hr9 he9 ho9
      go_ret
      exact ⟨⟨A9, c9, congrArg Ending.returned HE9.out, HR9.out⟩, bCall HB0.out HB4.out⟩
    case true =>
      obtain ⟨⟨q0, q1⟩, kt7⟩ := And.intro (TB.facts (show TB w4 w.heap.size X from SR.call HT.out HB4.out (SR.lt HT.out))) (SR.lt HT.out)
      obtain ⟨e7, he7⟩ : ∃ e, (kL X 14).length = e := ⟨_, rfl⟩
      have HE7 := keepd he7
      have CO7 := keepd fun W : World => once_any X HX.out 14 _ e7 W rfl he7
      clear he7
      go_wp2_with fail
      with_reducible refine (CO7.out _).mono ?_
      rintro e x7 ⟨⟨D7, f7, rfl, hr7⟩, hb7⟩
      have HBX7 := keepd (bCall HB4.out hb7)
      have HRX7 := keepd hr7
      have HOX7 := keepd (HO5.out.below hb7)
      clear hr7 hb7 CO7 q0 q1
      go_wp2_with (at_builtin; refine wpList_app _ rfl (.tmp 48) (.tmp 50) rfl V.heap.size (.slice A5 m5 c5) (L5) rfl HOX7.out _ D7 e7 f7 (kL X 14) rfl HE7.out.symm HRX7.out (by have h1 := HLE.out; have h2 : (kL X 26).length ≤ 1 := kN_len X 26 1; have h3 : (kL X 14).length ≤ 1 := kN_len X 14 1; (try simp only [List.length_append]); omega) ?_ ?_)
      · exact HBX7.out.size
      intro v7 w7 ho7 hg7 _
      have HB7 : Hid (Below V.heap.size V w7) := app_below HBX7.out HOX7.out hg7
      have HO7 := keepd ho7
      clear ho7 hg7 HOX7 HRX7 HBX7
      go_wp2_with fail
      obtain ⟨A9, c9, he9, hr9⟩ := HO7.out.rd
      have hL9 : L5 ++ kL X 14 = L := by simpa using HFIN.out.symm
      rw [hL9, show L.length = m from HM.out] at he9
      have ho9 := HO7.out.base HB0.out.size
      rw [hL9, he9] at ho9
      have HR9 := keepd ho9
      have HE9 := keepd he9
      clear hL9 hr9 he9 ho9
      go_ret
      exact ⟨⟨A9, c9, congrArg Ending.returned HE9.out, HR9.out⟩, bCall HB0.out HB7.out⟩
  case true =>
    obtain ⟨⟨q0, q1⟩, kt6⟩ := And.intro (TB.facts (show TB w4 w.heap.size X from SR.call HT.out HB4.out (SR.lt HT.out))) (SR.lt HT.out)
    obtain ⟨e6, he6⟩ : ∃ e, (kL X 26).length = e := ⟨_, rfl⟩
    have HE6 := keepd he6
    have CO6 := keepd fun W : World => once_any X HX.out 26 _ e6 W rfl he6
    clear he6
    go_wp2_with fail
    with_reducible refine (CO6.out _).mono ?_
    rintro e x6 ⟨⟨D6, f6, rfl, hr6⟩, hb6⟩
    have HBX6 := keepd (bCall HB4.out hb6)
    have HRX6 := keepd hr6
    have HOX6 := keepd (HO5.out.below hb6)
    clear hr6 hb6 CO6 q0 q1
    go_wp2_with (at_builtin; refine wpList_app _ rfl (.tmp 42) (.tmp 44) rfl V.heap.size (.slice A5 m5 c5) (L5) rfl HOX6.out _ D6 e6 f6 (kL X 26) rfl HE6.out.symm HRX6.out (by have h1 := HLE.out; have h2 : (kL X 26).length ≤ 1 := kN_len X 26 1; have h3 : (kL X 14).length ≤ 1 := kN_len X 14 1; (try simp only [List.length_append]); omega) ?_ ?_)
    · exact HBX6.out.size
    intro v6 w6 ho6 hg6 _
    have HB6 : Hid (Below V.heap.size V w6) := app_below HBX6.out HOX6.out hg6
    have HO6 := keepd ho6
    clear ho6 hg6 HOX6 HRX6 HBX6
    clear k0 k1 k2' k3 kt HS4
    have HSw6 := keepd (SR.call HS.out HB6.out HS.out.lt)
    obtain ⟨k0, k1, k2', k3, _, _, _, _, kt⟩ := st_facts HSw6.out
    cases li
    case false =>
      go_wp2_with fail
      obtain ⟨A9, c9, he9, hr9⟩ := HO6.out.rd
      have hL9 : L5 ++ kL X 26 = L := by simpa using HFIN.out.symm
      rw [hL9, show L.length = m from HM.out] at he9
      have ho9 := HO6.out.base HB0.out.size
      rw [hL9, he9] at ho9
      have HR9 := keepd ho9
      have HE9 := keepd he9
      clear hL9 hr9 he9 ho9
      go_ret
      exact ⟨⟨A9, c9, congrArg Ending.returned HE9.out, HR9.out⟩, bCall HB0.out HB6.out⟩
    case true =>
      obtain ⟨⟨q0, q1⟩, kt7⟩ := And.intro (TB.facts (show TB w6 w.heap.size X from SR.call HT.out HB6.out (SR.lt HT.out))) (SR.lt HT.out)
      obtain ⟨e7, he7⟩ : ∃ e, (kL X 14).length = e := ⟨_, rfl⟩
      have HE7 := keepd he7
      have CO7 := keepd fun W : World => once_any X HX.out 14 _ e7 W rfl he7
      clear he7
      go_wp2_with fail
      with_reducible refine (CO7.out _).mono ?_
      rintro e x7 ⟨⟨D7, f7, rfl, hr7⟩, hb7⟩
      have HBX7 := keepd (bCall HB6.out hb7)
      have HRX7 := keepd hr7
      have HOX7 := keepd (HO6.out.below hb7)
      clear hr7 hb7 CO7 q0 q1
      go_wp2_with (at_builtin; refine wpList_app _ rfl (.tmp 48) (.tmp 50) rfl V.heap.size v6 (L5 ++ kL X 26) rfl HOX7.out _ D7 e7 f7 (kL X 14) rfl HE7.out.symm HRX7.out (by have h1 := HLE.out; have h2 : (kL X 26).length ≤ 1 := kN_len X 26 1; have h3 : (kL X 14).length ≤ 1 := kN_len X 14 1; (try simp only [List.length_append]); omega) ?_ ?_)
      · exact HBX7.out.size
      intro v7 w7 ho7 hg7 _
      have HB7 : Hid (Below V.heap.size V w7) := app_below HBX7.out HOX7.out hg7
      have HO7 := keepd ho7
      clear ho7 hg7 HOX7 HRX7 HBX7
      go_wp2_with fail
      obtain ⟨A9, c9, he9, hr9⟩ := HO7.out.rd
      have hL9 : L5 ++ (kL X 26 ++ kL X 14) = L := by simpa using HFIN.out.symm
      rw [hL9, show L.length = m from HM.out] at he9
      have ho9 := HO7.out.base HB0.out.size
      rw [hL9, he9] at ho9
      have HR9 := keepd ho9
      have HE9 := keepd he9
      clear hL9 hr9 he9 ho9
      go_ret
      exact ⟨⟨A9, c9, congrArg Ending.returned HE9.out, HR9.out⟩, bCall HB0.out HB7.out⟩

end Go.Proofs.YtlfmbfecajhffaaDoor
