/-
  The contract of the document's own First. No conditions beyond those each theorem states.
-/
import Derived.Test.YtjchkpnfdamgnaaR2
namespace Go.Proofs.Ytjchkpnfdamgnaa
open Go.RowKit
set_option maxRecDepth 100000

attribute [local go_sem ↓] ex_ld31 ex_st31 ex_al31 ex_bu31 ex_ix31 ex_eq31 ex_ne31 ex_eq29 ex_ne29 ex_ld25 ex_st25 ex_al25 ex_bu25 ex_ix25 ex_ld27 ex_st27 ex_eq27 ex_ne27
attribute [local go_sem] ptrB_at okPtr_at aggC_at agg62 isC_at isT_at eqV_t eqV_c isRow_new isRow_newp World.setRow_alloc_new agg6 isRow_new6 isV_at eqV_v


theorem mix_one {X : Tb} (h : mayT X = true) : mix X 1 = zT := by
  funext i
  unfold mix zT
  by_cases e : i = 0
  · subst e; rw [if_pos (by omega)]; exact (mayT_iff.1 h).1
  · rw [if_neg (by omega)]

/-- What is read in a round: a pref. -/
def SF (b0 k : Nat) (c : Cl) (V : World) : Prop := V.cell? ⟨b0, k * 2, none⟩ = some (.int .i64 c.lv) ∧ V.cell? ⟨b0, k * 2 + 1, none⟩ = some (.int .u8 c.v)

set_option maxHeartbeats 2000000 in
theorem refFirst_any (X : Tb) (h : mayT X = true) (w : World) : Calls Try.prog 18 #[tv X] w fun e w' => e = .returned (tv X) ∧ Below w.heap.size w w' := by
  go_enter Try.func18, Try.ntmps18
  go_upto_region 1 with fail
  generalize hW : (w.alloc (.cells (cs X).toArray 25)).alloc (.cells (cs zT).toArray 31) = W
  obtain ⟨h1, h2, h4⟩ := pt_new _ _ _ hW
  clear hW
  have H1 := keepd h1
  have H2 := keepd h2
  have HB := keepd h4
  have HX := keepd h
  clear h h1 h2 h4
  obtain ⟨b0, hb0⟩ : ∃ b, w.heap.size = b := ⟨_, rfl⟩
  obtain ⟨b1, hb1⟩ : ∃ b, w.heap.size + 1 = b := ⟨_, rfl⟩
  have L0 : Hid (w.heap.size ≤ b0 ∧ b0 < b1) := by show _ ∧ _; omega
  rw [hb1] at H2 ⊢
  rw [hb0] at H1 ⊢
  clear hb0 hb1
  go_upto_region 2 with fail
  obtain ⟨W2, hw⟩ : ∃ V, W.alloc (.cells (cs zT).toArray 31) = V := ⟨_, rfl⟩
  have H1' : Hid (PB W2 b0 X) := by subst hw; exact SR.alloc H1.out _
  have H2' : Hid (TB W2 b1 zT) := by subst hw; exact SR.alloc H2.out _
  have H3 : Hid (TB W2 W.heap.size (mix X 1)) := by subst hw; rw [mix_one HX.out]; exact SR.new 31 W (cs zT)
  have HB' : Hid (Below w.heap.size w W2) := by subst hw; exact bAlloc HB.out _
  have L2 := keepd (SR.lt H2.out)
  rw [hw]
  clear hw H1 H2 HB HX
  have H1 := H1'
  have H2 := H2'
  have HB := HB'
  clear H1' H2' HB'
  obtain ⟨b2, hb2⟩ : ∃ b, W.heap.size = b := ⟨_, rfl⟩
  rw [hb2] at H3 L2 ⊢
  clear hb2
  have L1 : Hid (w.heap.size ≤ b0 ∧ b0 < b1 ∧ b1 < b2) := ⟨L0.out.1, L0.out.2, L2.out⟩
  go_wp2_with fail
  go_loopw [4] (fun vi wr => ∃ k : Nat, 1 ≤ k ∧ k ≤ 31 ∧ vi = .int .i64 k ∧ Hid (PB wr b0 X) ∧ Hid (TB wr b1 zT) ∧ Hid (TB wr b2 (mix X k)) ∧ Hid (Below w.heap.size w wr)) (fun vi _ => 31 - (intOf vi).toNat)
  case atStart => exact ⟨1, by omega, by omega, rfl, H1, H2, H3, HB⟩
  case round =>
    clear H1 H2 H3 HB
    obtain ⟨k, hk1, hk, rfl, H1, H2, H3, HB⟩ := hrel
    by_cases hlt : k < 31
    · have HM := keepd (mix_succ X k)
      have HS : Hid (∀ V, PB V b0 X → SF b0 k (X k) V) := fun V h => PB.at h k hlt
      generalize X k = c at *
      have i0 : (0 : Int) ≤ (k : Int) := by omega
      have i1 : (k : Int) < 31 := by omega
      have h3 : TB wr b2 (mix X k) := H3.out
      obtain ⟨c0, c1⟩ := TB.at h3 k hlt
      have f0 := SR.frozen h3 (k * 2)
      have f1 := SR.frozen h3 (k * 2 + 1)
      have hl := L1.out
      have hne0 : b0 ≠ b2 := by omega
      have hne1 : b1 ≠ b2 := by omega
      have HK0 := keepd hne0
      have HK1 := keepd hne1
      clear hne0 hne1 hl h3
      go_upto_region 5 with fail
      refine wp_region_held_drew (S := SF b0 k c) (by kernel_rfl) (HS.out _ H1.out) (fun hHeld => ?_)
      refine wpAnyH_take (i := 0) (oi := { dst := some 10, op := Op.move (Operand.tmp 4), type := 3, pos := "ref.go:44", after := #[], guard := none }) (v := .int .i64 (k : Int)) rfl (by kernel_rfl) (by kernel_rfl) (by kernel_rfl) (fun _ _ _ h => h) (Or.inl ⟨by rfl, fun W hW => ?_⟩) hHeld ?_
      · obtain ⟨q1, q2⟩ := hW
        go_simp
      simp only [Act.put, List.setIfInBounds_toArray, List.set_cons_zero, List.set_cons_succ]
      refine wpAnyH_take (i := 1) (oi := { dst := some 11, op := Op.move (Operand.tmp 4), type := 3, pos := "ref.go:44", after := #[], guard := none }) (v := .int .i64 (k : Int)) rfl (by kernel_rfl) (by kernel_rfl) (by kernel_rfl) (fun _ _ _ h => h) (Or.inl ⟨by rfl, fun W hW => ?_⟩) hHeld ?_
      · obtain ⟨q1, q2⟩ := hW
        go_simp
      simp only [Act.put, List.setIfInBounds_toArray, List.set_cons_zero, List.set_cons_succ]
      refine wpAnyH_take (i := 2) (oi := { dst := some 12, op := Op.indexAddr 25 (Operand.tmp 1) (Operand.tmp 11), type := 0, pos := "ref.go:44", after := #[{ on := 1, ground := Ground.data }], guard := none }) (v := .pointer (some ⟨b0, k * 2, none⟩)) rfl (by kernel_rfl) (by kernel_rfl) (by kernel_rfl) (fun _ _ _ h => h) (Or.inl ⟨by rfl, fun W hW => ?_⟩) hHeld ?_
      · obtain ⟨q1, q2⟩ := hW
        go_simp
      simp only [Act.put, List.setIfInBounds_toArray, List.set_cons_zero, List.set_cons_succ]
      refine wpAnyH_take (i := 3) (oi := { dst := some 13, op := Op.fieldAddr 23 (Operand.tmp 12) 0, type := 0, pos := "ref.go:44", after := #[{ on := 2, ground := Ground.data }], guard := none }) (v := .pointer (some ⟨b0, k * 2, none⟩)) rfl (by kernel_rfl) (by kernel_rfl) (by kernel_rfl) (fun _ _ _ h => h) (Or.inl ⟨by rfl, fun W hW => ?_⟩) hHeld ?_
      · obtain ⟨q1, q2⟩ := hW
        go_simp
      simp only [Act.put, List.setIfInBounds_toArray, List.set_cons_zero, List.set_cons_succ]
      refine wpAnyH_take (i := 4) (oi := { dst := some 14, op := Op.load 3 (Operand.tmp 13), type := 3, pos := "ref.go:44", after := #[{ on := 3, ground := Ground.data }], guard := none }) (v := .int .i64 c.lv) rfl (by kernel_rfl) (by kernel_rfl) (by kernel_rfl) (fun _ _ _ h => h) (Or.inl ⟨by rfl, fun W hW => ?_⟩) hHeld ?_
      · obtain ⟨q1, q2⟩ := hW
        go_simp
      simp only [Act.put, List.setIfInBounds_toArray, List.set_cons_zero, List.set_cons_succ]
      refine wpAnyH_take (i := 5) (oi := { dst := some 15, op := Op.move (Operand.tmp 4), type := 3, pos := "ref.go:44", after := #[], guard := none }) (v := .int .i64 (k : Int)) rfl (by kernel_rfl) (by kernel_rfl) (by kernel_rfl) (fun _ _ _ h => h) (Or.inl ⟨by rfl, fun W hW => ?_⟩) hHeld ?_
      · obtain ⟨q1, q2⟩ := hW
        go_simp
      simp only [Act.put, List.setIfInBounds_toArray, List.set_cons_zero, List.set_cons_succ]
      refine wpAnyH_take (i := 6) (oi := { dst := some 16, op := Op.indexAddr 25 (Operand.tmp 1) (Operand.tmp 15), type := 0, pos := "ref.go:44", after := #[{ on := 5, ground := Ground.data }], guard := none }) (v := .pointer (some ⟨b0, k * 2, none⟩)) rfl (by kernel_rfl) (by kernel_rfl) (by kernel_rfl) (fun _ _ _ h => h) (Or.inl ⟨by rfl, fun W hW => ?_⟩) hHeld ?_
      · obtain ⟨q1, q2⟩ := hW
        go_simp
      simp only [Act.put, List.setIfInBounds_toArray, List.set_cons_zero, List.set_cons_succ]
      refine wpAnyH_take (i := 7) (oi := { dst := some 17, op := Op.fieldAddr 23 (Operand.tmp 16) 1, type := 0, pos := "ref.go:44", after := #[{ on := 6, ground := Ground.data }], guard := none }) (v := .pointer (some ⟨b0, k * 2 + 1, none⟩)) rfl (by kernel_rfl) (by kernel_rfl) (by kernel_rfl) (fun _ _ _ h => h) (Or.inl ⟨by rfl, fun W hW => ?_⟩) hHeld ?_
      · obtain ⟨q1, q2⟩ := hW
        go_simp
      simp only [Act.put, List.setIfInBounds_toArray, List.set_cons_zero, List.set_cons_succ]
      refine wpAnyH_take (i := 8) (oi := { dst := some 18, op := Op.load 5 (Operand.tmp 17), type := 5, pos := "ref.go:44", after := #[{ on := 7, ground := Ground.data }], guard := none }) (v := .int .u8 c.v) rfl (by kernel_rfl) (by kernel_rfl) (by kernel_rfl) (fun _ _ _ h => h) (Or.inl ⟨by rfl, fun W hW => ?_⟩) hHeld ?_
      · obtain ⟨q1, q2⟩ := hW
        go_simp
      simp only [Act.put, List.setIfInBounds_toArray, List.set_cons_zero, List.set_cons_succ]
      refine wpAnyH_take (i := 9) (oi := { dst := some 19, op := Op.build 29 #[(0, Operand.tmp 14), (1, Operand.tmp 18)], type := 29, pos := "ref.go:44", after := #[{ on := 4, ground := Ground.data }, { on := 8, ground := Ground.data }], guard := none }) (v := cv c) rfl (by kernel_rfl) (by kernel_rfl) (by kernel_rfl) (fun _ _ _ h => h) (Or.inl ⟨by rfl, fun W hW => ?_⟩) hHeld ?_
      · obtain ⟨q1, q2⟩ := hW
        go_simp
      simp only [Act.put, List.setIfInBounds_toArray, List.set_cons_zero, List.set_cons_succ]
      refine wpAnyH_take (i := 10) (oi := { dst := some 20, op := Op.indexAddr 31 (Operand.tmp 3) (Operand.tmp 10), type := 0, pos := "ref.go:44", after := #[{ on := 0, ground := Ground.data }, { on := 0, ground := Ground.phase }, { on := 1, ground := Ground.phase }, { on := 2, ground := Ground.phase }, { on := 3, ground := Ground.phase }, { on := 4, ground := Ground.phase }, { on := 5, ground := Ground.phase }, { on := 6, ground := Ground.phase }, { on := 7, ground := Ground.phase }, { on := 8, ground := Ground.phase }, { on := 9, ground := Ground.phase }], guard := none }) (v := .pointer (some ⟨b2, k * 2, none⟩)) rfl (by kernel_rfl) (by kernel_rfl) (by kernel_rfl) (fun _ _ _ h => h) (Or.inl ⟨by rfl, fun W hW => ?_⟩) hHeld ?_
      · obtain ⟨q1, q2⟩ := hW
        go_simp
      simp only [Act.put, List.setIfInBounds_toArray, List.set_cons_zero, List.set_cons_succ]
      refine wpAnyH_ready (rs := [11]) (by kernel_rfl) (by simp) ?_
      refine AllReadyH.cons (o := { dst := none, op := Op.store 29 (Operand.tmp 20) (Operand.tmp 19), type := 0, pos := "ref.go:44", after := #[{ on := 10, ground := Ground.data }, { on := 9, ground := Ground.data }, { on := 0, ground := Ground.phase }, { on := 1, ground := Ground.phase }, { on := 2, ground := Ground.phase }, { on := 3, ground := Ground.phase }, { on := 4, ground := Ground.phase }, { on := 5, ground := Ground.phase }, { on := 6, ground := Ground.phase }, { on := 7, ground := Ground.phase }, { on := 8, ground := Ground.phase }, { on := 9, ground := Ground.phase }], guard := none }) rfl (fun K hK => ?_) AllReadyH.nil
      go_simp
      have HP2 := keepd (SR.far (SR.far H1.out (p := ⟨b2, k * 2, none⟩) HK0.out (.int .i64 c.lv)) (p := ⟨b2, k * 2 + 1, none⟩) HK0.out (.int .u8 c.v))
      refine hK.out _ _ (HS.out _ (show PB _ b0 X from HP2.out)) (fun hHeld2 => ?_)
      clear hK K hHeld
      have hHeld := hHeld2
      clear hHeld2
      try simp only [Act.put, List.setIfInBounds_toArray, List.set_cons_zero, List.set_cons_succ]
      refine wpAnyH_done (by kernel_rfl) ?_ _
      have HZ2 := keepd (SR.far (SR.far H2.out (p := ⟨b2, k * 2, none⟩) HK1.out (.int .i64 c.lv)) (p := ⟨b2, k * 2 + 1, none⟩) HK1.out (.int .u8 c.v))
      have HT2 := keepd (TB.put H3.out k hlt c)
      rw [HM.out] at HT2
      have HB2 : Hid (Below w.heap.size w ((wr.setCell ⟨b2, k * 2, none⟩ (.int .i64 c.lv)).setCell ⟨b2, k * 2 + 1, none⟩ (.int .u8 c.v))) := by
        have hl := L1.out
        exact bSet (bSet HB.out (by omega) _) (by omega) _
      clear c0 c1 f0 f1 H1 H2 H3 HB HS HM hHeld
      go_wp2
      go_roundw
      case rel => exact ⟨k + 1, by omega, by omega, by go_num, HP2.out, HZ2.out, HT2.out, Below.drew HB2.out⟩
      case measure => simp [intOf]; omega
    · obtain rfl : k = 31 := by omega
      obtain ⟨r2, k2⟩ := TB.facts H2.out
      obtain ⟨r3, k3⟩ := TB.facts H3.out
      rw [mix_all] at r3
      go_wp2_with fail
      exact bodyPost_ret (results_c1 Try.results18 _ _ b1 X rfl (SR.row H2.out _)) rfl ⟨rfl, bRow HB.out (by have := L1.out; omega) _⟩

end Go.Proofs.Ytjchkpnfdamgnaa
