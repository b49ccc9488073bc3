/-
  The law TableMeans. No conditions beyond those each theorem states.
-/
import Derived.Test.YtmjhagmniipcaaaDoorT7
namespace Go.Proofs.YtmjhagmniipcaaaDoor
open Go.RowKit
set_option maxRecDepth 100000

attribute [local go_sem ↓] ex_ld25 ex_st25 ex_al25 ex_bu25 ex_ix25 ex_eq25 ex_ne25 ex_eq23 ex_ne23
attribute [local go_sem] ptrB_at okPtr_at aggC_at agg62 isC_at isT_at eqV_t eqV_c isRow_new World.setRow_alloc_new

theorem key_mean {X : Tb} {a : Int} {m : Nat} (hm : meanF X a = m) (h : m ≠ 0) : keyF X (m : Int) = (a, true) := by
  subst hm
  rcases mean_cases X a with ⟨h1, h2⟩ | ⟨_, h2, _⟩ | ⟨h1, h2, h3, h4, _⟩
  · rw [h2, h1]
    rfl
  · exact absurd h2 h
  · unfold keyF
    rw [if_neg (by omega), Int.toNat_natCast]
    have := (has_iff.1 h4).2.2
    rw [this, if_pos ⟨by omega, by omega, rfl⟩]

/-- A key's meaning: 0, or Enter, or a function that is kept, and has it. -/
theorem mean_ways {X : Tb} {a : Int} {m : Nat} (hm : meanF X a = m) : (m = 0 ∧ ¬ a = 13) ∨ (m = 31 ∧ a = 13) ∨ (0 < m ∧ m < 31 ∧ ¬ a = 13 ∧ ¬ (X m).lv = 0 ∧ (X m).v = a) := by
  subst hm
  rcases mean_cases X a with ⟨h1, h2⟩ | ⟨h1, h2, _⟩ | ⟨h1, h2, h3, h4, _⟩
  · exact .inr (.inl ⟨h2, h1⟩)
  · exact .inl ⟨h2, h1⟩
  · have := has_iff.1 h4
    exact .inr (.inr ⟨h2, h3, h1, this.2.1, this.2.2⟩)

theorem tB {V W : World} {b : Nat} {X : Tb} (h : TB W b X) (hb : Below W.heap.size W V) : rowOf V b = (cs X).toArray ∧ isRow V 25 b 62 = true ∧ Below W.heap.size W V := ⟨(TB.facts (SR.call h hb (SR.lt h))).1, (TB.facts (SR.call h hb (SR.lt h))).2, hb⟩

set_option maxHeartbeats 2000000 in
theorem means_law (X : Tb) (a b : Int) (w : World) (hL : Laid w) : Calls Tryd.prog 4 #[tv X, .int .u8 a, .int .u8 b] w fun e w' => e = .returned (.bool true) ∧ Below w.heap.size w w' := by
  obtain ⟨f, hf⟩ : ∃ f, meanF X a = f := ⟨_, rfl⟩
  obtain ⟨g, hg⟩ : ∃ g, meanF X b = g := ⟨_, rfl⟩
  have MA := keepd (meaning_any X a f hf)
  have MB := keepd (meaning_any X b g hg)
  have HF := keepd hf
  have HG := keepd hg
  have HA := keepd (fun w h => awake_any w h)
  have HL := keepd hL
  clear hf hg hL
  go_enter Tryd.func4, Tryd.ntmps4
  go_upto_region 1 with fail
  generalize hW : w.alloc (.cells (cs X).toArray 25) = W
  obtain ⟨h1, h2, h3⟩ := one_new _ _ _ _ hW
  clear hW
  have HT := keepd h1
  have HB := keepd h2
  clear h1 h2 h3
  --R1
  refine wp_region_held_drew (S := (fun V => rowOf V w.heap.size = (cs X).toArray ∧ isRow V 25 w.heap.size 62 = true ∧ Below W.heap.size W V)) (by kernel_rfl) (tB HT.out (Below.drew (Below.refl _ _))) (fun hHeld => ?_)
  refine wpAnyH_take (i := 0) (oi := { dst := some 11, op := Op.load 25 (Operand.tmp 3), type := 25, pos := "law.go:46", after := #[], guard := none }) (v := tv X) rfl (by kernel_rfl) (by kernel_rfl) (by kernel_rfl) (fun _ _ _ h => h) (Or.inl ⟨by rfl, fun W hW => ?_⟩) hHeld ?_
  · obtain ⟨q1, q2, q3⟩ := hW
    go_simp
  simp only [Act.put, List.setIfInBounds_toArray, List.set_cons_zero, List.set_cons_succ]
  refine wpAnyH_take (i := 1) (oi := { dst := some 12, op := Op.move (Operand.tmp 1), type := 5, pos := "law.go:46", after := #[], guard := none }) (v := .int .u8 a) rfl (by kernel_rfl) (by kernel_rfl) (by kernel_rfl) (fun _ _ _ h => h) (Or.inl ⟨by rfl, fun W hW => ?_⟩) hHeld ?_
  · obtain ⟨q1, q2, q3⟩ := hW
    go_simp
  simp only [Act.put, List.setIfInBounds_toArray, List.set_cons_zero, List.set_cons_succ]
  refine wpAnyH_take (i := 3) (oi := { dst := some 14, op := Op.load 25 (Operand.tmp 3), type := 25, pos := "law.go:46", after := #[], guard := none }) (v := tv X) rfl (by kernel_rfl) (by kernel_rfl) (by kernel_rfl) (fun _ _ _ h => h) (Or.inl ⟨by rfl, fun W hW => ?_⟩) hHeld ?_
  · obtain ⟨q1, q2, q3⟩ := hW
    go_simp
  simp only [Act.put, List.setIfInBounds_toArray, List.set_cons_zero, List.set_cons_succ]
  refine wpAnyH_take (i := 4) (oi := { dst := some 15, op := Op.move (Operand.tmp 2), type := 5, pos := "law.go:46", after := #[], guard := none }) (v := .int .u8 b) rfl (by kernel_rfl) (by kernel_rfl) (by kernel_rfl) (fun _ _ _ h => h) (Or.inl ⟨by rfl, fun W hW => ?_⟩) hHeld ?_
  · obtain ⟨q1, q2, q3⟩ := hW
    go_simp
  simp only [Act.put, List.setIfInBounds_toArray, List.set_cons_zero, List.set_cons_succ]
  refine wpAnyH_ready (rs := [2]) (by kernel_rfl) (by simp) ?_
  refine AllReadyH.cons (o := { dst := some 13, op := Op.call { callee := Callee.value (Operand.func 13), args := #[Operand.tmp 11, Operand.tmp 12], argTypes := #[25, 5] }, type := 3, pos := "law.go:46", after := #[{ on := 0, ground := Ground.data }, { on := 1, ground := Ground.data }], guard := none }) rfl (fun K hK => ?_) AllReadyH.nil
  go_simp
  with_reducible refine (MA.out _).mono ?_
  rintro e w5 ⟨rfl, hb5⟩
  have hbb : Below W.heap.size W w5 := bCall hHeld.2.2 hb5
  go_wp2_with fail
  refine hK.out _ _ (tB HT.out hbb) (fun hHeld2 => ?_)
  clear hK K hHeld
  have hHeld := hHeld2
  clear hHeld2
  try simp only [Act.put, List.setIfInBounds_toArray, List.set_cons_zero, List.set_cons_succ]
  refine wpAnyH_ready (rs := [5]) (by kernel_rfl) (by simp) ?_
  refine AllReadyH.cons (o := { dst := some 16, op := Op.call { callee := Callee.value (Operand.func 13), args := #[Operand.tmp 14, Operand.tmp 15], argTypes := #[25, 5] }, type := 3, pos := "law.go:46", after := #[{ on := 3, ground := Ground.data }, { on := 4, ground := Ground.data }, { on := 2, ground := Ground.chain }], guard := none }) rfl (fun K hK => ?_) AllReadyH.nil
  go_simp
  with_reducible refine (MB.out _).mono ?_
  rintro e w6 ⟨rfl, hb6⟩
  have hbc : Below W.heap.size W w6 := bCall hHeld.2.2 hb6
  go_wp2_with fail
  refine hK.out _ _ (tB HT.out hbc) (fun hHeld2 => ?_)
  clear hK K hHeld
  have hHeld := hHeld2
  clear hHeld2
  try simp only [Act.put, List.setIfInBounds_toArray, List.set_cons_zero, List.set_cons_succ]
  refine wpAnyH_take (i := 6) (oi := { dst := some 7, op := Op.assign (Operand.tmp 13), type := 3, pos := "law.go:46", after := #[{ on := 2, ground := Ground.data }, { on := 5, ground := Ground.chain }, { on := 0, ground := Ground.phase }, { on := 1, ground := Ground.phase }, { on := 2, ground := Ground.phase }, { on := 3, ground := Ground.textOnly Departure.lateStores }, { on := 4, ground := Ground.textOnly Departure.lateStores }, { on := 5, ground := Ground.textOnly Departure.lateStoresUnsure }], guard := none }) (v := .int .i64 (f : Int)) rfl (by kernel_rfl) (by kernel_rfl) (by kernel_rfl) (fun _ _ _ h => h) (Or.inl ⟨by rfl, fun W hW => ?_⟩) hHeld ?_
  · obtain ⟨q1, q2, q3⟩ := hW
    go_simp
  simp only [Act.put, List.setIfInBounds_toArray, List.set_cons_zero, List.set_cons_succ]
  refine wpAnyH_take (i := 7) (oi := { dst := some 8, op := Op.assign (Operand.tmp 16), type := 3, pos := "law.go:46", after := #[{ on := 5, ground := Ground.data }, { on := 6, ground := Ground.chain }, { on := 0, ground := Ground.phase }, { on := 1, ground := Ground.phase }, { on := 2, ground := Ground.phase }, { on := 3, ground := Ground.phase }, { on := 4, ground := Ground.phase }, { on := 5, ground := Ground.phase }, { on := 6, ground := Ground.phase }], guard := none }) (v := .int .i64 (g : Int)) rfl (by kernel_rfl) (by kernel_rfl) (by kernel_rfl) (fun _ _ _ h => h) (Or.inl ⟨by rfl, fun W hW => ?_⟩) hHeld ?_
  · obtain ⟨q1, q2, q3⟩ := hW
    go_simp
  simp only [Act.put, List.setIfInBounds_toArray, List.set_cons_zero, List.set_cons_succ]
  refine wpAnyH_done (by kernel_rfl) ?_ _
  have H6 := keepd (SR.call HT.out hbc (SR.lt HT.out))
  have HB6 := keepd (bCall HB.out hbc)
  clear hbb hbc hb5 hb6 hHeld HT HB MA MB
  rcases mean_ways HF.out with ⟨rfl, n13⟩ | ⟨rfl, rfl⟩ | ⟨f0, f1, n13, nl, nv⟩
  · have g13 : (a == 13) = false := by simpa using n13
    go_wp2_with fail
    with_reducible refine (HA.out _ (HL.out.below HB6.out)).mono ?_
    rintro e w9 ⟨rfl, hb9⟩
    have HB9 := keepd (bCall HB6.out hb9)
    clear hb9
    go_wp2
    go_returns
    exact ⟨rfl, HB9.out⟩
  · have HKe := keepd (show keyF X (31 : Int) = (13, true) from rfl)
    rcases mean_ways HG.out with ⟨rfl, m13⟩ | ⟨rfl, rfl⟩ | ⟨g0, g1, m13, _, _⟩
    · have b13 : (13 == b) = false := by simp; omega
      have HK := keepd (key_any X 31 13 true HKe.out)
      obtain ⟨r1, k1⟩ := TB.facts H6.out
      go_wp2_with fail
      with_reducible refine (HK.out _).mono ?_
      rintro e w7 ⟨rfl, hb7⟩
      have HB7 := keepd (bCall HB6.out hb7)
      have H7 := keepd (SR.call H6.out hb7 (SR.lt H6.out))
      clear hb7 r1 k1 HK HB6 H6
      go_wp2_with fail
      with_reducible refine (HA.out _ (HL.out.below HB7.out)).mono ?_
      rintro e w9 ⟨rfl, hb9⟩
      have HB9 := keepd (bCall HB7.out hb9)
      clear hb9
      go_wp2
      go_returns
      exact ⟨rfl, HB9.out⟩
    · skip
      have HK := keepd (key_any X 31 13 true HKe.out)
      obtain ⟨r1, k1⟩ := TB.facts H6.out
      go_wp2_with fail
      with_reducible refine (HK.out _).mono ?_
      rintro e w7 ⟨rfl, hb7⟩
      have HB7 := keepd (bCall HB6.out hb7)
      have H7 := keepd (SR.call H6.out hb7 (SR.lt H6.out))
      clear hb7 r1 k1 HK HB6 H6
      go_wp2_with fail
      with_reducible refine (HA.out _ (HL.out.below HB7.out)).mono ?_
      rintro e w9 ⟨rfl, hb9⟩
      have HB9 := keepd (bCall HB7.out hb9)
      clear hb9
      go_wp2
      go_returns
      exact ⟨rfl, HB9.out⟩
    · have g31 : ((31 : Int) == (g : Int)) = false := by simp; omega
      have p31 : ¬ (31 : Int) = (g : Int) := by omega
      have HK := keepd (key_any X 31 13 true HKe.out)
      obtain ⟨r1, k1⟩ := TB.facts H6.out
      go_wp2_with fail
      with_reducible refine (HK.out _).mono ?_
      rintro e w7 ⟨rfl, hb7⟩
      have HB7 := keepd (bCall HB6.out hb7)
      have H7 := keepd (SR.call H6.out hb7 (SR.lt H6.out))
      clear hb7 r1 k1 HK HB6 H6
      go_wp2_with fail
      with_reducible refine (HA.out _ (HL.out.below HB7.out)).mono ?_
      rintro e w9 ⟨rfl, hb9⟩
      have HB9 := keepd (bCall HB7.out hb9)
      clear hb9
      go_wp2
      go_returns
      exact ⟨rfl, HB9.out⟩
  · have g13 : (a == 13) = false := by simpa using n13
    have HKe := keepd (key_mean HF.out (by omega))
    have f31 : ((f : Int) == 31) = false := by simp; omega
    have gl : ((X f).lv == 0) = false := by simpa using nl
    have p0 : ¬ (f : Int) = 0 := by omega
    have q0 : ((f : Int) == 0) = false := by simp; omega
    by_cases hfg : f = g
    · have hb : b = a := by
        subst hfg
        rcases mean_ways HG.out with ⟨h, _⟩ | ⟨h, _⟩ | ⟨_, _, _, _, h⟩
        · omega
        · omega
        · rw [← h, nv]
      subst hb hfg
      have HK := keepd (key_any X f b true HKe.out)
      obtain ⟨r1, k1⟩ := TB.facts H6.out
      go_wp2_with fail
      with_reducible refine (HK.out _).mono ?_
      rintro e w7 ⟨rfl, hb7⟩
      have HB7 := keepd (bCall HB6.out hb7)
      have H7 := keepd (SR.call H6.out hb7 (SR.lt H6.out))
      clear hb7 r1 k1 HK HB6 H6
      obtain ⟨c0, c1⟩ := TB.at H7.out f f1
      rw [nv] at c1
      go_wp2_with fail
      with_reducible refine (HA.out _ (HL.out.below HB7.out)).mono ?_
      rintro e w9 ⟨rfl, hb9⟩
      have HB9 := keepd (bCall HB7.out hb9)
      clear hb9
      go_wp2
      go_returns
      exact ⟨rfl, HB9.out⟩
    · have pg : ¬ (f : Int) = (g : Int) := by omega
      have gg : ((f : Int) == (g : Int)) = false := by simp; omega
      have HK := keepd (key_any X f a true HKe.out)
      obtain ⟨r1, k1⟩ := TB.facts H6.out
      go_wp2_with fail
      with_reducible refine (HK.out _).mono ?_
      rintro e w7 ⟨rfl, hb7⟩
      have HB7 := keepd (bCall HB6.out hb7)
      have H7 := keepd (SR.call H6.out hb7 (SR.lt H6.out))
      clear hb7 r1 k1 HK HB6 H6
      obtain ⟨c0, c1⟩ := TB.at H7.out f f1
      rw [nv] at c1
      go_wp2_with fail
      with_reducible refine (HA.out _ (HL.out.below HB7.out)).mono ?_
      rintro e w9 ⟨rfl, hb9⟩
      have HB9 := keepd (bCall HB7.out hb9)
      clear hb9
      go_wp2
      go_returns
      exact ⟨rfl, HB9.out⟩

end Go.Proofs.YtmjhagmniipcaaaDoor
