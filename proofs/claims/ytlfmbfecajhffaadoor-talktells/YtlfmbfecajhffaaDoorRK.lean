/-
  Several texts in one: R3 R5. No conditions beyond those each theorem states.
-/
import Derived.Test.YtlfmbfecajhffaaDoorA12
/-
  The contract of the document's own Key. No conditions beyond those each theorem states.
-/
namespace Go.Proofs.YtlfmbfecajhffaaDoor
open Go.RowKit
set_option maxRecDepth 100000

attribute [local go_sem ↓] ex_ld25 ex_st25 ex_al25 ex_bu25 ex_ix25 ex_eq25 ex_ne25 ex_eq23 ex_ne23
attribute [local go_sem] ptrB_at okPtr_at aggC_at agg62 isC_at isT_at eqV_t eqV_c isRow_new World.setRow_alloc_new

theorem key_is {X : Tb} {f k : Int} (h : keyF X f = (k, true)) : 1 ≤ f ∧ (meanF X k : Int) = f ∧ (k = 13 ∨ ∃ i, k = (X i).v) := by
  unfold keyF at h
  by_cases e : f = 31
  · rw [if_pos e, Prod.mk.injEq] at h
    rw [← h.1, e]
    exact ⟨by omega, by simp [meanF], .inl rfl⟩
  · rw [if_neg e] at h
    by_cases g : 0 < f ∧ f < 31 ∧ meanF X (X f.toNat).v = f.toNat
    · rw [if_pos g, Prod.mk.injEq] at h
      rw [← h.1]
      exact ⟨by omega, by omega, .inr ⟨_, rfl⟩⟩
    · rw [if_neg g, Prod.mk.injEq] at h
      cases h.2

set_option maxHeartbeats 4000000 in
theorem refKey_any (X : Tb) (f k : Int) (b : Bool) (z : Int) (hk : keyF X f = (k, b)) (hz : (if b then k else 256) = z) (hx : ∀ i, 0 ≤ (X i).v ∧ (X i).v ≤ 255) (w : World) :
    Calls Tryd.prog 74 #[tv X, .int .i64 f] w fun e w' => e = .returned (.int .i64 z) ∧ Below w.heap.size w w' := by
  have HY : Hid (∀ j : Nat, 1 ≤ f → (meanF X (j : Int) : Int) = f → (j : Int) = z) := fun j h1 h2 => by
    have := key_mean (X := X) (a := (j : Int)) rfl (by omega)
    rw [h2, hk, Prod.mk.injEq] at this
    rw [← hz, this.2, this.1]
    rfl
  have HN : Hid ((∀ j : Nat, j < 256 → ¬ (1 ≤ f ∧ (meanF X (j : Int) : Int) = f)) → z = 256) := fun h => by
    cases b
    · exact hz.symm
    · exfalso
      obtain ⟨h1, h2, h3⟩ := key_is hk
      have hb : 0 ≤ k ∧ k ≤ 255 := by
        rcases h3 with e | ⟨i, e⟩
        · omega
        · rw [e]; exact hx i
      obtain ⟨j, rfl⟩ : ∃ j : Nat, k = j := ⟨k.toNat, by omega⟩
      exact h j (by omega) ⟨h1, h2⟩
  clear hk hz hx
  go_enter Tryd.func74, Tryd.ntmps74
  go_upto_region 1 with fail
  generalize hW : w.alloc (.cells (cs X).toArray 25) = W
  obtain ⟨h1, h2, h3⟩ := one_new _ _ _ _ hW
  clear hW
  have HT := keepd h1
  have HB := keepd h2
  clear h1 h2 h3
  go_wp2_with fail
  go_loopw [5] (fun vi wr => ∃ j : Nat, j ≤ 256 ∧ vi = .int .i64 j ∧ Hid (∀ i : Nat, i < j → ¬ (1 ≤ f ∧ (meanF X (i : Int) : Int) = f)) ∧ Hid (TB wr w.heap.size X) ∧ Hid (Below w.heap.size w wr)) (fun vi _ => 256 - (intOf vi).toNat)
  case atStart => exact ⟨0, by omega, rfl, fun i hi => by omega, HT, HB⟩
  case round =>
    clear HT HB
    obtain ⟨j, hj, rfl, HI, HT, HB⟩ := hrel
    by_cases hlt : j < 256
    · have wr1 : IntKind.u8.wrap (j : Int) = (j : Int) := by simp [IntKind.wrap, IntKind.bits, IntKind.signed]; omega
      have HX : Hid (¬ (1 ≤ f ∧ (meanF X (j : Int) : Int) = f) → Hid (∀ i : Nat, i < j + 1 → ¬ (1 ≤ f ∧ (meanF X (i : Int) : Int) = f))) := fun e i hi => by
        by_cases hij : i = j
        · subst hij; exact e
        · exact HI.out i (by omega)
      have HYj := keepd (HY.out j)
      obtain ⟨m, hm⟩ : ∃ m, meanF X (j : Int) = m := ⟨_, rfl⟩
      have HMe := keepd (meaning_any X (j : Int) m hm)
      have HMr := keepd (refMeaning_any X (j : Int) m hm)
      rw [hm] at HX HYj
      clear hm HMe
      by_cases hf : 1 ≤ f
      · have g1 : decide (f ≥ 1) = true := decide_eq_true hf
        have g2 : decide (1 ≤ f) = true := decide_eq_true hf
        obtain ⟨r1, k1⟩ := TB.facts HT.out
        cases s : ((m : Int) == f)
        · have p : ¬ (m : Int) = f := by simpa using s
          have H2 := keepd (HX.out (fun h => p h.2))
          clear HX HYj
          go_wp2_with fail
          with_reducible refine (HMr.out _).mono ?_
          rintro e v1 ⟨rfl, hb⟩
          have HT1 := keepd (SR.call HT.out hb (SR.lt HT.out))
          have HB1 := keepd (bCall HB.out hb)
          clear hb r1 k1 HT HB HMr
          go_wp2
          go_roundw
          case rel => exact ⟨j + 1, by omega, by go_num, H2.out, HT1, HB1⟩
          case measure => simp [intOf]; omega
        · have p : (m : Int) = f := by simpa using s
          have hz := HYj.out hf p
          subst hz
          subst p
          clear HX HYj HN HY HI
          go_wp2_with fail
          with_reducible refine (HMr.out _).mono ?_
          rintro e v1 ⟨rfl, hb⟩
          have HB1 := keepd (bCall HB.out hb)
          clear hb r1 k1 HT HB HMr
          go_wp2
          go_returns
          exact ⟨rfl, HB1.out⟩
      · have g1 : decide (f ≥ 1) = false := decide_eq_false hf
        have g2 : decide (1 ≤ f) = false := decide_eq_false hf
        have H2 := keepd (HX.out (fun h => hf h.1))
        clear HX HYj HMr
        go_wp2
        go_roundw
        case rel => exact ⟨j + 1, by omega, by go_num, H2.out, HT, HB⟩
        case measure => simp [intOf]; omega
    · obtain rfl : j = 256 := by omega
      have hz := HN.out HI.out
      subst hz
      go_wp2
      go_returns
      exact ⟨rfl, HB.out⟩

end Go.Proofs.YtlfmbfecajhffaaDoor
/-
  The document's own Plain and key. No conditions beyond those each theorem states.
-/
namespace Go.Proofs.YtlfmbfecajhffaaDoor
open Go.RowKit
set_option maxRecDepth 100000

attribute [local go_sem ↓] ex_ld25 ex_st25 ex_al25 ex_bu25 ex_ix25 ex_eq25 ex_ne25 ex_eq23 ex_ne23 ex_ld25o ex_st65 ex_al65 ex_bu65 ex_bu65s
attribute [local go_sem] ptrB_at okPtr_at aggC_at agg62 agg69 isC_at isT_at eqV_t eqV_c isRow_new isRow_new65 World.setRow_alloc_new ptr4_at okPtr4_at cutT_at isI_at isS_at bW_at bWs_at

set_option maxHeartbeats 2000000 in
theorem rplain_any (X : Tb) (u : UInt8) (r : Bool) (hr : plainB X u = r) (w : World) : Calls Tryd.prog 73 #[tv X, .int .u8 (u.toNat : Int)] w fun e w' => e = .returned (.bool r) ∧ Below w.heap.size w w' := by
  obtain ⟨m, hm⟩ : ∃ m, meanF X (u.toNat : Int) = m := ⟨_, rfl⟩
  rw [plain_or, hm] at hr
  have HQ := keepd hr
  have CM := keepd fun W : World => refMeaning_any X (u.toNat : Int) m hm W
  clear hr hm
  go_enter Tryd.func73, Tryd.ntmps73
  go_upto_region 1 with fail
  generalize hV : w.alloc (.cells (cs X).toArray 25) = V
  obtain ⟨HT, HB⟩ := tab_new _ _ _ hV
  obtain ⟨q0, q1⟩ := TB.facts HT.out
  clear hV
  go_wp2_with fail
  with_reducible refine (CM.out _).mono ?_
  rintro e w2 ⟨rfl, hb2⟩
  have HB2 := keepd (bCall HB.out hb2)
  clear hb2 CM q0 q1
  have hq := HQ.out
  by_cases h0 : m = 0
  · subst h0
    obtain rfl : true = r := by rw [← hq]; rfl
    have z0 : ((0 : Nat) : Int) = 0 := rfl
    rw [z0]
    go_wp2_with fail
    go_ret
    exact ⟨rfl, HB2.out⟩
  by_cases h1 : m = 17
  · subst h1
    obtain rfl : true = r := by rw [← hq]; rfl
    have z0 : ((17 : Nat) : Int) = 17 := rfl
    rw [z0]
    go_wp2_with fail
    go_ret
    exact ⟨rfl, HB2.out⟩
  by_cases h2 : m = 18
  · subst h2
    obtain rfl : true = r := by rw [← hq]; rfl
    have z0 : ((18 : Nat) : Int) = 18 := rfl
    rw [z0]
    go_wp2_with fail
    go_ret
    exact ⟨rfl, HB2.out⟩
  obtain rfl : false = r := by rw [← hq]; simp [h0, h1, h2]
  have z0 : ((m : Int) == 0) = false := by simp; omega
  have z1 : ((m : Int) == 17) = false := by simp; omega
  have z2 : ((m : Int) == 18) = false := by simp; omega
  have y0 : ¬ (m : Int) = 0 := by omega
  have y1 : ¬ (m : Int) = 17 := by omega
  have y2 : ¬ (m : Int) = 18 := by omega
  clear h0 h1 h2 hq
  go_wp2_with fail
  go_ret
  exact ⟨rfl, HB2.out⟩

set_option maxHeartbeats 2000000 in
theorem rkey_any (X : Tb) (hX : TbO X) (f : Int) (n : Nat) (L : List UInt8) (m : Nat) (w : World) (hn : n ≤ 4096) (hL : kN X f n = L) (hm : L.length = m) :
    Calls Tryd.prog 57 #[tv X, .int .i64 f, .int .i64 (n : Int)] w (GotR w L m) := by
  obtain ⟨k, b, hk⟩ : ∃ k b, keyF X f = (k, b) := ⟨_, _, rfl⟩
  obtain ⟨z, hz⟩ : ∃ z : Int, (if b then k else 256) = z := ⟨_, rfl⟩
  have CR := keepd fun W : World => refKey_any X f k b z hk hz hX W
  have hkb := keyF_bound hX f
  unfold kN at hL
  rw [hk] at hL hkb
  simp only at hL hkb
  obtain ⟨u, hu⟩ : ∃ u, okt k = u := ⟨_, rfl⟩
  have huz : (u.toNat : Int) = k := by rw [← hu]; exact okt_nat hkb.1 hkb.2
  rw [hu] at hL
  have hz1 : b = true → z = (u.toNat : Int) := fun h => by rw [← hz, h, huz]; rfl
  have hz2 : b = false → z = 256 := fun h => by rw [← hz, h]; rfl
  have hu1 : (u.toNat : Int) < 256 := by have := u.toNat_lt; omega
  have HL := keepd hL
  have HM := keepd hm
  clear hk hz hX hkb hu huz hL hm k
  go_enter Tryd.func57, Tryd.ntmps57
  go_upto_region 1 with fail
  generalize hV : w.alloc (.cells (cs X).toArray 25) = V
  obtain ⟨HT, HB⟩ := tab_new _ _ _ hV
  obtain ⟨q0, q1⟩ := TB.facts HT.out
  clear hV
  go_wp2_with fail
  with_reducible refine (CR.out _).mono ?_
  rintro e w2 ⟨rfl, hb2⟩
  have HB2 := keepd (bCall HB.out hb2)
  clear hb2 CR q0 q1 HT HB
  cases b
  case false =>
    have e := hz2 rfl
    subst e
    have hl : ([] : List UInt8) = L := HL.out
    subst hl
    have hm : 0 = m := HM.out
    subst hm
    go_wp2_with fail
    go_loopw [8, 9] (fun v vi wr => v = .slice none 0 0 ∧ vi = .int .i64 0 ∧ wr = w2) (fun _ _ _ => 0)
    case atStart => exact ⟨rfl, rfl, rfl⟩
    case round =>
      obtain ⟨rfl, rfl, rfl⟩ := hrel
      rcases Nat.eq_zero_or_pos n with h0 | h0
      · subst h0
        go_wp2_with fail
        go_ret
        exact ⟨⟨none, 0, rfl, Rd.nil _ _⟩, HB2.out⟩
      · have i0 : (0 : Int) < (n : Int) := by omega
        go_wp2_with fail
        go_ret
        exact ⟨⟨none, 0, rfl, Rd.nil _ _⟩, HB2.out⟩
  case true =>
    have e := hz1 rfl
    subst e
    have hl : List.replicate n u = L := HL.out
    subst hl
    have hm : n = m := by have h := HM.out; rw [List.length_replicate] at h; exact h
    subst hm
    have wr1 : IntKind.u8.wrap (u.toNat : Int) = (u.toNat : Int) := by simp [IntKind.wrap, IntKind.bits, IntKind.signed]; omega
    clear HL HM hz1 hz2
    go_wp2_with fail
    go_loopw [8, 9] (fun v vi wr => ∃ i : Nat, i ≤ n ∧ vi = .int .i64 i ∧ Hid (Own wr w.heap.size v (List.replicate i u)) ∧ Hid (Below w.heap.size w wr)) (fun _ vi _ => n - (intOf vi).toNat)
    case atStart => exact ⟨0, by omega, rfl, Own.nil w2 w.heap.size, HB2⟩
    case round =>
      obtain ⟨i, hi, rfl, HO, HBi⟩ := hrel
      by_cases hlt : i < n
      · have i0 : (i : Int) < (n : Int) := by omega
        have HLE : Hid ((List.replicate i u).length + 1 ≤ 1000000) := by show _ ≤ _; rw [List.length_replicate]; omega
        go_wp2_with (at_builtin; refine wpList_app _ rfl (.tmp 22) (.tmp 25) rfl w.heap.size u8 (List.replicate i u) rfl (HO.out.alloc _) _ _ 1 1 [u] rfl rfl ((one_rdb wr u)) (by have := HLE.out; simp at this ⊢; omega) ?_ ?_)
        · exact (bAlloc HBi.out _).size
        intro v3 w3 ho3 hg3 _
        have HB3 := keepd (app_below (bAlloc HBi.out _) (HO.out.alloc _) hg3)
        have HO3 : Hid (Own w3 w.heap.size v3 (List.replicate (i + 1) u)) := by
          show Own _ _ _ _
          rw [List.replicate_succ']
          exact ho3
        clear ho3 hg3 HO HBi
        go_wp2_with fail
        go_roundw
        case rel => exact ⟨i + 1, by omega, by go_num, HO3, HB3⟩
        case measure => simp [intOf]; omega
      · obtain rfl : i = n := by omega
        obtain ⟨A, c, he, hr⟩ := HO.out.rd
        rw [List.length_replicate] at he
        have HR := keepd hr
        have HE := keepd he
        clear he hr
        go_wp2_with fail
        go_ret
        exact ⟨⟨A, c, congrArg Ending.returned HE.out, HR.out⟩, HBi.out⟩

end Go.Proofs.YtlfmbfecajhffaaDoor
