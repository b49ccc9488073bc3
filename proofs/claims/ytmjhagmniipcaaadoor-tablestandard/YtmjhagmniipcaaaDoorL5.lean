/-
  The law TableStandard. No conditions beyond those each theorem states.
-/
import Derived.Test.YtmjhagmniipcaaaDoorL4
import Derived.Test.YtmjhagmniipcaaaDoorL2
import Derived.Deep.CutBlock
namespace Go.Proofs.YtmjhagmniipcaaaDoor
open Go.RowKit
set_option maxRecDepth 100000

attribute [local go_sem ↓] ex_ld25 ex_st25 ex_al25 ex_bu25 ex_ix25 ex_eq25 ex_ne25 ex_eq23 ex_ne23
attribute [local go_sem] ptrB_at okPtr_at aggC_at agg62 isC_at isT_at eqV_t eqV_c isRow_new World.setRow_alloc_new

/-- The standard table, with cells changed to none. -/
def Red (T : Tb) : Prop := ∀ i, i < 31 → T i = stdT i ∨ T i = ⟨0, 0⟩
theorem Red.std : Red stdT := fun _ _ => .inl rfl
theorem Red.out {T : Tb} (h : Red T) (j : Nat) : Red (tset T j ⟨0, 0⟩) := fun i hi => by
  by_cases e : i = j
  · subst e; rw [tset_at]; exact .inr rfl
  · rw [tset_ne T _ e]; exact h i hi
theorem std_all : ∀ i : Fin 31, ((stdT i).lv = 2 ∧ (stdT i).v ≠ 13 ∧ i.1 ≠ 0) ∨ (stdT i) = ⟨0, 0⟩ := by decide +kernel
theorem std_one : ∀ i j : Fin 31, (stdT i).lv = 2 → (stdT j).lv = 2 → (stdT i).v = (stdT j).v → i = j := by decide +kernel
theorem Red.ways {T : Tb} (h : Red T) {i : Nat} (hi : i < 31) : (T i = stdT i ∧ (stdT i).lv = 2 ∧ (stdT i).v ≠ 13 ∧ i ≠ 0) ∨ T i = ⟨0, 0⟩ := by
  rcases h i hi with e | e
  · rcases std_all ⟨i, hi⟩ with ⟨a, b, c⟩ | a
    · exact .inl ⟨e, a, b, c⟩
    · exact .inr (e.trans a)
  · exact .inr e
theorem mayT_std : mayT stdT = true := by decide +kernel

/-- Each function that is left has its key. -/
theorem Red.key {T : Tb} (h : Red T) {f : Nat} (h0 : 1 ≤ f) (hf : f < 31) : ((T f).lv = 2 ∧ keyF T (f : Int) = ((T f).v, true) ∧ meanF T (T f).v = f) ∨ ((T f).lv = 0 ∧ keyF T (f : Int) = (0, false)) := by
  rcases h.ways hf with ⟨e, e2, e13, _⟩ | e
  · have hm : meanF T (T f).v = f := by
      unfold meanF
      rw [if_neg (by rw [e]; exact e13)]
      refine first_some hf (has_iff.2 ⟨by omega, by rw [e, e2]; decide, rfl⟩) fun i hi => ?_
      rw [has_no]
      rintro ⟨i0, i1, i2⟩
      rcases h.ways (show i < 31 by omega) with ⟨g, g2, _, _⟩ | g
      · have := std_one ⟨i, by omega⟩ ⟨f, hf⟩ g2 e2 (by rw [← g, ← e]; exact i2)
        rw [Fin.mk.injEq] at this
        omega
      · rw [g] at i1
        exact i1 rfl
    refine .inl ⟨by rw [e, e2], ?_, hm⟩
    unfold keyF
    rw [if_neg (by omega), Int.toNat_natCast, if_pos ⟨by omega, by omega, hm⟩]
  · exact .inr ⟨by rw [e], key_none hf (by rw [e])⟩

/-- How many are left. -/
def cnt (T : Tb) : Nat → Nat
  | 0 => 0
  | k + 1 => cnt T k + (if (T k).lv = 2 then 1 else 0)
theorem cnt_one {T : Tb} (h : Red T) : cnt T 1 = 0 := by
  rcases h.ways (show 0 < 31 by omega) with ⟨_, _, _, e⟩ | e
  · exact absurd rfl e
  · simp [cnt, e]
theorem cnt_yes {T : Tb} {k : Nat} (h : (T k).lv = 2) : cnt T (k + 1) = cnt T k + 1 := by simp [cnt, h]
theorem cnt_no {T : Tb} {k : Nat} (h : (T k).lv = 0) : cnt T (k + 1) = cnt T k := by simp [cnt, h]
theorem cnt_le {T : Tb} (h : Red T) : ∀ k, k ≤ 31 → cnt T k ≤ cnt stdT k
  | 0, _ => Nat.le_refl _
  | k + 1, hk => by
    have ih := cnt_le h k (by omega)
    rcases h.ways (show k < 31 by omega) with ⟨e, e2, _, _⟩ | e
    · rw [cnt_yes (by rw [e, e2]), cnt_yes e2]; omega
    · rw [cnt_no (by rw [e])]
      simp only [cnt]
      omega
theorem cnt_std : cnt stdT 31 = 25 := by decide +kernel
theorem cnt_bound (T : Tb) : ∀ k, cnt T k ≤ k
  | 0 => Nat.le_refl _
  | k + 1 => by have := cnt_bound T k; simp only [cnt]; split <;> omega

theorem with_none {T : Tb} (h : mayT T = true) {j : Nat} (h0 : 0 < j) (hj : j < 31) : withF T (j : Int) ⟨0, 0⟩ = (tset T j ⟨0, 0⟩, 0) ∧ mayT (tset T j ⟨0, 0⟩) = true := by
  have hm : mayT (tset T j ⟨0, 0⟩) = true := (mayT_set h h0 hj _).trans rfl
  unfold withF
  rw [Int.toNat_natCast, if_pos ⟨by omega, by omega, hm⟩]
  exact ⟨rfl, hm⟩

/-- What is read: the table, an octet. -/
def S5 (V0 : World) (bT k : Nat) (T : Tb) (ad : Addr) (x : Int) (V : World) : Prop :=
  rowOf V bT = (cs T).toArray ∧ isRow V 25 bT 62 = true ∧ V.cell? (ad.add k) = some (.int .u8 x) ∧ Below V0.heap.size V0 V
theorem S5.of {V0 V : World} {bT k : Nat} {T : Tb} {ad : Addr} {x : Int} (h0 : TB V0 bT T) (hc : V0.cell? (ad.add k) = some (.int .u8 x)) (hl : (ad.add k).block < V0.heap.size) (hb : Below V0.heap.size V0 V) : S5 V0 bT k T ad x V := by
  obtain ⟨r1, k1⟩ := TB.facts (SR.call h0 hb (SR.lt h0))
  exact ⟨r1, k1, (hb.cell hl).trans hc, hb⟩

theorem mean_31 {X : Tb} {a : Int} {m : Nat} (hm : meanF X a = m) (h : a = 13) : m = 31 := by
  rw [← hm]
  simp [meanF, h]

set_option maxHeartbeats 8000000 in
theorem standard_law (A : Option Addr) (l : List UInt8) (c : Nat) (a b : Int) (w : World) (hr : Rd w w.heap.size A l c) (hL : Laid w) : Calls Tryd.prog 7 #[.slice A l.length c, .int .u8 a, .int .u8 b] w fun e w' => e = .returned (.bool true) ∧ Below w.heap.size w w' := by
  have HA := keepd (fun w h => awake_any w h)
  have HL := keepd hL
  have CS := keepd (standard_any w hL)
  have HR := keepd hr
  obtain ⟨n, hn⟩ : ∃ n, l.length = n := ⟨_, rfl⟩
  have hnc := hr.1
  have hcm := hr.2.1
  unfold maxLen at hcm
  rw [hn] at hnc ⊢
  have HN := keepd hn
  clear hL hr hn
  have CC := keepd (check_any stdT true mayT_std)
  go_enter Tryd.func7, Tryd.ntmps7
  go_wp2_with fail
  with_reducible refine CS.out.mono ?_
  rintro e w1 ⟨rfl, hb⟩
  have HB := keepd (bAlloc hb (.cells (cs stdT).toArray 25))
  have HT := keepd (SR.new 25 w1 (cs stdT))
  have hbt := hb.size
  clear hb CS
  go_upto_region 2 with fail
  generalize w1.alloc (.cells (cs stdT).toArray 25) = W1 at *
  obtain ⟨bT, hp⟩ : ∃ p, w1.heap.size = p := ⟨_, rfl⟩
  rw [hp] at HT hbt ⊢
  have HBT := keepd hbt
  clear hp hbt
  obtain ⟨r1, k1⟩ := TB.facts HT.out
  go_wp2_with fail
  with_reducible refine (CC.out _).mono ?_
  rintro e w2 ⟨rfl, hb⟩
  have HT2 := keepd (SR.call HT.out hb (SR.lt HT.out))
  have HB2 := keepd (bCall HB.out hb)
  clear hb r1 k1 HT HB CC
  go_upto_block 0 with fail
  go_cut [8, 9, 10] from 21 to 46 (fun _ _ _ wx => ∃ T : Tb, Hid (TB wx bT T) ∧ Hid (Red T) ∧ Hid (n = 0 → T = stdT) ∧ Hid (Below w.heap.size w wx))
  case first =>
    go_wp2_with fail
    go_loopw [8] (fun vi wr => ∃ (k : Nat) (T : Tb), k ≤ n ∧ k ≤ 40 ∧ vi = .int .i64 k ∧ Hid (TB wr bT T) ∧ Hid (Red T) ∧ Hid (mayT T = true) ∧ Hid (k = 0 → T = stdT) ∧ Hid (Below w.heap.size w wr)) (fun vi _ => 40 - (intOf vi).toNat)
    case atStart => exact ⟨0, stdT, by omega, by omega, rfl, HT2, Red.std, mayT_std, fun _ => rfl, HB2⟩
    case round =>
      obtain ⟨k, T, hkn, hk40, rfl, HT, HRd, HM, HZ, HB⟩ := hrel
      clear HT2 HB2
      by_cases hlt : k < n
      · have g1 : decide ((k : Int) < (n : Int)) = true := decide_eq_true (by omega)
        by_cases h40 : k < 40
        · have g2 : decide ((k : Int) < 40) = true := decide_eq_true (by omega)
          go_upto_region 7 with fail
          have hlt2 : k < l.length := by rw [HN.out]; exact hlt
          obtain ⟨ad, hA, hbl⟩ := HR.out.2.2.1 (by rintro rfl; simp at hlt2)
          subst hA
          have hce := HR.out.2.2.2 ad rfl k _ (List.getElem?_eq_getElem hlt2)
          have hAb : (ad.add k).block < w.heap.size := by rw [blk_add]; exact hbl
          have hce2 := (HB.out.cell hAb).trans hce
          obtain ⟨x, hx, hx0, hx1⟩ : ∃ x : Int, bv l[k] = .int .u8 x ∧ 0 ≤ x ∧ x ≤ 255 := ⟨(l[k].toNat : Int), rfl, by omega, by have := l[k].toNat_lt; omega⟩
          rw [hx] at hce2
          have HCe := keepd hce2
          have HAb : Hid ((ad.add k).block < wr.heap.size) := Nat.lt_of_lt_of_le hAb HB.out.size
          obtain ⟨r, hr⟩ : ∃ r, x % 30 = r := ⟨_, rfl⟩
          have hr0 : 0 ≤ r ∧ r < 30 := by omega
          have hrt : Int.tmod x 30 = r := by rw [Int.tmod_eq_emod_of_nonneg hx0]; exact hr
          obtain ⟨j, hj⟩ : ∃ j : Nat, 1 + r = (j : Int) := ⟨(1 + r).toNat, by omega⟩
          have hj0 : 0 < j := by omega
          have hj1 : j < 31 := by omega
          obtain ⟨hZ, hMZ⟩ := with_none HM.out hj0 hj1
          have HRZ := keepd (HRd.out.out j)
          generalize tset T j ⟨0, 0⟩ = Z at *
          have CZ := keepd (with_any T j ⟨0, 0⟩ Z 0 hZ)
          have HMZ := keepd hMZ
          have i0 : (0 : Int) ≤ (k : Int) := by omega
          have i1 : (k : Int) < (n : Int) := by omega
          have wr1 : IntKind.i64.wrap r = r := by simp [IntKind.wrap, IntKind.bits, IntKind.signed]; omega
          have wr2 : IntKind.u8.wrap r = r := by simp [IntKind.wrap, IntKind.bits, IntKind.signed]; omega
          have wr3 : IntKind.i64.wrap (j : Int) = (j : Int) := by simp [IntKind.wrap, IntKind.bits, IntKind.signed]; omega
          clear hZ hMZ hce hce2 hAb hbl hlt2 hx HM HRd hx0 hx1
          go_cut [9, 10] (fun s9 s10 wx => ∃ bB : Nat, s9 = .pointer (some ⟨bB, 0, none⟩) ∧ s10 = .int .i64 0 ∧ Hid (TB wx bB Z) ∧ Hid (Below wr.heap.size wr wx))
          case first =>
            refine wp_region_held_drew (S := S5 wr bT k T ad x) (by kernel_rfl) (S5.of HT.out HCe.out HAb.out (Below.drew (Below.refl _ _))) (fun hHeld => ?_)
            refine wpAnyH_take (i := 0) (oi := { dst := some 32, op := Op.load 25 (Operand.tmp 7), type := 25, pos := "law.go:106", after := #[], guard := none }) (v := tv T) rfl (by kernel_rfl) (by kernel_rfl) (by kernel_rfl) (fun _ _ _ h => h) (Or.inl ⟨by rfl, fun W hW => ?_⟩) hHeld ?_
            · obtain ⟨q1, q2, q3, q4⟩ := hW
              go_simp
            simp only [Act.put, List.setIfInBounds_toArray, List.set_cons_zero, List.set_cons_succ]
            refine wpAnyH_take (i := 1) (oi := { dst := some 33, op := Op.move (Operand.tmp 0), type := 42, pos := "law.go:106", after := #[], guard := none }) (v := .slice (some ad) n c) rfl (by kernel_rfl) (by kernel_rfl) (by kernel_rfl) (fun _ _ _ h => h) (Or.inl ⟨by rfl, fun W hW => ?_⟩) hHeld ?_
            · obtain ⟨q1, q2, q3, q4⟩ := hW
              go_simp
            simp only [Act.put, List.setIfInBounds_toArray, List.set_cons_zero, List.set_cons_succ]
            refine wpAnyH_take (i := 2) (oi := { dst := some 34, op := Op.move (Operand.tmp 8), type := 3, pos := "law.go:106", after := #[], guard := none }) (v := .int .i64 (k : Int)) rfl (by kernel_rfl) (by kernel_rfl) (by kernel_rfl) (fun _ _ _ h => h) (Or.inl ⟨by rfl, fun W hW => ?_⟩) hHeld ?_
            · obtain ⟨q1, q2, q3, q4⟩ := hW
              go_simp
            simp only [Act.put, List.setIfInBounds_toArray, List.set_cons_zero, List.set_cons_succ]
            refine wpAnyH_take (i := 3) (oi := { dst := some 35, op := Op.indexAddr 42 (Operand.tmp 33) (Operand.tmp 34), type := 0, pos := "law.go:106", after := #[{ on := 1, ground := Ground.data }, { on := 2, ground := Ground.data }], guard := none }) (v := .pointer (some (ad.add k))) rfl (by kernel_rfl) (by kernel_rfl) (by kernel_rfl) (fun _ _ _ h => h) (Or.inl ⟨by rfl, fun W hW => ?_⟩) hHeld ?_
            · obtain ⟨q1, q2, q3, q4⟩ := hW
              go_simp
            simp only [Act.put, List.setIfInBounds_toArray, List.set_cons_zero, List.set_cons_succ]
            refine wpAnyH_take (i := 4) (oi := { dst := some 36, op := Op.load 5 (Operand.tmp 35), type := 5, pos := "law.go:106", after := #[{ on := 3, ground := Ground.data }], guard := none }) (v := .int .u8 x) rfl (by kernel_rfl) (by kernel_rfl) (by kernel_rfl) (fun _ _ _ h => h) (Or.inl ⟨by rfl, fun W hW => ?_⟩) hHeld ?_
            · obtain ⟨q1, q2, q3, q4⟩ := hW
              go_simp
            simp only [Act.put, List.setIfInBounds_toArray, List.set_cons_zero, List.set_cons_succ]
            refine wpAnyH_take (i := 5) (oi := { dst := some 37, op := Op.binOp BinOp.rem 5 (Operand.tmp 36) (Operand.const (Value.int IntKind.u8 30)) 5, type := 5, pos := "law.go:106", after := #[{ on := 4, ground := Ground.data }], guard := none }) (v := .int .u8 r) rfl (by kernel_rfl) (by kernel_rfl) (by kernel_rfl) (fun _ _ _ h => h) (Or.inl ⟨by rfl, fun W hW => ?_⟩) hHeld ?_
            · obtain ⟨q1, q2, q3, q4⟩ := hW
              go_simp
            simp only [Act.put, List.setIfInBounds_toArray, List.set_cons_zero, List.set_cons_succ]
            refine wpAnyH_take (i := 6) (oi := { dst := some 38, op := Op.convert 5 3 (Operand.tmp 37), type := 3, pos := "law.go:106", after := #[{ on := 5, ground := Ground.data }], guard := none }) (v := .int .i64 r) rfl (by kernel_rfl) (by kernel_rfl) (by kernel_rfl) (fun _ _ _ h => h) (Or.inl ⟨by rfl, fun W hW => ?_⟩) hHeld ?_
            · obtain ⟨q1, q2, q3, q4⟩ := hW
              go_simp
            simp only [Act.put, List.setIfInBounds_toArray, List.set_cons_zero, List.set_cons_succ]
            refine wpAnyH_take (i := 7) (oi := { dst := some 39, op := Op.binOp BinOp.add 3 (Operand.const (Value.int IntKind.i64 1)) (Operand.tmp 38) 3, type := 3, pos := "law.go:106", after := #[{ on := 6, ground := Ground.data }], guard := none }) (v := .int .i64 (j : Int)) rfl (by kernel_rfl) (by kernel_rfl) (by kernel_rfl) (fun _ _ _ h => h) (Or.inl ⟨by rfl, fun W hW => ?_⟩) hHeld ?_
            · obtain ⟨q1, q2, q3, q4⟩ := hW
              go_simp
            simp only [Act.put, List.setIfInBounds_toArray, List.set_cons_zero, List.set_cons_succ]
            refine wpAnyH_take (i := 8) (oi := { dst := some 40, op := Op.build 23 #[], type := 23, pos := "law.go:106", after := #[], guard := none }) (v := .agg #[.int .i64 0, .int .u8 0]) rfl (by kernel_rfl) (by kernel_rfl) (by kernel_rfl) (fun _ _ _ h => h) (Or.inl ⟨by rfl, fun W hW => ?_⟩) hHeld ?_
            · obtain ⟨q1, q2, q3, q4⟩ := hW
              go_simp
            simp only [Act.put, List.setIfInBounds_toArray, List.set_cons_zero, List.set_cons_succ]
            refine wpAnyH_ready (rs := [9, 13]) (by kernel_rfl) (by simp) ?_
            refine AllReadyH.cons (o := { dst := some 41, op := Op.call { callee := Callee.value (Operand.func 17), args := #[Operand.tmp 32, Operand.tmp 39, Operand.tmp 40], argTypes := #[25, 3, 23] }, type := 36, pos := "law.go:106", after := #[{ on := 0, ground := Ground.data }, { on := 7, ground := Ground.data }, { on := 8, ground := Ground.data }], guard := none }) rfl (fun K hK => ?_) (AllReadyH.cons (o := { dst := some 9, op := Op.alloc 25, type := 0, pos := "law.go:106", after := #[], guard := none }) rfl (fun K hK => ?_) AllReadyH.nil)
            · go_simp
              with_reducible refine (CZ.out _).mono ?_
              rintro e w7 ⟨rfl, hb7⟩
              have hb8 := bCall hHeld.2.2.2 hb7
              go_wp2_with fail
              refine hK.out _ _ (S5.of HT.out HCe.out HAb.out hb8) (fun hHeld2 => ?_)
              clear hK K hHeld
              have hHeld := hHeld2
              clear hHeld2
              try simp only [Act.put, List.setIfInBounds_toArray, List.set_cons_zero, List.set_cons_succ]
              refine wpAnyH_take (i := 10) (oi := { dst := some 31, op := Op.move (Operand.tmp 41), type := 36, pos := "law.go:106", after := #[{ on := 9, ground := Ground.data }], guard := none }) (v := .tuple #[tv Z, .int .i64 0]) rfl (by kernel_rfl) (by kernel_rfl) (by kernel_rfl) (fun _ _ _ h => h) (Or.inl ⟨by rfl, fun W hW => ?_⟩) hHeld ?_
              · obtain ⟨q1, q2, q3, q4⟩ := hW
                go_simp
              simp only [Act.put, List.setIfInBounds_toArray, List.set_cons_zero, List.set_cons_succ]
              refine wpAnyH_take (i := 11) (oi := { dst := some 42, op := Op.extract (Operand.tmp 31) 0, type := 25, pos := "law.go:106", after := #[{ on := 10, ground := Ground.data }], guard := none }) (v := tv Z) rfl (by kernel_rfl) (by kernel_rfl) (by kernel_rfl) (fun _ _ _ h => h) (Or.inl ⟨by rfl, fun W hW => ?_⟩) hHeld ?_
              · obtain ⟨q1, q2, q3, q4⟩ := hW
                go_simp
              simp only [Act.put, List.setIfInBounds_toArray, List.set_cons_zero, List.set_cons_succ]
              refine wpAnyH_take (i := 12) (oi := { dst := some 43, op := Op.extract (Operand.tmp 31) 1, type := 31, pos := "law.go:106", after := #[{ on := 10, ground := Ground.data }, { on := 14, ground := Ground.gcOnly Departure.lateStores }], guard := none }) (v := .int .i64 0) rfl (by kernel_rfl) (by kernel_rfl) (by kernel_rfl) (fun _ _ _ h => h) (Or.inl ⟨by rfl, fun W hW => ?_⟩) hHeld ?_
              · obtain ⟨q1, q2, q3, q4⟩ := hW
                go_simp
              simp only [Act.put, List.setIfInBounds_toArray, List.set_cons_zero, List.set_cons_succ]
              refine wpAnyH_ready (rs := [13]) (by kernel_rfl) (by simp) ?_
              refine AllReadyH.cons (o := { dst := some 9, op := Op.alloc 25, type := 0, pos := "law.go:106", after := #[], guard := none }) rfl (fun K hK => ?_) AllReadyH.nil
              go_simp
              refine hK.out _ _ (S5.of HT.out HCe.out HAb.out (bAlloc hb8 _)) (fun hHeld2 => ?_)
              clear hK K hHeld
              have hHeld := hHeld2
              clear hHeld2
              try simp only [Act.put, List.setIfInBounds_toArray, List.set_cons_zero, List.set_cons_succ]
              refine wpAnyH_ready (rs := [14]) (by kernel_rfl) (by simp) ?_
              refine AllReadyH.cons (o := { dst := none, op := Op.store 25 (Operand.tmp 9) (Operand.tmp 42), type := 0, pos := "law.go:106", after := #[{ on := 13, ground := Ground.data }, { on := 11, ground := Ground.data }, { on := 9, ground := Ground.chain }, { on := 0, ground := Ground.phase }, { on := 1, ground := Ground.phase }, { on := 2, ground := Ground.phase }, { on := 3, ground := Ground.phase }, { on := 4, ground := Ground.phase }, { on := 5, ground := Ground.phase }, { on := 6, ground := Ground.phase }, { on := 7, ground := Ground.phase }, { on := 8, ground := Ground.phase }, { on := 9, ground := Ground.phase }, { on := 10, ground := Ground.phase }, { on := 11, ground := Ground.phase }, { on := 12, ground := Ground.textOnly Departure.lateStores }, { on := 13, ground := Ground.phase }], guard := none }) rfl (fun K hK => ?_) AllReadyH.nil
              go_simp
              refine hK.out _ _ (S5.of HT.out HCe.out HAb.out (bAlloc hb8 _)) (fun hHeld2 => ?_)
              clear hK K hHeld
              have hHeld := hHeld2
              clear hHeld2
              try simp only [Act.put, List.setIfInBounds_toArray, List.set_cons_zero, List.set_cons_succ]
              refine wpAnyH_take (i := 15) (oi := { dst := some 10, op := Op.assign (Operand.tmp 43), type := 31, pos := "law.go:106", after := #[{ on := 12, ground := Ground.data }, { on := 14, ground := Ground.chain }, { on := 0, ground := Ground.phase }, { on := 1, ground := Ground.phase }, { on := 2, ground := Ground.phase }, { on := 3, ground := Ground.phase }, { on := 4, ground := Ground.phase }, { on := 5, ground := Ground.phase }, { on := 6, ground := Ground.phase }, { on := 7, ground := Ground.phase }, { on := 8, ground := Ground.phase }, { on := 9, ground := Ground.phase }, { on := 10, ground := Ground.phase }, { on := 11, ground := Ground.phase }, { on := 12, ground := Ground.phase }, { on := 13, ground := Ground.phase }, { on := 14, ground := Ground.phase }], guard := none }) (v := .int .i64 0) rfl (by kernel_rfl) (by kernel_rfl) (by kernel_rfl) (fun _ _ _ h => h) (Or.inl ⟨by rfl, fun W hW => ?_⟩) hHeld ?_
              · obtain ⟨q1, q2, q3, q4⟩ := hW
                go_simp
              simp only [Act.put, List.setIfInBounds_toArray, List.set_cons_zero, List.set_cons_succ]
              refine wpAnyH_done (by kernel_rfl) ?_ _
              go_wp2_with fail
              go_meet
              exact ⟨w7.heap.size, rfl, rfl, SR.new 25 w7 (cs Z), bAlloc hb8 _⟩
            · go_simp
              refine hK.out _ _ (S5.of HT.out HCe.out HAb.out (Below.drew (bAlloc (Below.refl _ _) _))) (fun hHeld2 => ?_)
              clear hK K hHeld
              have hHeld := hHeld2
              clear hHeld2
              have HNw := keepd (SR.drew (SR.new 25 wr (cs zT)))
              try simp only [Act.put, List.setIfInBounds_toArray, List.set_cons_zero, List.set_cons_succ]
              refine wpAnyH_ready (rs := [9]) (by kernel_rfl) (by simp) ?_
              refine AllReadyH.cons (o := { dst := some 41, op := Op.call { callee := Callee.value (Operand.func 17), args := #[Operand.tmp 32, Operand.tmp 39, Operand.tmp 40], argTypes := #[25, 3, 23] }, type := 36, pos := "law.go:106", after := #[{ on := 0, ground := Ground.data }, { on := 7, ground := Ground.data }, { on := 8, ground := Ground.data }], guard := none }) rfl (fun K hK => ?_) AllReadyH.nil
              go_simp
              with_reducible refine (CZ.out _).mono ?_
              rintro e w7 ⟨rfl, hb7⟩
              have hb8 := bCall hHeld.2.2.2 hb7
              have HN7 := keepd (SR.call HNw.out hb7 (SR.lt HNw.out))
              obtain ⟨r1, k1⟩ := TB.facts HN7.out
              go_wp2_with fail
              refine hK.out _ _ (S5.of HT.out HCe.out HAb.out hb8) (fun hHeld2 => ?_)
              clear hK K hHeld
              have hHeld := hHeld2
              clear hHeld2
              try simp only [Act.put, List.setIfInBounds_toArray, List.set_cons_zero, List.set_cons_succ]
              refine wpAnyH_take (i := 10) (oi := { dst := some 31, op := Op.move (Operand.tmp 41), type := 36, pos := "law.go:106", after := #[{ on := 9, ground := Ground.data }], guard := none }) (v := .tuple #[tv Z, .int .i64 0]) rfl (by kernel_rfl) (by kernel_rfl) (by kernel_rfl) (fun _ _ _ h => h) (Or.inl ⟨by rfl, fun W hW => ?_⟩) hHeld ?_
              · obtain ⟨q1, q2, q3, q4⟩ := hW
                go_simp
              simp only [Act.put, List.setIfInBounds_toArray, List.set_cons_zero, List.set_cons_succ]
              refine wpAnyH_take (i := 11) (oi := { dst := some 42, op := Op.extract (Operand.tmp 31) 0, type := 25, pos := "law.go:106", after := #[{ on := 10, ground := Ground.data }], guard := none }) (v := tv Z) rfl (by kernel_rfl) (by kernel_rfl) (by kernel_rfl) (fun _ _ _ h => h) (Or.inl ⟨by rfl, fun W hW => ?_⟩) hHeld ?_
              · obtain ⟨q1, q2, q3, q4⟩ := hW
                go_simp
              simp only [Act.put, List.setIfInBounds_toArray, List.set_cons_zero, List.set_cons_succ]
              refine wpAnyH_take (i := 12) (oi := { dst := some 43, op := Op.extract (Operand.tmp 31) 1, type := 31, pos := "law.go:106", after := #[{ on := 10, ground := Ground.data }, { on := 14, ground := Ground.gcOnly Departure.lateStores }], guard := none }) (v := .int .i64 0) rfl (by kernel_rfl) (by kernel_rfl) (by kernel_rfl) (fun _ _ _ h => h) (Or.inl ⟨by rfl, fun W hW => ?_⟩) hHeld ?_
              · obtain ⟨q1, q2, q3, q4⟩ := hW
                go_simp
              simp only [Act.put, List.setIfInBounds_toArray, List.set_cons_zero, List.set_cons_succ]
              refine wpAnyH_ready (rs := [14]) (by kernel_rfl) (by simp) ?_
              refine AllReadyH.cons (o := { dst := none, op := Op.store 25 (Operand.tmp 9) (Operand.tmp 42), type := 0, pos := "law.go:106", after := #[{ on := 13, ground := Ground.data }, { on := 11, ground := Ground.data }, { on := 9, ground := Ground.chain }, { on := 0, ground := Ground.phase }, { on := 1, ground := Ground.phase }, { on := 2, ground := Ground.phase }, { on := 3, ground := Ground.phase }, { on := 4, ground := Ground.phase }, { on := 5, ground := Ground.phase }, { on := 6, ground := Ground.phase }, { on := 7, ground := Ground.phase }, { on := 8, ground := Ground.phase }, { on := 9, ground := Ground.phase }, { on := 10, ground := Ground.phase }, { on := 11, ground := Ground.phase }, { on := 12, ground := Ground.textOnly Departure.lateStores }, { on := 13, ground := Ground.phase }], guard := none }) rfl (fun K hK => ?_) AllReadyH.nil
              go_simp
              refine hK.out _ _ (S5.of HT.out HCe.out HAb.out (bRow hb8 (Nat.le_refl _) _)) (fun hHeld2 => ?_)
              clear hK K hHeld
              have hHeld := hHeld2
              clear hHeld2
              try simp only [Act.put, List.setIfInBounds_toArray, List.set_cons_zero, List.set_cons_succ]
              refine wpAnyH_take (i := 15) (oi := { dst := some 10, op := Op.assign (Operand.tmp 43), type := 31, pos := "law.go:106", after := #[{ on := 12, ground := Ground.data }, { on := 14, ground := Ground.chain }, { on := 0, ground := Ground.phase }, { on := 1, ground := Ground.phase }, { on := 2, ground := Ground.phase }, { on := 3, ground := Ground.phase }, { on := 4, ground := Ground.phase }, { on := 5, ground := Ground.phase }, { on := 6, ground := Ground.phase }, { on := 7, ground := Ground.phase }, { on := 8, ground := Ground.phase }, { on := 9, ground := Ground.phase }, { on := 10, ground := Ground.phase }, { on := 11, ground := Ground.phase }, { on := 12, ground := Ground.phase }, { on := 13, ground := Ground.phase }, { on := 14, ground := Ground.phase }], guard := none }) (v := .int .i64 0) rfl (by kernel_rfl) (by kernel_rfl) (by kernel_rfl) (fun _ _ _ h => h) (Or.inl ⟨by rfl, fun W hW => ?_⟩) hHeld ?_
              · obtain ⟨q1, q2, q3, q4⟩ := hW
                go_simp
              simp only [Act.put, List.setIfInBounds_toArray, List.set_cons_zero, List.set_cons_succ]
              refine wpAnyH_done (by kernel_rfl) ?_ _
              go_wp2_with fail
              go_meet
              exact ⟨wr.heap.size, rfl, rfl, SR.row HN7.out _, bRow hb8 (Nat.le_refl _) _⟩
          case rest =>
          obtain ⟨bB, rfl, rfl, HZ3, hb7⟩ := hcut
          have HT4 := keepd (SR.call HT.out hb7.out (SR.lt HT.out))
          have HB4 := keepd (bCall HB.out hb7.out)
          clear hb7 HT HB CZ HCe HAb wr1 wr2 wr3 hrt hr hr0 hj0 hj1 hj i0 i1 g1 g2
          obtain ⟨r1, k1⟩ := TB.facts HZ3.out
          obtain ⟨r2, k2⟩ := TB.facts HT4.out
          have HB5 := keepd (bRow (b := bT) HB4.out HBT.out (cs Z).toArray)
          have HT5 := keepd (SR.row HT4.out (cs Z))
          go_wp2
          go_roundw
          case rel => exact ⟨k + 1, Z, by omega, by omega, by go_num, HT5, HRZ, HMZ, fun e => by omega, HB5⟩
          case measure => simp [intOf]; omega
        · have g2 : decide ((k : Int) < 40) = false := decide_eq_false (by omega)
          go_wp2_with fail
          go_meet
          exact ⟨T, HT, HRd, fun e => by omega, HB⟩
      · have g1 : decide ((k : Int) < (n : Int)) = false := decide_eq_false (by omega)
        go_wp2_with fail
        go_meet
        exact ⟨T, HT, HRd, fun e => HZ.out (by omega), HB⟩
  case rest =>
  obtain ⟨T, HT, HRd, HZ, HB⟩ := hcut
  clear HT2 HB2
  go_wp2_with fail
  have HC1 := keepd (cnt_one HRd.out)
  go_loopw [11, 12] (fun vn vi wr => ∃ m k : Nat, 1 ≤ k ∧ k ≤ 31 ∧ m ≤ 31 ∧ vn = .int .i64 m ∧ vi = .int .i64 k ∧ Hid (cnt T k = m) ∧ Hid (TB wr bT T) ∧ Hid (Below w.heap.size w wr)) (fun _ vi _ => 31 - (intOf vi).toNat)
  case atStart => exact ⟨0, 1, by omega, by omega, by omega, rfl, rfl, HC1, HT, HB⟩
  case round =>
    clear HT HB HC1
    obtain ⟨m, k, hk1, hk31, hm31, rfl, rfl, HC, HT, HB⟩ := hrel
    by_cases hlt : k < 31
    · have i0 : (0 : Int) ≤ (k : Int) := by omega
      have i1 : (k : Int) < 31 := by omega
      obtain ⟨r1, k1⟩ := TB.facts HT.out
      have hmb : m < 31 := by
        have := cnt_bound T k
        rw [HC.out] at this
        omega
      rcases HRd.out.key hk1 hlt with ⟨e2, hky, hmn⟩ | ⟨e2, hky⟩
      · have HK := keepd (key_any T k (T k).v true hky)
        have HMn := keepd (meaning_any T (T k).v k hmn)
        have HC2 := keepd ((cnt_yes e2).trans (congrArg (· + 1) HC.out))
        clear hky hmn
        go_wp2_with fail
        with_reducible refine (HK.out _).mono ?_
        rintro e v1 ⟨rfl, hb⟩
        have HT1 := keepd (SR.call HT.out hb (SR.lt HT.out))
        have HB1 := keepd (bCall HB.out hb)
        clear hb r1 k1 HT HB HK
        obtain ⟨c0, c1⟩ := TB.at HT1.out k hlt
        rw [e2] at c0
        obtain ⟨r1, k1⟩ := TB.facts HT1.out
        go_wp2_with fail
        with_reducible refine (HMn.out _).mono ?_
        rintro e v2 ⟨rfl, hb⟩
        have HT2 := keepd (SR.call HT1.out hb (SR.lt HT1.out))
        have HB2 := keepd (bCall HB1.out hb)
        clear hb r1 k1 HT1 HB1 c0 c1
        go_wp2
        go_roundw
        case rel => exact ⟨m + 1, k + 1, by omega, by omega, by omega, by go_num, by go_num, HC2, HT2, HB2⟩
        case measure => simp [intOf]; omega
      · have HK := keepd (key_any T k 0 false hky)
        have HC2 := keepd ((cnt_no e2).trans HC.out)
        clear hky
        go_wp2_with fail
        with_reducible refine (HK.out _).mono ?_
        rintro e v1 ⟨rfl, hb⟩
        have HT1 := keepd (SR.call HT.out hb (SR.lt HT.out))
        have HB1 := keepd (bCall HB.out hb)
        clear hb r1 k1 HT HB HK
        obtain ⟨c0, c1⟩ := TB.at HT1.out k hlt
        rw [e2] at c0
        go_wp2
        go_roundw
        case rel => exact ⟨m, k + 1, by omega, by omega, by omega, rfl, by go_num, HC2, HT1, HB1⟩
        case measure => simp [intOf]; omega
    · obtain rfl : k = 31 := by omega
      have hm25 : m ≤ 25 := by
        have := cnt_le HRd.out 31 (Nat.le_refl _)
        rw [cnt_std, HC.out] at this
        exact this
      have HM0 : Hid (n = 0 → m = 25) := fun e => by
        rw [← HC.out, HZ.out e, cnt_std]
      have g25 : decide ((m : Int) ≤ 25) = true := decide_eq_true (by omega)
      clear HC HRd HZ
      obtain ⟨f, hf⟩ : ∃ f, meanF T a = f := ⟨_, rfl⟩
      obtain ⟨g, hg⟩ : ∃ g, meanF T b = g := ⟨_, rfl⟩
      have MA := keepd (meaning_any T a f hf)
      have MB := keepd (meaning_any T b g hg)
      have HF := keepd hf
      have HG := keepd hg
      clear hf hg
      go_upto_region 20 with fail
      refine wp_region_held_drew (S := (fun V => rowOf V bT = (cs T).toArray ∧ isRow V 25 bT 62 = true ∧ Below wr.heap.size wr V)) (by kernel_rfl) (tB HT.out (Below.drew (Below.refl _ _))) (fun hHeld => ?_)
      refine wpAnyH_take (i := 0) (oi := { dst := some 77, op := Op.load 25 (Operand.tmp 7), type := 25, pos := "law.go:122", after := #[], guard := none }) (v := tv T) rfl (by kernel_rfl) (by kernel_rfl) (by kernel_rfl) (fun _ _ _ h => h) (Or.inl ⟨by rfl, fun W hW => ?_⟩) hHeld ?_
      · obtain ⟨q1, q2, q3⟩ := hW
        go_simp
      simp only [Act.put, List.setIfInBounds_toArray, List.set_cons_zero, List.set_cons_succ]
      refine wpAnyH_take (i := 1) (oi := { dst := some 78, op := Op.move (Operand.tmp 1), type := 5, pos := "law.go:122", after := #[], guard := none }) (v := .int .u8 a) rfl (by kernel_rfl) (by kernel_rfl) (by kernel_rfl) (fun _ _ _ h => h) (Or.inl ⟨by rfl, fun W hW => ?_⟩) hHeld ?_
      · obtain ⟨q1, q2, q3⟩ := hW
        go_simp
      simp only [Act.put, List.setIfInBounds_toArray, List.set_cons_zero, List.set_cons_succ]
      refine wpAnyH_take (i := 3) (oi := { dst := some 80, op := Op.load 25 (Operand.tmp 7), type := 25, pos := "law.go:122", after := #[], guard := none }) (v := tv T) rfl (by kernel_rfl) (by kernel_rfl) (by kernel_rfl) (fun _ _ _ h => h) (Or.inl ⟨by rfl, fun W hW => ?_⟩) hHeld ?_
      · obtain ⟨q1, q2, q3⟩ := hW
        go_simp
      simp only [Act.put, List.setIfInBounds_toArray, List.set_cons_zero, List.set_cons_succ]
      refine wpAnyH_take (i := 4) (oi := { dst := some 81, op := Op.move (Operand.tmp 2), type := 5, pos := "law.go:122", after := #[], guard := none }) (v := .int .u8 b) rfl (by kernel_rfl) (by kernel_rfl) (by kernel_rfl) (fun _ _ _ h => h) (Or.inl ⟨by rfl, fun W hW => ?_⟩) hHeld ?_
      · obtain ⟨q1, q2, q3⟩ := hW
        go_simp
      simp only [Act.put, List.setIfInBounds_toArray, List.set_cons_zero, List.set_cons_succ]
      refine wpAnyH_ready (rs := [2]) (by kernel_rfl) (by simp) ?_
      refine AllReadyH.cons (o := { dst := some 79, op := Op.call { callee := Callee.value (Operand.func 13), args := #[Operand.tmp 77, Operand.tmp 78], argTypes := #[25, 5] }, type := 3, pos := "law.go:122", after := #[{ on := 0, ground := Ground.data }, { on := 1, ground := Ground.data }], guard := none }) rfl (fun K hK => ?_) AllReadyH.nil
      go_simp
      with_reducible refine (MA.out _).mono ?_
      rintro e w5 ⟨rfl, hb5⟩
      have hbb : Below wr.heap.size wr w5 := bCall hHeld.2.2 hb5
      go_wp2_with fail
      refine hK.out _ _ (tB HT.out hbb) (fun hHeld2 => ?_)
      clear hK K hHeld
      have hHeld := hHeld2
      clear hHeld2
      try simp only [Act.put, List.setIfInBounds_toArray, List.set_cons_zero, List.set_cons_succ]
      refine wpAnyH_ready (rs := [5]) (by kernel_rfl) (by simp) ?_
      refine AllReadyH.cons (o := { dst := some 82, op := Op.call { callee := Callee.value (Operand.func 13), args := #[Operand.tmp 80, Operand.tmp 81], argTypes := #[25, 5] }, type := 3, pos := "law.go:122", after := #[{ on := 3, ground := Ground.data }, { on := 4, ground := Ground.data }, { on := 2, ground := Ground.chain }], guard := none }) rfl (fun K hK => ?_) AllReadyH.nil
      go_simp
      with_reducible refine (MB.out _).mono ?_
      rintro e w6 ⟨rfl, hb6⟩
      have hbc : Below wr.heap.size wr w6 := bCall hHeld.2.2 hb6
      go_wp2_with fail
      refine hK.out _ _ (tB HT.out hbc) (fun hHeld2 => ?_)
      clear hK K hHeld
      have hHeld := hHeld2
      clear hHeld2
      try simp only [Act.put, List.setIfInBounds_toArray, List.set_cons_zero, List.set_cons_succ]
      refine wpAnyH_take (i := 6) (oi := { dst := some 15, op := Op.assign (Operand.tmp 79), type := 3, pos := "law.go:122", after := #[{ on := 2, ground := Ground.data }, { on := 5, ground := Ground.chain }, { on := 0, ground := Ground.phase }, { on := 1, ground := Ground.phase }, { on := 2, ground := Ground.phase }, { on := 3, ground := Ground.textOnly Departure.lateStores }, { on := 4, ground := Ground.textOnly Departure.lateStores }, { on := 5, ground := Ground.textOnly Departure.lateStoresUnsure }], guard := none }) (v := .int .i64 (f : Int)) rfl (by kernel_rfl) (by kernel_rfl) (by kernel_rfl) (fun _ _ _ h => h) (Or.inl ⟨by rfl, fun W hW => ?_⟩) hHeld ?_
      · obtain ⟨q1, q2, q3⟩ := hW
        go_simp
      simp only [Act.put, List.setIfInBounds_toArray, List.set_cons_zero, List.set_cons_succ]
      refine wpAnyH_take (i := 7) (oi := { dst := some 16, op := Op.assign (Operand.tmp 82), type := 3, pos := "law.go:122", after := #[{ on := 5, ground := Ground.data }, { on := 6, ground := Ground.chain }, { on := 0, ground := Ground.phase }, { on := 1, ground := Ground.phase }, { on := 2, ground := Ground.phase }, { on := 3, ground := Ground.phase }, { on := 4, ground := Ground.phase }, { on := 5, ground := Ground.phase }, { on := 6, ground := Ground.phase }], guard := none }) (v := .int .i64 (g : Int)) rfl (by kernel_rfl) (by kernel_rfl) (by kernel_rfl) (fun _ _ _ h => h) (Or.inl ⟨by rfl, fun W hW => ?_⟩) hHeld ?_
      · obtain ⟨q1, q2, q3⟩ := hW
        go_simp
      simp only [Act.put, List.setIfInBounds_toArray, List.set_cons_zero, List.set_cons_succ]
      refine wpAnyH_done (by kernel_rfl) ?_ _
      have HB6 := keepd (bCall HB.out hbc)
      clear hbb hbc hb5 hb6 hHeld HT HB MA MB
      by_cases hn0 : n = 0
      · have hm := HM0.out hn0
        subst hm
        subst hn0
        clear HM0
        by_cases hab : a = b
        · subst hab
          go_wp2_with fail
          with_reducible refine (HA.out _ (HL.out.below HB6.out)).mono ?_
          rintro e w9 ⟨rfl, hb9⟩
          have HB9 := keepd (bCall HB6.out hb9)
          clear hb9
          go_wp2
          go_returns
          exact ⟨rfl, HB9.out⟩
        have gab : (a == b) = false := by simpa using hab
        by_cases hf0 : f = 0
        · subst hf0
          go_wp2_with fail
          with_reducible refine (HA.out _ (HL.out.below HB6.out)).mono ?_
          rintro e w9 ⟨rfl, hb9⟩
          have HB9 := keepd (bCall HB6.out hb9)
          clear hb9
          go_wp2
          go_returns
          exact ⟨rfl, HB9.out⟩
        have gf0 : ((f : Int) == 0) = false := by simp; omega
        have pf0 : ¬ (f : Int) = 0 := by omega
        have hfg : ¬ f = g := fun e => by
          subst e
          rcases mean_ways HF.out with ⟨h, _⟩ | ⟨_, h⟩ | ⟨h1, h2, _, _, h⟩
          · exact hf0 h
          · rcases mean_ways HG.out with ⟨h', _⟩ | ⟨_, h'⟩ | ⟨h1', h2', h3', _, h'⟩
            · exact hf0 h'
            · exact hab (h.trans h'.symm)
            · have := mean_31 HF.out h
              omega
          · rcases mean_ways HG.out with ⟨h', _⟩ | ⟨h', _⟩ | ⟨_, _, _, _, h'⟩
            · exact hf0 h'
            · omega
            · exact hab (h.symm.trans h')
        have gfg : ((f : Int) == (g : Int)) = false := by simp; omega
        have pfg : ¬ (f : Int) = (g : Int) := by omega
        have nfg : ((f : Int) != (g : Int)) = true := by rw [bne, gfg]; rfl
        go_wp2_with fail
        with_reducible refine (HA.out _ (HL.out.below HB6.out)).mono ?_
        rintro e w9 ⟨rfl, hb9⟩
        have HB9 := keepd (bCall HB6.out hb9)
        clear hb9
        go_wp2
        go_returns
        exact ⟨rfl, HB9.out⟩
      · have gn0 : decide ((n : Int) > 0) = true := decide_eq_true (by omega)
        have gn1 : decide (0 < (n : Int)) = true := decide_eq_true (by omega)
        clear HM0
        by_cases hab : a = b
        · subst hab
          go_wp2_with fail
          with_reducible refine (HA.out _ (HL.out.below HB6.out)).mono ?_
          rintro e w9 ⟨rfl, hb9⟩
          have HB9 := keepd (bCall HB6.out hb9)
          clear hb9
          go_wp2
          go_returns
          exact ⟨rfl, HB9.out⟩
        have gab : (a == b) = false := by simpa using hab
        by_cases hf0 : f = 0
        · subst hf0
          go_wp2_with fail
          with_reducible refine (HA.out _ (HL.out.below HB6.out)).mono ?_
          rintro e w9 ⟨rfl, hb9⟩
          have HB9 := keepd (bCall HB6.out hb9)
          clear hb9
          go_wp2
          go_returns
          exact ⟨rfl, HB9.out⟩
        have gf0 : ((f : Int) == 0) = false := by simp; omega
        have pf0 : ¬ (f : Int) = 0 := by omega
        have hfg : ¬ f = g := fun e => by
          subst e
          rcases mean_ways HF.out with ⟨h, _⟩ | ⟨_, h⟩ | ⟨h1, h2, _, _, h⟩
          · exact hf0 h
          · rcases mean_ways HG.out with ⟨h', _⟩ | ⟨_, h'⟩ | ⟨h1', h2', h3', _, h'⟩
            · exact hf0 h'
            · exact hab (h.trans h'.symm)
            · have := mean_31 HF.out h
              omega
          · rcases mean_ways HG.out with ⟨h', _⟩ | ⟨h', _⟩ | ⟨_, _, _, _, h'⟩
            · exact hf0 h'
            · omega
            · exact hab (h.symm.trans h')
        have gfg : ((f : Int) == (g : Int)) = false := by simp; omega
        have pfg : ¬ (f : Int) = (g : Int) := by omega
        have nfg : ((f : Int) != (g : Int)) = true := by rw [bne, gfg]; rfl
        go_wp2_with fail
        with_reducible refine (HA.out _ (HL.out.below HB6.out)).mono ?_
        rintro e w9 ⟨rfl, hb9⟩
        have HB9 := keepd (bCall HB6.out hb9)
        clear hb9
        go_wp2
        go_returns
        exact ⟨rfl, HB9.out⟩

end Go.Proofs.YtmjhagmniipcaaaDoor
