/-
  The walk of SuboptTells. No conditions beyond those each theorem states.
-/
import Derived.Test.YtflmplnampgflaaP3
import Derived.Test.YtflmplnampgflaaO16
import Derived.Test.YtflmplnampgflaaR1
import Derived.Test.YtflmplnampgflaaR2
import Derived.Test.YtflmplnampgflaaR3
import Derived.Test.YtflmplnampgflaaR5
namespace Go.Proofs.Ytflmplnampgflaa
open Go.RowKit
set_option maxRecDepth 100000

attribute [local go_sem ↓] ex_ld23 ex_st23 ex_al23 ex_bu23 ex_eq23 ex_ne23 ex_ld26 ex_st26 ex_al26 ex_ld23o ex_st23o ex_bu26 ex_bu26k ex_bu26m ex_bu26l ex_bu26v ex_bu26w ex_eq29 ex_ne29
attribute [local go_sem] ptrB_at okPtr_at aggC_at agg32 agg36 isM_at eqV_m isRow_new isRow_new26 World.setRow_alloc_new ptr3_at okPtr3_at cutM_at putM_at isI_at isL_at bK_at bKM_at bKL_at bKVM_at bKV_at isV_at toV_at

set_option maxHeartbeats 8000000 in
theorem tells_law (k m v : Int) (M : Mk) (L : List Tr) (A : Option Addr) (c : Nat) (k' m' v' : Int) (M' : Mk) (L' : List Tr) (A' : Option Addr) (c' : Nat) (A2 : Option Addr) (b : List UInt8) (c2 : Nat) (W : World) (hr : RdT W A L c) (hr' : RdT W A' L' c') (hb : Rd W W.heap.size A2 b c2) :
    Calls Try.prog 3 #[sv k m v M (.slice A L.length c), sv k' m' v' M' (.slice A' L'.length c'), .slice A2 b.length c2] W fun e w' => e = .returned (.bool true) ∧ Below W.heap.size W w' := by
  obtain ⟨n, hn⟩ : ∃ n, n = L.length := ⟨_, rfl⟩
  obtain ⟨n', hn'⟩ : ∃ n, n = L'.length := ⟨_, rfl⟩
  obtain ⟨n2, hn2⟩ : ∃ n, n = b.length := ⟨_, rfl⟩
  obtain ⟨N, hN⟩ : ∃ N, min n 180 = N := ⟨_, rfl⟩
  obtain ⟨N', hN'⟩ : ∃ N', min n' 180 = N' := ⟨_, rfl⟩
  obtain ⟨N2, hN2⟩ : ∃ N', min n2 600 = N' := ⟨_, rfl⟩
  obtain ⟨L1, hL1⟩ : ∃ l, L.take 180 = l := ⟨_, rfl⟩
  obtain ⟨L2, hL2⟩ : ∃ l, L'.take 180 = l := ⟨_, rfl⟩
  obtain ⟨B, hB⟩ : ∃ l, b.take 600 = l := ⟨_, rfl⟩
  have C1 := keepd fun w : World => one_any k m v M A n c N w (by have := hr.1; rw [← hn] at this; exact this) hr.2.1 hN
  have C2 := keepd fun w : World => one_any k' m' v' M' A' n' c' N' w (by have := hr'.1; rw [← hn'] at this; exact this) hr'.2.1 hN'
  have C3 := keepd fun w : World => few_any A2 n2 c2 w (by have := hb.1; rw [← hn2] at this; exact this) hb.2.1
  have HMM := keepd hN2
  have HLen : Hid (N = L1.length ∧ N ≤ 180) := ⟨by rw [← hL1, List.length_take, ← hN, hn]; omega, by omega⟩
  have HLen' : Hid (N' = L2.length ∧ N' ≤ 180) := ⟨by rw [← hL2, List.length_take, ← hN', hn']; omega, by omega⟩
  have HBen : Hid (N2 = B.length ∧ N2 ≤ 600) := ⟨by rw [← hB, List.length_take, ← hN2, hn2]; omega, by omega⟩
  have HR1 := keepd (hr.take 180)
  have HR2 := keepd (hr'.take 180)
  have HRB := keepd (hb.take 600)
  rw [hL1] at HR1
  rw [hL2] at HR2
  rw [hB] at HRB
  rw [← hn, ← hn', ← hn2]
  clear hr hr' hb hn hn' hn2 hN hN' hN2 hL1 hL2 hB
  go_enter Try.func3, Try.ntmps3
  go_upto_region 1 with fail
  generalize hV : (W.alloc (.cells (sc k m v M (.slice A n c)).toArray 26)).alloc (.cells (sc k' m' v' M' (.slice A' n' c')).toArray 26) = V
  obtain ⟨h1, h2, h3, h4⟩ := two_new _ _ _ _ _ _ hV
  obtain ⟨g', hg'⟩ : ∃ g', W.heap.size + 1 = g' := ⟨_, rfl⟩
  obtain ⟨g, hg⟩ : ∃ g, W.heap.size = g := ⟨_, rfl⟩
  have HGs : Hid (W.heap.size ≤ g ∧ W.heap.size ≤ g') := by constructor <;> omega
  have HNE : Hid (g ≠ g') := by show g ≠ g'; omega
  rw [hg'] at h2
  rw [hg] at h1
  rw [hg', hg]
  have S1 := keepd h1
  have S2 := keepd h2
  have HB := keepd h3
  clear hV h1 h2 h3 h4 hg hg'
  go_cut [2] (fun s2 wx => s2 = .slice A2 N2 c2 ∧ Hid (SB wx g k m v M (.slice A N c)) ∧ Hid (SB wx g' k' m' v' M' (.slice A' N' c')) ∧ Hid (Below W.heap.size W wx))
  case first =>
    refine wp_region_held_drew (S := fun _ => True) (by kernel_rfl) trivial (fun hHeld => ?_)
    refine wpAnyH_take (i := 4) (oi := { dst := some 17, op := Op.move (Operand.tmp 2), type := 27, pos := "law.go:41", after := #[], guard := none }) (v := .slice A2 n2 c2) rfl (by kernel_rfl) (by kernel_rfl) (by kernel_rfl) (fun _ _ _ h => h) (Or.inl ⟨by rfl, fun W hW => ?_⟩) hHeld ?_
    · go_simp
    simp only [Act.put, List.setIfInBounds_toArray, List.set_cons_zero, List.set_cons_succ]
    refine wpAnyH_ready (rs := [0, 2]) (by kernel_rfl) (by simp) ?_
    refine AllReadyH.cons (o := { dst := some 13, op := Op.load 26 (Operand.tmp 3), type := 26, pos := "law.go:41", after := #[], guard := none }) rfl (fun K hK => ?_) (AllReadyH.cons (o := { dst := some 15, op := Op.load 26 (Operand.tmp 4), type := 26, pos := "law.go:41", after := #[], guard := none }) rfl (fun K hK => ?_) AllReadyH.nil)
    · have f4 : rowOf V g = _ := (SB.facts S1.out).1
      have f5 : isRow V 26 g 36 = true := (SB.facts S1.out).2
      have f6 : rowOf V.drew g = _ := f4
      have f7 : isRow V.drew 26 g 36 = true := f5
      go_simp
      refine hK.out _ _ trivial (fun hHeld2 => ?_)
      clear hK K hHeld
      have hHeld := hHeld2
      clear hHeld2
      try simp only [Act.put, List.setIfInBounds_toArray, List.set_cons_zero, List.set_cons_succ]
      clear f4 f5 f6 f7
      refine wpAnyH_ready (rs := [1, 2]) (by kernel_rfl) (by simp) ?_
      refine AllReadyH.cons (o := { dst := some 14, op := Op.call { callee := Callee.value (Operand.func 9), args := #[Operand.tmp 13], argTypes := #[26] }, type := 26, pos := "law.go:41", after := #[{ on := 0, ground := Ground.data }], guard := none }) rfl (fun K hK => ?_) (AllReadyH.cons (o := { dst := some 15, op := Op.load 26 (Operand.tmp 4), type := 26, pos := "law.go:41", after := #[], guard := none }) rfl (fun K hK => ?_) AllReadyH.nil)
      · go_simp
        with_reducible refine (C1.out _).mono ?_
        rintro e Vx ⟨rfl, hb⟩
        have hb' := noDrew hb
        have HBn := keepd (bCall HB.out hb')
        have S1n := keepd (SR.call S1.out hb' S1.out.lt)
        have S2n := keepd (SR.call S2.out hb' S2.out.lt)
        clear hb hb' HB S1 S2
        have HB := HBn
        have S1 := S1n
        have S2 := S2n
        clear HBn S1n S2n
        go_wp2_with fail
        refine hK.out _ _ trivial (fun hHeld2 => ?_)
        clear hK K hHeld
        have hHeld := hHeld2
        clear hHeld2
        try simp only [Act.put, List.setIfInBounds_toArray, List.set_cons_zero, List.set_cons_succ]
        refine wpAnyH_ready (rs := [2]) (by kernel_rfl) (by simp) ?_
        refine AllReadyH.cons (o := { dst := some 15, op := Op.load 26 (Operand.tmp 4), type := 26, pos := "law.go:41", after := #[], guard := none }) rfl (fun K hK => ?_) AllReadyH.nil
        have f4 : rowOf Vx g' = _ := (SB.facts S2.out).1
        have f5 : isRow Vx 26 g' 36 = true := (SB.facts S2.out).2
        go_simp
        refine hK.out _ _ trivial (fun hHeld2 => ?_)
        clear hK K hHeld
        have hHeld := hHeld2
        clear hHeld2
        try simp only [Act.put, List.setIfInBounds_toArray, List.set_cons_zero, List.set_cons_succ]
        clear f4 f5
        refine wpAnyH_ready (rs := [3]) (by kernel_rfl) (by simp) ?_
        refine AllReadyH.cons (o := { dst := some 16, op := Op.call { callee := Callee.value (Operand.func 9), args := #[Operand.tmp 15], argTypes := #[26] }, type := 26, pos := "law.go:41", after := #[{ on := 2, ground := Ground.data }, { on := 1, ground := Ground.chain }], guard := none }) rfl (fun K hK => ?_) AllReadyH.nil
        go_simp
        with_reducible refine (C2.out _).mono ?_
        rintro e Vxx ⟨rfl, hb⟩
        have hb' := hb
        have HBn := keepd (bCall HB.out hb')
        have S1n := keepd (SR.call S1.out hb' S1.out.lt)
        have S2n := keepd (SR.call S2.out hb' S2.out.lt)
        clear hb hb' HB S1 S2
        have HB := HBn
        have S1 := S1n
        have S2 := S2n
        clear HBn S1n S2n
        go_wp2_with fail
        refine hK.out _ _ trivial (fun hHeld2 => ?_)
        clear hK K hHeld
        have hHeld := hHeld2
        clear hHeld2
        try simp only [Act.put, List.setIfInBounds_toArray, List.set_cons_zero, List.set_cons_succ]
        refine wpAnyH_ready (rs := [5]) (by kernel_rfl) (by simp) ?_
        refine AllReadyH.cons (o := { dst := some 18, op := Op.call { callee := Callee.value (Operand.func 10), args := #[Operand.tmp 17], argTypes := #[27] }, type := 27, pos := "law.go:41", after := #[{ on := 4, ground := Ground.data }, { on := 3, ground := Ground.chain }], guard := none }) rfl (fun K hK => ?_) AllReadyH.nil
        go_simp
        with_reducible refine (C3.out _).mono ?_
        rintro e Vxx ⟨rfl, rfl⟩
        rw [HMM.out]
        go_wp2_with fail
        refine hK.out _ _ trivial (fun hHeld2 => ?_)
        clear hK K hHeld
        have hHeld := hHeld2
        clear hHeld2
        try simp only [Act.put, List.setIfInBounds_toArray, List.set_cons_zero, List.set_cons_succ]
        refine wpAnyH_ready (rs := [6]) (by kernel_rfl) (by simp) ?_
        refine AllReadyH.cons (o := { dst := none, op := Op.store 26 (Operand.tmp 3) (Operand.tmp 14), type := 0, pos := "law.go:41", after := #[{ on := 1, ground := Ground.data }, { on := 5, ground := Ground.chain }, { on := 0, ground := Ground.phase }, { on := 1, ground := Ground.phase }, { on := 2, ground := Ground.textOnly Departure.lateStores }, { on := 3, ground := Ground.textOnly Departure.lateStoresUnsure }, { on := 4, ground := Ground.textOnly Departure.lateStores }, { on := 5, ground := Ground.textOnly Departure.lateStoresUnsure }], guard := none }) rfl (fun K hK => ?_) AllReadyH.nil
        have f5 : isRow Vxx 26 g 36 = true := (SB.facts S1.out).2
        go_simp
        refine hK.out _ _ trivial (fun hHeld2 => ?_)
        clear hK K hHeld
        have hHeld := hHeld2
        clear hHeld2
        try simp only [Act.put, List.setIfInBounds_toArray, List.set_cons_zero, List.set_cons_succ]
        refine wpAnyH_ready (rs := [7]) (by kernel_rfl) (by simp) ?_
        refine AllReadyH.cons (o := { dst := none, op := Op.store 26 (Operand.tmp 4) (Operand.tmp 16), type := 0, pos := "law.go:41", after := #[{ on := 3, ground := Ground.data }, { on := 6, ground := Ground.chain }, { on := 0, ground := Ground.phase }, { on := 1, ground := Ground.phase }, { on := 2, ground := Ground.phase }, { on := 3, ground := Ground.phase }, { on := 4, ground := Ground.textOnly Departure.lateStores }, { on := 5, ground := Ground.textOnly Departure.lateStoresUnsure }, { on := 6, ground := Ground.phase }], guard := none }) rfl (fun K hK => ?_) AllReadyH.nil
        have f6 : isRow (Vxx.setRow g (sc k m v M (.slice A N c)).toArray) 26 g' 36 = true := (SB.facts (SR.rowFar S2.out HNE.out.symm (sc k m v M (.slice A N c)).toArray)).2
        go_simp
        refine hK.out _ _ trivial (fun hHeld2 => ?_)
        clear hK K hHeld
        have hHeld := hHeld2
        clear hHeld2
        try simp only [Act.put, List.setIfInBounds_toArray, List.set_cons_zero, List.set_cons_succ]
        refine wpAnyH_take (i := 8) (oi := { dst := some 2, op := Op.assign (Operand.tmp 18), type := 27, pos := "law.go:41", after := #[{ on := 5, ground := Ground.data }, { on := 7, ground := Ground.chain }, { on := 0, ground := Ground.phase }, { on := 1, ground := Ground.phase }, { on := 2, ground := Ground.phase }, { on := 3, ground := Ground.phase }, { on := 4, ground := Ground.phase }, { on := 5, ground := Ground.phase }, { on := 6, ground := Ground.phase }, { on := 7, ground := Ground.phase }], guard := none }) (v := .slice A2 N2 c2) rfl (by kernel_rfl) (by kernel_rfl) (by kernel_rfl) (fun _ _ _ h => h) (Or.inl ⟨by rfl, fun W hW => ?_⟩) hHeld ?_
        · go_simp
        simp only [Act.put, List.setIfInBounds_toArray, List.set_cons_zero, List.set_cons_succ]
        refine wpAnyH_done (by kernel_rfl) ?_ _
        go_wp2_with fail
        go_meet
        exact ⟨rfl, SR.rowFar (SR.row S1.out _) HNE.out _, SR.row (SR.rowFar S2.out HNE.out.symm (sc k m v M (.slice A N c)).toArray) _, bRow (bRow HB.out (b := g) HGs.out.1 (sc k m v M (.slice A N c)).toArray) (b := g') HGs.out.2 (sc k' m' v' M' (.slice A' N' c')).toArray⟩
      · have f4 : rowOf V g' = _ := (SB.facts S2.out).1
        have f5 : isRow V 26 g' 36 = true := (SB.facts S2.out).2
        have f6 : rowOf V.drew g' = _ := f4
        have f7 : isRow V.drew 26 g' 36 = true := f5
        go_simp
        refine hK.out _ _ trivial (fun hHeld2 => ?_)
        clear hK K hHeld
        have hHeld := hHeld2
        clear hHeld2
        try simp only [Act.put, List.setIfInBounds_toArray, List.set_cons_zero, List.set_cons_succ]
        clear f4 f5 f6 f7
        refine wpAnyH_ready (rs := [1]) (by kernel_rfl) (by simp) ?_
        refine AllReadyH.cons (o := { dst := some 14, op := Op.call { callee := Callee.value (Operand.func 9), args := #[Operand.tmp 13], argTypes := #[26] }, type := 26, pos := "law.go:41", after := #[{ on := 0, ground := Ground.data }], guard := none }) rfl (fun K hK => ?_) AllReadyH.nil
        go_simp
        with_reducible refine (C1.out _).mono ?_
        rintro e Vx ⟨rfl, hb⟩
        have hb' := noDrew hb
        have HBn := keepd (bCall HB.out hb')
        have S1n := keepd (SR.call S1.out hb' S1.out.lt)
        have S2n := keepd (SR.call S2.out hb' S2.out.lt)
        clear hb hb' HB S1 S2
        have HB := HBn
        have S1 := S1n
        have S2 := S2n
        clear HBn S1n S2n
        go_wp2_with fail
        refine hK.out _ _ trivial (fun hHeld2 => ?_)
        clear hK K hHeld
        have hHeld := hHeld2
        clear hHeld2
        try simp only [Act.put, List.setIfInBounds_toArray, List.set_cons_zero, List.set_cons_succ]
        refine wpAnyH_ready (rs := [3]) (by kernel_rfl) (by simp) ?_
        refine AllReadyH.cons (o := { dst := some 16, op := Op.call { callee := Callee.value (Operand.func 9), args := #[Operand.tmp 15], argTypes := #[26] }, type := 26, pos := "law.go:41", after := #[{ on := 2, ground := Ground.data }, { on := 1, ground := Ground.chain }], guard := none }) rfl (fun K hK => ?_) AllReadyH.nil
        go_simp
        with_reducible refine (C2.out _).mono ?_
        rintro e Vxx ⟨rfl, hb⟩
        have hb' := hb
        have HBn := keepd (bCall HB.out hb')
        have S1n := keepd (SR.call S1.out hb' S1.out.lt)
        have S2n := keepd (SR.call S2.out hb' S2.out.lt)
        clear hb hb' HB S1 S2
        have HB := HBn
        have S1 := S1n
        have S2 := S2n
        clear HBn S1n S2n
        go_wp2_with fail
        refine hK.out _ _ trivial (fun hHeld2 => ?_)
        clear hK K hHeld
        have hHeld := hHeld2
        clear hHeld2
        try simp only [Act.put, List.setIfInBounds_toArray, List.set_cons_zero, List.set_cons_succ]
        refine wpAnyH_ready (rs := [5]) (by kernel_rfl) (by simp) ?_
        refine AllReadyH.cons (o := { dst := some 18, op := Op.call { callee := Callee.value (Operand.func 10), args := #[Operand.tmp 17], argTypes := #[27] }, type := 27, pos := "law.go:41", after := #[{ on := 4, ground := Ground.data }, { on := 3, ground := Ground.chain }], guard := none }) rfl (fun K hK => ?_) AllReadyH.nil
        go_simp
        with_reducible refine (C3.out _).mono ?_
        rintro e Vxx ⟨rfl, rfl⟩
        rw [HMM.out]
        go_wp2_with fail
        refine hK.out _ _ trivial (fun hHeld2 => ?_)
        clear hK K hHeld
        have hHeld := hHeld2
        clear hHeld2
        try simp only [Act.put, List.setIfInBounds_toArray, List.set_cons_zero, List.set_cons_succ]
        refine wpAnyH_ready (rs := [6]) (by kernel_rfl) (by simp) ?_
        refine AllReadyH.cons (o := { dst := none, op := Op.store 26 (Operand.tmp 3) (Operand.tmp 14), type := 0, pos := "law.go:41", after := #[{ on := 1, ground := Ground.data }, { on := 5, ground := Ground.chain }, { on := 0, ground := Ground.phase }, { on := 1, ground := Ground.phase }, { on := 2, ground := Ground.textOnly Departure.lateStores }, { on := 3, ground := Ground.textOnly Departure.lateStoresUnsure }, { on := 4, ground := Ground.textOnly Departure.lateStores }, { on := 5, ground := Ground.textOnly Departure.lateStoresUnsure }], guard := none }) rfl (fun K hK => ?_) AllReadyH.nil
        have f5 : isRow Vxx 26 g 36 = true := (SB.facts S1.out).2
        go_simp
        refine hK.out _ _ trivial (fun hHeld2 => ?_)
        clear hK K hHeld
        have hHeld := hHeld2
        clear hHeld2
        try simp only [Act.put, List.setIfInBounds_toArray, List.set_cons_zero, List.set_cons_succ]
        refine wpAnyH_ready (rs := [7]) (by kernel_rfl) (by simp) ?_
        refine AllReadyH.cons (o := { dst := none, op := Op.store 26 (Operand.tmp 4) (Operand.tmp 16), type := 0, pos := "law.go:41", after := #[{ on := 3, ground := Ground.data }, { on := 6, ground := Ground.chain }, { on := 0, ground := Ground.phase }, { on := 1, ground := Ground.phase }, { on := 2, ground := Ground.phase }, { on := 3, ground := Ground.phase }, { on := 4, ground := Ground.textOnly Departure.lateStores }, { on := 5, ground := Ground.textOnly Departure.lateStoresUnsure }, { on := 6, ground := Ground.phase }], guard := none }) rfl (fun K hK => ?_) AllReadyH.nil
        have f6 : isRow (Vxx.setRow g (sc k m v M (.slice A N c)).toArray) 26 g' 36 = true := (SB.facts (SR.rowFar S2.out HNE.out.symm (sc k m v M (.slice A N c)).toArray)).2
        go_simp
        refine hK.out _ _ trivial (fun hHeld2 => ?_)
        clear hK K hHeld
        have hHeld := hHeld2
        clear hHeld2
        try simp only [Act.put, List.setIfInBounds_toArray, List.set_cons_zero, List.set_cons_succ]
        refine wpAnyH_take (i := 8) (oi := { dst := some 2, op := Op.assign (Operand.tmp 18), type := 27, pos := "law.go:41", after := #[{ on := 5, ground := Ground.data }, { on := 7, ground := Ground.chain }, { on := 0, ground := Ground.phase }, { on := 1, ground := Ground.phase }, { on := 2, ground := Ground.phase }, { on := 3, ground := Ground.phase }, { on := 4, ground := Ground.phase }, { on := 5, ground := Ground.phase }, { on := 6, ground := Ground.phase }, { on := 7, ground := Ground.phase }], guard := none }) (v := .slice A2 N2 c2) rfl (by kernel_rfl) (by kernel_rfl) (by kernel_rfl) (fun _ _ _ h => h) (Or.inl ⟨by rfl, fun W hW => ?_⟩) hHeld ?_
        · go_simp
        simp only [Act.put, List.setIfInBounds_toArray, List.set_cons_zero, List.set_cons_succ]
        refine wpAnyH_done (by kernel_rfl) ?_ _
        go_wp2_with fail
        go_meet
        exact ⟨rfl, SR.rowFar (SR.row S1.out _) HNE.out _, SR.row (SR.rowFar S2.out HNE.out.symm (sc k m v M (.slice A N c)).toArray) _, bRow (bRow HB.out (b := g) HGs.out.1 (sc k m v M (.slice A N c)).toArray) (b := g') HGs.out.2 (sc k' m' v' M' (.slice A' N' c')).toArray⟩
    · have f4 : rowOf V g' = _ := (SB.facts S2.out).1
      have f5 : isRow V 26 g' 36 = true := (SB.facts S2.out).2
      have f6 : rowOf V.drew g' = _ := f4
      have f7 : isRow V.drew 26 g' 36 = true := f5
      go_simp
      refine hK.out _ _ trivial (fun hHeld2 => ?_)
      clear hK K hHeld
      have hHeld := hHeld2
      clear hHeld2
      try simp only [Act.put, List.setIfInBounds_toArray, List.set_cons_zero, List.set_cons_succ]
      clear f4 f5 f6 f7
      refine wpAnyH_ready (rs := [0]) (by kernel_rfl) (by simp) ?_
      refine AllReadyH.cons (o := { dst := some 13, op := Op.load 26 (Operand.tmp 3), type := 26, pos := "law.go:41", after := #[], guard := none }) rfl (fun K hK => ?_) AllReadyH.nil
      have f4 : rowOf V g = _ := (SB.facts S1.out).1
      have f5 : isRow V 26 g 36 = true := (SB.facts S1.out).2
      have f6 : rowOf V.drew g = _ := f4
      have f7 : isRow V.drew 26 g 36 = true := f5
      go_simp
      refine hK.out _ _ trivial (fun hHeld2 => ?_)
      clear hK K hHeld
      have hHeld := hHeld2
      clear hHeld2
      try simp only [Act.put, List.setIfInBounds_toArray, List.set_cons_zero, List.set_cons_succ]
      clear f4 f5 f6 f7
      refine wpAnyH_ready (rs := [1]) (by kernel_rfl) (by simp) ?_
      refine AllReadyH.cons (o := { dst := some 14, op := Op.call { callee := Callee.value (Operand.func 9), args := #[Operand.tmp 13], argTypes := #[26] }, type := 26, pos := "law.go:41", after := #[{ on := 0, ground := Ground.data }], guard := none }) rfl (fun K hK => ?_) AllReadyH.nil
      go_simp
      with_reducible refine (C1.out _).mono ?_
      rintro e Vx ⟨rfl, hb⟩
      have hb' := noDrew hb
      have HBn := keepd (bCall HB.out hb')
      have S1n := keepd (SR.call S1.out hb' S1.out.lt)
      have S2n := keepd (SR.call S2.out hb' S2.out.lt)
      clear hb hb' HB S1 S2
      have HB := HBn
      have S1 := S1n
      have S2 := S2n
      clear HBn S1n S2n
      go_wp2_with fail
      refine hK.out _ _ trivial (fun hHeld2 => ?_)
      clear hK K hHeld
      have hHeld := hHeld2
      clear hHeld2
      try simp only [Act.put, List.setIfInBounds_toArray, List.set_cons_zero, List.set_cons_succ]
      refine wpAnyH_ready (rs := [3]) (by kernel_rfl) (by simp) ?_
      refine AllReadyH.cons (o := { dst := some 16, op := Op.call { callee := Callee.value (Operand.func 9), args := #[Operand.tmp 15], argTypes := #[26] }, type := 26, pos := "law.go:41", after := #[{ on := 2, ground := Ground.data }, { on := 1, ground := Ground.chain }], guard := none }) rfl (fun K hK => ?_) AllReadyH.nil
      go_simp
      with_reducible refine (C2.out _).mono ?_
      rintro e Vxx ⟨rfl, hb⟩
      have hb' := hb
      have HBn := keepd (bCall HB.out hb')
      have S1n := keepd (SR.call S1.out hb' S1.out.lt)
      have S2n := keepd (SR.call S2.out hb' S2.out.lt)
      clear hb hb' HB S1 S2
      have HB := HBn
      have S1 := S1n
      have S2 := S2n
      clear HBn S1n S2n
      go_wp2_with fail
      refine hK.out _ _ trivial (fun hHeld2 => ?_)
      clear hK K hHeld
      have hHeld := hHeld2
      clear hHeld2
      try simp only [Act.put, List.setIfInBounds_toArray, List.set_cons_zero, List.set_cons_succ]
      refine wpAnyH_ready (rs := [5]) (by kernel_rfl) (by simp) ?_
      refine AllReadyH.cons (o := { dst := some 18, op := Op.call { callee := Callee.value (Operand.func 10), args := #[Operand.tmp 17], argTypes := #[27] }, type := 27, pos := "law.go:41", after := #[{ on := 4, ground := Ground.data }, { on := 3, ground := Ground.chain }], guard := none }) rfl (fun K hK => ?_) AllReadyH.nil
      go_simp
      with_reducible refine (C3.out _).mono ?_
      rintro e Vxx ⟨rfl, rfl⟩
      rw [HMM.out]
      go_wp2_with fail
      refine hK.out _ _ trivial (fun hHeld2 => ?_)
      clear hK K hHeld
      have hHeld := hHeld2
      clear hHeld2
      try simp only [Act.put, List.setIfInBounds_toArray, List.set_cons_zero, List.set_cons_succ]
      refine wpAnyH_ready (rs := [6]) (by kernel_rfl) (by simp) ?_
      refine AllReadyH.cons (o := { dst := none, op := Op.store 26 (Operand.tmp 3) (Operand.tmp 14), type := 0, pos := "law.go:41", after := #[{ on := 1, ground := Ground.data }, { on := 5, ground := Ground.chain }, { on := 0, ground := Ground.phase }, { on := 1, ground := Ground.phase }, { on := 2, ground := Ground.textOnly Departure.lateStores }, { on := 3, ground := Ground.textOnly Departure.lateStoresUnsure }, { on := 4, ground := Ground.textOnly Departure.lateStores }, { on := 5, ground := Ground.textOnly Departure.lateStoresUnsure }], guard := none }) rfl (fun K hK => ?_) AllReadyH.nil
      have f5 : isRow Vxx 26 g 36 = true := (SB.facts S1.out).2
      go_simp
      refine hK.out _ _ trivial (fun hHeld2 => ?_)
      clear hK K hHeld
      have hHeld := hHeld2
      clear hHeld2
      try simp only [Act.put, List.setIfInBounds_toArray, List.set_cons_zero, List.set_cons_succ]
      refine wpAnyH_ready (rs := [7]) (by kernel_rfl) (by simp) ?_
      refine AllReadyH.cons (o := { dst := none, op := Op.store 26 (Operand.tmp 4) (Operand.tmp 16), type := 0, pos := "law.go:41", after := #[{ on := 3, ground := Ground.data }, { on := 6, ground := Ground.chain }, { on := 0, ground := Ground.phase }, { on := 1, ground := Ground.phase }, { on := 2, ground := Ground.phase }, { on := 3, ground := Ground.phase }, { on := 4, ground := Ground.textOnly Departure.lateStores }, { on := 5, ground := Ground.textOnly Departure.lateStoresUnsure }, { on := 6, ground := Ground.phase }], guard := none }) rfl (fun K hK => ?_) AllReadyH.nil
      have f6 : isRow (Vxx.setRow g (sc k m v M (.slice A N c)).toArray) 26 g' 36 = true := (SB.facts (SR.rowFar S2.out HNE.out.symm (sc k m v M (.slice A N c)).toArray)).2
      go_simp
      refine hK.out _ _ trivial (fun hHeld2 => ?_)
      clear hK K hHeld
      have hHeld := hHeld2
      clear hHeld2
      try simp only [Act.put, List.setIfInBounds_toArray, List.set_cons_zero, List.set_cons_succ]
      refine wpAnyH_take (i := 8) (oi := { dst := some 2, op := Op.assign (Operand.tmp 18), type := 27, pos := "law.go:41", after := #[{ on := 5, ground := Ground.data }, { on := 7, ground := Ground.chain }, { on := 0, ground := Ground.phase }, { on := 1, ground := Ground.phase }, { on := 2, ground := Ground.phase }, { on := 3, ground := Ground.phase }, { on := 4, ground := Ground.phase }, { on := 5, ground := Ground.phase }, { on := 6, ground := Ground.phase }, { on := 7, ground := Ground.phase }], guard := none }) (v := .slice A2 N2 c2) rfl (by kernel_rfl) (by kernel_rfl) (by kernel_rfl) (fun _ _ _ h => h) (Or.inl ⟨by rfl, fun W hW => ?_⟩) hHeld ?_
      · go_simp
      simp only [Act.put, List.setIfInBounds_toArray, List.set_cons_zero, List.set_cons_succ]
      refine wpAnyH_done (by kernel_rfl) ?_ _
      go_wp2_with fail
      go_meet
      exact ⟨rfl, SR.rowFar (SR.row S1.out _) HNE.out _, SR.row (SR.rowFar S2.out HNE.out.symm (sc k m v M (.slice A N c)).toArray) _, bRow (bRow HB.out (b := g) HGs.out.1 (sc k m v M (.slice A N c)).toArray) (b := g') HGs.out.2 (sc k' m' v' M' (.slice A' N' c')).toArray⟩
  case rest =>
  obtain ⟨rfl, T1, T2, HB2⟩ := hcut
  have HRT1 := keepd (HR1.out.at_ HB2.out)
  have HRT2 := keepd (HR2.out.at_ HB2.out)
  have HRBc := keepd (HRB.out.at_ HB2.out)
  clear S1 S2 HB HR1 HR2 HRB C1 C2 C3 HMM HNE HGs
  obtain ⟨a4, a5⟩ := SB.facts T1.out
  obtain ⟨r, hr⟩ : ∃ r, mayS k m v M L1 = r := ⟨_, rfl⟩
  have HM := keepd hr
  clear hr
  obtain ⟨P, hP⟩ : ∃ P, putR k m v M L1 r = P := ⟨_, rfl⟩
  have HP := keepd hP
  clear hP
  obtain ⟨s, hs⟩ : ∃ s, sameS k m v M L1 k' m' v' M' L2 = s := ⟨_, rfl⟩
  have HS := keepd hs
  clear hs
  have hss : (s != s) = false := bne_self_eq_false s
  cases r
  · have CP := keepd (sput_any k m v M A L1 N c false P 1 wc HLen.out.1 (by have := HLen.out.2; omega) HRT1.out HM.out HP.out rfl)
    go_wp2_with fail
    with_reducible refine CP.out.mono ?_
    rintro e w3 ⟨Ax, zx, cx, rfl, hz, hrx, hb⟩
    have hz0 : zx = 0 := by
      rw [hz, ← HP.out]
      rfl
    subst hz0
    have HZx := keepd hz
    have HB3 := keepd (bCall HB2.out hb)
    have T13 := keepd (SR.call T1.out hb T1.out.lt)
    have T23 := keepd (SR.call T2.out hb T2.out.lt)
    have HR13 := keepd (HRT1.out.at_ hb)
    have HR23 := keepd (HRT2.out.at_ hb)
    have HRB3 := keepd (HRBc.out.at_ hb)
    have HRx3 := keepd hrx
    clear hz hrx hb CP a4 a5 HB2 T1 T2 HRT1 HRT2 HRBc
    cases ho : getS B with
    | none =>
      have CG := keepd (sget_any A2 B N2 c2 0 0 0 zM [] 2 w3 HBen.out.1 HRB3.out (getP_none ho))
      have CH : Hid (∀ w : World, Rd w w.heap.size A2 B c2 → Calls Try.prog 13 #[.slice A2 N2 c2] w (RGot w 0 0 0 zM [] false)) := fun w hw => rget_none A2 B N2 c2 w HBen.out.1 hw ho
      clear ho
      go_wp2_with fail
      with_reducible refine CG.out.mono ?_
      rintro e w4 ⟨Ag, ng, cg, rfl, hng, hrg, hb⟩
      have HB4 := keepd (bCall HB3.out hb)
      have T14 := keepd (SR.call T13.out hb T13.out.lt)
      have T24 := keepd (SR.call T23.out hb T23.out.lt)
      have HR14 := keepd (HR13.out.at_ hb)
      have HR24 := keepd (HR23.out.at_ hb)
      have HRB4 := keepd (HRB3.out.at_ hb)
      have HRx4 := keepd (HRx3.out.at_ hb)
      have HNg := keepd hng
      have HRg := keepd hrg
      clear hng hrg hb CG HB3 T13 T23 HR13 HR23 HRB3 HRx3
      go_upto_region 4 with fail
      generalize hV : w4.alloc (.cells (sc 0 0 0 zM (.slice Ag ng cg)).toArray 26) = V4
      obtain ⟨h1, h2, h3⟩ := one_new _ _ _ _ hV
      obtain ⟨g9, hg9⟩ : ∃ g, w4.heap.size = g := ⟨_, rfl⟩
      rw [hg9] at h1 ⊢
      have HB5 := keepd (bCall HB4.out h2)
      have T15 := keepd (SR.call T14.out h2 T14.out.lt)
      have T25 := keepd (SR.call T24.out h2 T24.out.lt)
      have HR15 := keepd (HR14.out.at_ h2)
      have HR25 := keepd (HR24.out.at_ h2)
      have HRB5 := keepd (HRB4.out.at_ h2)
      have HRx5 := keepd (HRx4.out.at_ h2)
      have HRg5 := keepd (HRg.out.at_ h2)
      have S95 := keepd h1
      clear hV hg9 h1 h2 h3 HB4 T14 T24 HR14 HR24 HRB4 HRx4 HRg
      go_wp2_with fail
      with_reducible refine (CH.out _ HRB5.out).mono ?_
      rintro e w6 ⟨Ah, nh, ch, rfl, hnh, hrh, hb⟩
      have HB6 := keepd (bCall HB5.out hb)
      have T16 := keepd (SR.call T15.out hb T15.out.lt)
      have T26 := keepd (SR.call T25.out hb T25.out.lt)
      have HR16 := keepd (HR15.out.at_ hb)
      have HR26 := keepd (HR25.out.at_ hb)
      have HRx6 := keepd (HRx5.out.at_ hb)
      have HRg6 := keepd (HRg5.out.at_ hb)
      have S96 := keepd (SR.call S95.out hb S95.out.lt)
      have HNh := keepd hnh
      have HRh := keepd hrh
      clear hnh hrh hb CH HB5 T15 T25 HR15 HR25 HRB5 HRx5 HRg5 S95
      go_upto_region 5 with fail
      generalize hV : w6.alloc (.cells (sc 0 0 0 zM (.slice Ah nh ch)).toArray 26) = V7
      obtain ⟨h1, h2, h3⟩ := one_new _ _ _ _ hV
      obtain ⟨g11, hg11⟩ : ∃ g, w6.heap.size = g := ⟨_, rfl⟩
      rw [hg11] at h1 ⊢
      have HB7 := keepd (bCall HB6.out h2)
      have T17 := keepd (SR.call T16.out h2 T16.out.lt)
      have T27 := keepd (SR.call T26.out h2 T26.out.lt)
      have HR17 := keepd (HR16.out.at_ h2)
      have HR27 := keepd (HR26.out.at_ h2)
      have HRx7 := keepd (HRx6.out.at_ h2)
      have HRg7 := keepd (HRg6.out.at_ h2)
      have HRh7 := keepd (HRh.out.at_ h2)
      obtain ⟨d0, d1, d2, d3, d4, d5⟩ := SB.gr (SR.call S96.out h2 S96.out.lt : SB V7 g9 0 0 0 zM (.slice Ag ng cg))
      obtain ⟨f0, f1, f2, f3, f4, f5⟩ := SB.gr h1
      clear hV hg11 h1 h2 h3 HB6 T16 T26 HR16 HR26 HRx6 HRg6 HRh S96
      obtain ⟨a0, a1, a2, a3, a4, a5⟩ := SB.gr T17.out
      obtain ⟨b0, b1, b2, b3, b4, b5⟩ := SB.gr T27.out
      have CC : Hid (∀ x : Gr V7, Calls Try.prog 14 #[sv k m v M (.slice A N c)] x.W fun e w' => e = .returned (.int .i64 1) ∧ Below x.W.heap.size x.W w') := fun x => scheck_any k m v M A L1 N c false x.W HLen.out.1 (HR17.out.at_ x.h) HM.out
      have CM := keepd fun x : Gr V7 => rmay_any k m v M A L1 N c false x.W HLen.out.1 (HR17.out.at_ x.h) HM.out
      have CS1 := keepd fun x : Gr V7 => ssame_any k m v M A L1 N c k' m' v' M' A' L2 N' c' s x.W HLen.out.1 HLen'.out.1 (HR17.out.at_ x.h) (HR27.out.at_ x.h) HS.out
      have CS2 := keepd fun x : Gr V7 => rsame_any k m v M A L1 N c k' m' v' M' A' L2 N' c' s x.W HLen.out.1 HLen'.out.1 (HR17.out.at_ x.h) (HR27.out.at_ x.h) HS.out
      have CS3 := keepd fun x : Gr V7 => rsame_any 0 0 0 zM Ag [] ng cg 0 0 0 zM Ah [] nh ch true x.W HNg.out HNh.out (HRg7.out.at_ x.h) (HRh7.out.at_ x.h) (by simp [sameS])
      clear a0 a1 a2 a3 b0 b1 b2 b3 d0 d1 d2 d3 f0 f1 f2 f3
      refine wp_region_gr (by kernel_rfl) (by kernel_rfl) ?_
      repeat
        refine wpQuiet_step (fun K hK => ?_)
        first
          | (refine gr_want (by rfl) ?_
             go_simp
             first
               | (refine hK _ ?_; clear hK K)
               | (apply Exists.intro
                  refine ⟨fun _ => ?_, hK _ ?_⟩
                  (first | (go_at_call 14; exact Gr.call (CC.out _)) | (go_at_call 15; exact Gr.call (CM.out _)) | (go_at_call 16; exact Gr.call (CS1.out _)) | (go_at_call 17; first | with_reducible exact Gr.call (CS2.out _) | with_reducible exact Gr.call (CS3.out _)))
                  clear hK K))
          | (refine gr_skip (by rfl) ?_
             go_simp
             refine hK _ ?_
             clear hK K)
      refine wpQuiet_nil ?_
      intro x
      have HB8 := keepd (bCall HB7.out x.h)
      have T18 := keepd (SR.call T17.out x.h T17.out.lt)
      have HR18 := keepd (HR17.out.at_ x.h)
      have HRx8 := keepd (HRx7.out.at_ x.h)
      have CM8 := keepd (CM.out x)
      clear a4 a5 b4 b5 d4 d5 f4 f5 CC CM CS1 CS2 CS3 HB7 T17 T27 HR17 HR27 HRx7 HRg7 HRh7
      obtain ⟨xw, hxw⟩ : ∃ w, x.W = w := ⟨_, rfl⟩
      rw [hxw] at HB8 T18 HR18 HRx8 CM8 ⊢
      clear hxw x
      obtain ⟨a4, a5⟩ := SB.facts T18.out
      go_wp2_with fail
      with_reducible refine CM8.out.mono ?_
      rintro e w9 ⟨rfl, hb⟩
      have HB9 := keepd (bCall HB8.out hb)
      have T19 := keepd (SR.call T18.out hb T18.out.lt)
      have HR19 := keepd (HR18.out.at_ hb)
      have HRx9 := keepd (HRx8.out.at_ hb)
      clear hb CM8 HB8 T18 HR18 HRx8 a4 a5
      go_wp2_with fail
      with_reducible refine (awake_any _).mono ?_
      rintro e w10 ⟨rfl, hb10⟩
      have HB10 := keepd (bCall HB9.out hb10)
      clear hb10
      go_wp2_with fail
      go_ret
      exact ⟨rfl, HB10.out⟩
    | some X =>
      have hs := get_shape ho
      obtain ⟨kk, mm, vv, MM, LL⟩ := X
      have CG := keepd (sget_any A2 B N2 c2 kk mm vv MM LL 0 w3 HBen.out.1 HRB3.out (getP_some ho))
      have CH : Hid (∀ w : World, Rd w w.heap.size A2 B c2 → Calls Try.prog 13 #[.slice A2 N2 c2] w (RGot w kk mm vv MM LL true)) := fun w hw => rget_some A2 B N2 c2 _ w HBen.out.1 hw hs
      clear ho hs
      go_wp2_with fail
      with_reducible refine CG.out.mono ?_
      rintro e w4 ⟨Ag, ng, cg, rfl, hng, hrg, hb⟩
      have HB4 := keepd (bCall HB3.out hb)
      have T14 := keepd (SR.call T13.out hb T13.out.lt)
      have T24 := keepd (SR.call T23.out hb T23.out.lt)
      have HR14 := keepd (HR13.out.at_ hb)
      have HR24 := keepd (HR23.out.at_ hb)
      have HRB4 := keepd (HRB3.out.at_ hb)
      have HRx4 := keepd (HRx3.out.at_ hb)
      have HNg := keepd hng
      have HRg := keepd hrg
      clear hng hrg hb CG HB3 T13 T23 HR13 HR23 HRB3 HRx3
      go_upto_region 4 with fail
      generalize hV : w4.alloc (.cells (sc kk mm vv MM (.slice Ag ng cg)).toArray 26) = V4
      obtain ⟨h1, h2, h3⟩ := one_new _ _ _ _ hV
      obtain ⟨g9, hg9⟩ : ∃ g, w4.heap.size = g := ⟨_, rfl⟩
      rw [hg9] at h1 ⊢
      have HB5 := keepd (bCall HB4.out h2)
      have T15 := keepd (SR.call T14.out h2 T14.out.lt)
      have T25 := keepd (SR.call T24.out h2 T24.out.lt)
      have HR15 := keepd (HR14.out.at_ h2)
      have HR25 := keepd (HR24.out.at_ h2)
      have HRB5 := keepd (HRB4.out.at_ h2)
      have HRx5 := keepd (HRx4.out.at_ h2)
      have HRg5 := keepd (HRg.out.at_ h2)
      have S95 := keepd h1
      clear hV hg9 h1 h2 h3 HB4 T14 T24 HR14 HR24 HRB4 HRx4 HRg
      go_wp2_with fail
      with_reducible refine (CH.out _ HRB5.out).mono ?_
      rintro e w6 ⟨Ah, nh, ch, rfl, hnh, hrh, hb⟩
      have HB6 := keepd (bCall HB5.out hb)
      have T16 := keepd (SR.call T15.out hb T15.out.lt)
      have T26 := keepd (SR.call T25.out hb T25.out.lt)
      have HR16 := keepd (HR15.out.at_ hb)
      have HR26 := keepd (HR25.out.at_ hb)
      have HRx6 := keepd (HRx5.out.at_ hb)
      have HRg6 := keepd (HRg5.out.at_ hb)
      have S96 := keepd (SR.call S95.out hb S95.out.lt)
      have HNh := keepd hnh
      have HRh := keepd hrh
      clear hnh hrh hb CH HB5 T15 T25 HR15 HR25 HRB5 HRx5 HRg5 S95
      go_upto_region 5 with fail
      generalize hV : w6.alloc (.cells (sc kk mm vv MM (.slice Ah nh ch)).toArray 26) = V7
      obtain ⟨h1, h2, h3⟩ := one_new _ _ _ _ hV
      obtain ⟨g11, hg11⟩ : ∃ g, w6.heap.size = g := ⟨_, rfl⟩
      rw [hg11] at h1 ⊢
      have HB7 := keepd (bCall HB6.out h2)
      have T17 := keepd (SR.call T16.out h2 T16.out.lt)
      have T27 := keepd (SR.call T26.out h2 T26.out.lt)
      have HR17 := keepd (HR16.out.at_ h2)
      have HR27 := keepd (HR26.out.at_ h2)
      have HRx7 := keepd (HRx6.out.at_ h2)
      have HRg7 := keepd (HRg6.out.at_ h2)
      have HRh7 := keepd (HRh.out.at_ h2)
      obtain ⟨d0, d1, d2, d3, d4, d5⟩ := SB.gr (SR.call S96.out h2 S96.out.lt : SB V7 g9 kk mm vv MM (.slice Ag ng cg))
      obtain ⟨f0, f1, f2, f3, f4, f5⟩ := SB.gr h1
      clear hV hg11 h1 h2 h3 HB6 T16 T26 HR16 HR26 HRx6 HRg6 HRh S96
      obtain ⟨a0, a1, a2, a3, a4, a5⟩ := SB.gr T17.out
      obtain ⟨b0, b1, b2, b3, b4, b5⟩ := SB.gr T27.out
      have CC : Hid (∀ x : Gr V7, Calls Try.prog 14 #[sv k m v M (.slice A N c)] x.W fun e w' => e = .returned (.int .i64 1) ∧ Below x.W.heap.size x.W w') := fun x => scheck_any k m v M A L1 N c false x.W HLen.out.1 (HR17.out.at_ x.h) HM.out
      have CM := keepd fun x : Gr V7 => rmay_any k m v M A L1 N c false x.W HLen.out.1 (HR17.out.at_ x.h) HM.out
      have CS1 := keepd fun x : Gr V7 => ssame_any k m v M A L1 N c k' m' v' M' A' L2 N' c' s x.W HLen.out.1 HLen'.out.1 (HR17.out.at_ x.h) (HR27.out.at_ x.h) HS.out
      have CS2 := keepd fun x : Gr V7 => rsame_any k m v M A L1 N c k' m' v' M' A' L2 N' c' s x.W HLen.out.1 HLen'.out.1 (HR17.out.at_ x.h) (HR27.out.at_ x.h) HS.out
      have CS3 := keepd fun x : Gr V7 => rsame_any kk mm vv MM Ag LL ng cg kk mm vv MM Ah LL nh ch true x.W HNg.out HNh.out (HRg7.out.at_ x.h) (HRh7.out.at_ x.h) (by simp [sameS])
      clear a0 a1 a2 a3 b0 b1 b2 b3 d0 d1 d2 d3 f0 f1 f2 f3
      refine wp_region_gr (by kernel_rfl) (by kernel_rfl) ?_
      repeat
        refine wpQuiet_step (fun K hK => ?_)
        first
          | (refine gr_want (by rfl) ?_
             go_simp
             first
               | (refine hK _ ?_; clear hK K)
               | (apply Exists.intro
                  refine ⟨fun _ => ?_, hK _ ?_⟩
                  (first | (go_at_call 14; exact Gr.call (CC.out _)) | (go_at_call 15; exact Gr.call (CM.out _)) | (go_at_call 16; exact Gr.call (CS1.out _)) | (go_at_call 17; first | with_reducible exact Gr.call (CS2.out _) | with_reducible exact Gr.call (CS3.out _)))
                  clear hK K))
          | (refine gr_skip (by rfl) ?_
             go_simp
             refine hK _ ?_
             clear hK K)
      refine wpQuiet_nil ?_
      intro x
      have HB8 := keepd (bCall HB7.out x.h)
      have T18 := keepd (SR.call T17.out x.h T17.out.lt)
      have HR18 := keepd (HR17.out.at_ x.h)
      have HRx8 := keepd (HRx7.out.at_ x.h)
      have CM8 := keepd (CM.out x)
      clear a4 a5 b4 b5 d4 d5 f4 f5 CC CM CS1 CS2 CS3 HB7 T17 T27 HR17 HR27 HRx7 HRg7 HRh7
      obtain ⟨xw, hxw⟩ : ∃ w, x.W = w := ⟨_, rfl⟩
      rw [hxw] at HB8 T18 HR18 HRx8 CM8 ⊢
      clear hxw x
      obtain ⟨a4, a5⟩ := SB.facts T18.out
      go_wp2_with fail
      with_reducible refine CM8.out.mono ?_
      rintro e w9 ⟨rfl, hb⟩
      have HB9 := keepd (bCall HB8.out hb)
      have T19 := keepd (SR.call T18.out hb T18.out.lt)
      have HR19 := keepd (HR18.out.at_ hb)
      have HRx9 := keepd (HRx8.out.at_ hb)
      clear hb CM8 HB8 T18 HR18 HRx8 a4 a5
      go_wp2_with fail
      with_reducible refine (awake_any _).mono ?_
      rintro e w10 ⟨rfl, hb10⟩
      have HB10 := keepd (bCall HB9.out hb10)
      clear hb10
      go_wp2_with fail
      go_ret
      exact ⟨rfl, HB10.out⟩
  · have CP := keepd (sput_any k m v M A L1 N c true P 0 wc HLen.out.1 (by have := HLen.out.2; omega) HRT1.out HM.out HP.out rfl)
    go_wp2_with fail
    with_reducible refine CP.out.mono ?_
    rintro e w3 ⟨Ax, zx, cx, rfl, hz, hrx, hb⟩
    have HZx := keepd hz
    have HB3 := keepd (bCall HB2.out hb)
    have T13 := keepd (SR.call T1.out hb T1.out.lt)
    have T23 := keepd (SR.call T2.out hb T2.out.lt)
    have HR13 := keepd (HRT1.out.at_ hb)
    have HR23 := keepd (HRT2.out.at_ hb)
    have HRB3 := keepd (HRBc.out.at_ hb)
    have HRx3 := keepd hrx
    clear hz hrx hb CP a4 a5 HB2 T1 T2 HRT1 HRT2 HRBc
    cases ho : getS B with
    | none =>
      have CG := keepd (sget_any A2 B N2 c2 0 0 0 zM [] 2 w3 HBen.out.1 HRB3.out (getP_none ho))
      have CH : Hid (∀ w : World, Rd w w.heap.size A2 B c2 → Calls Try.prog 13 #[.slice A2 N2 c2] w (RGot w 0 0 0 zM [] false)) := fun w hw => rget_none A2 B N2 c2 w HBen.out.1 hw ho
      clear ho
      go_wp2_with fail
      with_reducible refine CG.out.mono ?_
      rintro e w4 ⟨Ag, ng, cg, rfl, hng, hrg, hb⟩
      have HB4 := keepd (bCall HB3.out hb)
      have T14 := keepd (SR.call T13.out hb T13.out.lt)
      have T24 := keepd (SR.call T23.out hb T23.out.lt)
      have HR14 := keepd (HR13.out.at_ hb)
      have HR24 := keepd (HR23.out.at_ hb)
      have HRB4 := keepd (HRB3.out.at_ hb)
      have HRx4 := keepd (HRx3.out.at_ hb)
      have HNg := keepd hng
      have HRg := keepd hrg
      clear hng hrg hb CG HB3 T13 T23 HR13 HR23 HRB3 HRx3
      go_upto_region 4 with fail
      generalize hV : w4.alloc (.cells (sc 0 0 0 zM (.slice Ag ng cg)).toArray 26) = V4
      obtain ⟨h1, h2, h3⟩ := one_new _ _ _ _ hV
      obtain ⟨g9, hg9⟩ : ∃ g, w4.heap.size = g := ⟨_, rfl⟩
      rw [hg9] at h1 ⊢
      have HB5 := keepd (bCall HB4.out h2)
      have T15 := keepd (SR.call T14.out h2 T14.out.lt)
      have T25 := keepd (SR.call T24.out h2 T24.out.lt)
      have HR15 := keepd (HR14.out.at_ h2)
      have HR25 := keepd (HR24.out.at_ h2)
      have HRB5 := keepd (HRB4.out.at_ h2)
      have HRx5 := keepd (HRx4.out.at_ h2)
      have HRg5 := keepd (HRg.out.at_ h2)
      have S95 := keepd h1
      clear hV hg9 h1 h2 h3 HB4 T14 T24 HR14 HR24 HRB4 HRx4 HRg
      go_wp2_with fail
      with_reducible refine (CH.out _ HRB5.out).mono ?_
      rintro e w6 ⟨Ah, nh, ch, rfl, hnh, hrh, hb⟩
      have HB6 := keepd (bCall HB5.out hb)
      have T16 := keepd (SR.call T15.out hb T15.out.lt)
      have T26 := keepd (SR.call T25.out hb T25.out.lt)
      have HR16 := keepd (HR15.out.at_ hb)
      have HR26 := keepd (HR25.out.at_ hb)
      have HRx6 := keepd (HRx5.out.at_ hb)
      have HRg6 := keepd (HRg5.out.at_ hb)
      have S96 := keepd (SR.call S95.out hb S95.out.lt)
      have HNh := keepd hnh
      have HRh := keepd hrh
      clear hnh hrh hb CH HB5 T15 T25 HR15 HR25 HRB5 HRx5 HRg5 S95
      go_upto_region 5 with fail
      generalize hV : w6.alloc (.cells (sc 0 0 0 zM (.slice Ah nh ch)).toArray 26) = V7
      obtain ⟨h1, h2, h3⟩ := one_new _ _ _ _ hV
      obtain ⟨g11, hg11⟩ : ∃ g, w6.heap.size = g := ⟨_, rfl⟩
      rw [hg11] at h1 ⊢
      have HB7 := keepd (bCall HB6.out h2)
      have T17 := keepd (SR.call T16.out h2 T16.out.lt)
      have T27 := keepd (SR.call T26.out h2 T26.out.lt)
      have HR17 := keepd (HR16.out.at_ h2)
      have HR27 := keepd (HR26.out.at_ h2)
      have HRx7 := keepd (HRx6.out.at_ h2)
      have HRg7 := keepd (HRg6.out.at_ h2)
      have HRh7 := keepd (HRh.out.at_ h2)
      obtain ⟨d0, d1, d2, d3, d4, d5⟩ := SB.gr (SR.call S96.out h2 S96.out.lt : SB V7 g9 0 0 0 zM (.slice Ag ng cg))
      obtain ⟨f0, f1, f2, f3, f4, f5⟩ := SB.gr h1
      clear hV hg11 h1 h2 h3 HB6 T16 T26 HR16 HR26 HRx6 HRg6 HRh S96
      obtain ⟨a0, a1, a2, a3, a4, a5⟩ := SB.gr T17.out
      obtain ⟨b0, b1, b2, b3, b4, b5⟩ := SB.gr T27.out
      have CC : Hid (∀ x : Gr V7, Calls Try.prog 14 #[sv k m v M (.slice A N c)] x.W fun e w' => e = .returned (.int .i64 0) ∧ Below x.W.heap.size x.W w') := fun x => scheck_any k m v M A L1 N c true x.W HLen.out.1 (HR17.out.at_ x.h) HM.out
      have CM := keepd fun x : Gr V7 => rmay_any k m v M A L1 N c true x.W HLen.out.1 (HR17.out.at_ x.h) HM.out
      have CS1 := keepd fun x : Gr V7 => ssame_any k m v M A L1 N c k' m' v' M' A' L2 N' c' s x.W HLen.out.1 HLen'.out.1 (HR17.out.at_ x.h) (HR27.out.at_ x.h) HS.out
      have CS2 := keepd fun x : Gr V7 => rsame_any k m v M A L1 N c k' m' v' M' A' L2 N' c' s x.W HLen.out.1 HLen'.out.1 (HR17.out.at_ x.h) (HR27.out.at_ x.h) HS.out
      have CS3 := keepd fun x : Gr V7 => rsame_any 0 0 0 zM Ag [] ng cg 0 0 0 zM Ah [] nh ch true x.W HNg.out HNh.out (HRg7.out.at_ x.h) (HRh7.out.at_ x.h) (by simp [sameS])
      clear a0 a1 a2 a3 b0 b1 b2 b3 d0 d1 d2 d3 f0 f1 f2 f3
      refine wp_region_gr (by kernel_rfl) (by kernel_rfl) ?_
      repeat
        refine wpQuiet_step (fun K hK => ?_)
        first
          | (refine gr_want (by rfl) ?_
             go_simp
             first
               | (refine hK _ ?_; clear hK K)
               | (apply Exists.intro
                  refine ⟨fun _ => ?_, hK _ ?_⟩
                  (first | (go_at_call 14; exact Gr.call (CC.out _)) | (go_at_call 15; exact Gr.call (CM.out _)) | (go_at_call 16; exact Gr.call (CS1.out _)) | (go_at_call 17; first | with_reducible exact Gr.call (CS2.out _) | with_reducible exact Gr.call (CS3.out _)))
                  clear hK K))
          | (refine gr_skip (by rfl) ?_
             go_simp
             refine hK _ ?_
             clear hK K)
      refine wpQuiet_nil ?_
      intro x
      have HB8 := keepd (bCall HB7.out x.h)
      have T18 := keepd (SR.call T17.out x.h T17.out.lt)
      have HR18 := keepd (HR17.out.at_ x.h)
      have HRx8 := keepd (HRx7.out.at_ x.h)
      have CM8 := keepd (CM.out x)
      clear a4 a5 b4 b5 d4 d5 f4 f5 CC CM CS1 CS2 CS3 HB7 T17 T27 HR17 HR27 HRx7 HRg7 HRh7
      obtain ⟨xw, hxw⟩ : ∃ w, x.W = w := ⟨_, rfl⟩
      rw [hxw] at HB8 T18 HR18 HRx8 CM8 ⊢
      clear hxw x
      obtain ⟨a4, a5⟩ := SB.facts T18.out
      go_wp2_with fail
      with_reducible refine CM8.out.mono ?_
      rintro e w9 ⟨rfl, hb⟩
      have HB9 := keepd (bCall HB8.out hb)
      have T19 := keepd (SR.call T18.out hb T18.out.lt)
      have HR19 := keepd (HR18.out.at_ hb)
      have HRx9 := keepd (HRx8.out.at_ hb)
      clear hb CM8 HB8 T18 HR18 HRx8 a4 a5
      obtain ⟨a4, a5⟩ := SB.facts T19.out
      have CQ := keepd (rsput_any k m v M A L1 N c P w9 HLen.out.1 (by have := HLen.out.2; omega) HR19.out HM.out HP.out)
      go_wp2_with fail
      with_reducible refine CQ.out.mono ?_
      rintro e w10 ⟨Ay, cy, rfl, hry, hb⟩
      have HB10 := keepd (bCall HB9.out hb)
      have HRx10 := keepd (HRx9.out.at_ hb)
      have HRy := keepd hry
      clear hry hb CQ HB9 T19 HR19 HRx9 a4 a5
      obtain ⟨py, hpy⟩ : ∃ p, P.length = p := ⟨_, rfl⟩
      rw [hpy]
      have CO : Hid (Calls Try.prog 19 #[.slice Ax zx cx, .slice Ay py cy] w10 fun e w' => e = .returned (.bool true) ∧ w10 = w') := by
        have := octets_any Ax Ay P P zx py cx cy w10.heap.size w10 HZx.out hpy.symm HRx10.out HRy.out
        rw [show (P == P) = true by simp] at this
        exact this
      clear hpy
      go_wp2_with fail
      with_reducible refine CO.out.mono ?_
      rintro e w10 ⟨rfl, rfl⟩
      clear CO
      go_wp2_with fail
      with_reducible refine (awake_any _).mono ?_
      rintro e w11 ⟨rfl, hb11⟩
      have HB11 := keepd (bCall HB10.out hb11)
      clear hb11
      go_wp2_with fail
      go_ret
      exact ⟨rfl, HB11.out⟩
    | some X =>
      have hs := get_shape ho
      obtain ⟨kk, mm, vv, MM, LL⟩ := X
      have CG := keepd (sget_any A2 B N2 c2 kk mm vv MM LL 0 w3 HBen.out.1 HRB3.out (getP_some ho))
      have CH : Hid (∀ w : World, Rd w w.heap.size A2 B c2 → Calls Try.prog 13 #[.slice A2 N2 c2] w (RGot w kk mm vv MM LL true)) := fun w hw => rget_some A2 B N2 c2 _ w HBen.out.1 hw hs
      clear ho hs
      go_wp2_with fail
      with_reducible refine CG.out.mono ?_
      rintro e w4 ⟨Ag, ng, cg, rfl, hng, hrg, hb⟩
      have HB4 := keepd (bCall HB3.out hb)
      have T14 := keepd (SR.call T13.out hb T13.out.lt)
      have T24 := keepd (SR.call T23.out hb T23.out.lt)
      have HR14 := keepd (HR13.out.at_ hb)
      have HR24 := keepd (HR23.out.at_ hb)
      have HRB4 := keepd (HRB3.out.at_ hb)
      have HRx4 := keepd (HRx3.out.at_ hb)
      have HNg := keepd hng
      have HRg := keepd hrg
      clear hng hrg hb CG HB3 T13 T23 HR13 HR23 HRB3 HRx3
      go_upto_region 4 with fail
      generalize hV : w4.alloc (.cells (sc kk mm vv MM (.slice Ag ng cg)).toArray 26) = V4
      obtain ⟨h1, h2, h3⟩ := one_new _ _ _ _ hV
      obtain ⟨g9, hg9⟩ : ∃ g, w4.heap.size = g := ⟨_, rfl⟩
      rw [hg9] at h1 ⊢
      have HB5 := keepd (bCall HB4.out h2)
      have T15 := keepd (SR.call T14.out h2 T14.out.lt)
      have T25 := keepd (SR.call T24.out h2 T24.out.lt)
      have HR15 := keepd (HR14.out.at_ h2)
      have HR25 := keepd (HR24.out.at_ h2)
      have HRB5 := keepd (HRB4.out.at_ h2)
      have HRx5 := keepd (HRx4.out.at_ h2)
      have HRg5 := keepd (HRg.out.at_ h2)
      have S95 := keepd h1
      clear hV hg9 h1 h2 h3 HB4 T14 T24 HR14 HR24 HRB4 HRx4 HRg
      go_wp2_with fail
      with_reducible refine (CH.out _ HRB5.out).mono ?_
      rintro e w6 ⟨Ah, nh, ch, rfl, hnh, hrh, hb⟩
      have HB6 := keepd (bCall HB5.out hb)
      have T16 := keepd (SR.call T15.out hb T15.out.lt)
      have T26 := keepd (SR.call T25.out hb T25.out.lt)
      have HR16 := keepd (HR15.out.at_ hb)
      have HR26 := keepd (HR25.out.at_ hb)
      have HRx6 := keepd (HRx5.out.at_ hb)
      have HRg6 := keepd (HRg5.out.at_ hb)
      have S96 := keepd (SR.call S95.out hb S95.out.lt)
      have HNh := keepd hnh
      have HRh := keepd hrh
      clear hnh hrh hb CH HB5 T15 T25 HR15 HR25 HRB5 HRx5 HRg5 S95
      go_upto_region 5 with fail
      generalize hV : w6.alloc (.cells (sc kk mm vv MM (.slice Ah nh ch)).toArray 26) = V7
      obtain ⟨h1, h2, h3⟩ := one_new _ _ _ _ hV
      obtain ⟨g11, hg11⟩ : ∃ g, w6.heap.size = g := ⟨_, rfl⟩
      rw [hg11] at h1 ⊢
      have HB7 := keepd (bCall HB6.out h2)
      have T17 := keepd (SR.call T16.out h2 T16.out.lt)
      have T27 := keepd (SR.call T26.out h2 T26.out.lt)
      have HR17 := keepd (HR16.out.at_ h2)
      have HR27 := keepd (HR26.out.at_ h2)
      have HRx7 := keepd (HRx6.out.at_ h2)
      have HRg7 := keepd (HRg6.out.at_ h2)
      have HRh7 := keepd (HRh.out.at_ h2)
      obtain ⟨d0, d1, d2, d3, d4, d5⟩ := SB.gr (SR.call S96.out h2 S96.out.lt : SB V7 g9 kk mm vv MM (.slice Ag ng cg))
      obtain ⟨f0, f1, f2, f3, f4, f5⟩ := SB.gr h1
      clear hV hg11 h1 h2 h3 HB6 T16 T26 HR16 HR26 HRx6 HRg6 HRh S96
      obtain ⟨a0, a1, a2, a3, a4, a5⟩ := SB.gr T17.out
      obtain ⟨b0, b1, b2, b3, b4, b5⟩ := SB.gr T27.out
      have CC : Hid (∀ x : Gr V7, Calls Try.prog 14 #[sv k m v M (.slice A N c)] x.W fun e w' => e = .returned (.int .i64 0) ∧ Below x.W.heap.size x.W w') := fun x => scheck_any k m v M A L1 N c true x.W HLen.out.1 (HR17.out.at_ x.h) HM.out
      have CM := keepd fun x : Gr V7 => rmay_any k m v M A L1 N c true x.W HLen.out.1 (HR17.out.at_ x.h) HM.out
      have CS1 := keepd fun x : Gr V7 => ssame_any k m v M A L1 N c k' m' v' M' A' L2 N' c' s x.W HLen.out.1 HLen'.out.1 (HR17.out.at_ x.h) (HR27.out.at_ x.h) HS.out
      have CS2 := keepd fun x : Gr V7 => rsame_any k m v M A L1 N c k' m' v' M' A' L2 N' c' s x.W HLen.out.1 HLen'.out.1 (HR17.out.at_ x.h) (HR27.out.at_ x.h) HS.out
      have CS3 := keepd fun x : Gr V7 => rsame_any kk mm vv MM Ag LL ng cg kk mm vv MM Ah LL nh ch true x.W HNg.out HNh.out (HRg7.out.at_ x.h) (HRh7.out.at_ x.h) (by simp [sameS])
      clear a0 a1 a2 a3 b0 b1 b2 b3 d0 d1 d2 d3 f0 f1 f2 f3
      refine wp_region_gr (by kernel_rfl) (by kernel_rfl) ?_
      repeat
        refine wpQuiet_step (fun K hK => ?_)
        first
          | (refine gr_want (by rfl) ?_
             go_simp
             first
               | (refine hK _ ?_; clear hK K)
               | (apply Exists.intro
                  refine ⟨fun _ => ?_, hK _ ?_⟩
                  (first | (go_at_call 14; exact Gr.call (CC.out _)) | (go_at_call 15; exact Gr.call (CM.out _)) | (go_at_call 16; exact Gr.call (CS1.out _)) | (go_at_call 17; first | with_reducible exact Gr.call (CS2.out _) | with_reducible exact Gr.call (CS3.out _)))
                  clear hK K))
          | (refine gr_skip (by rfl) ?_
             go_simp
             refine hK _ ?_
             clear hK K)
      refine wpQuiet_nil ?_
      intro x
      have HB8 := keepd (bCall HB7.out x.h)
      have T18 := keepd (SR.call T17.out x.h T17.out.lt)
      have HR18 := keepd (HR17.out.at_ x.h)
      have HRx8 := keepd (HRx7.out.at_ x.h)
      have CM8 := keepd (CM.out x)
      clear a4 a5 b4 b5 d4 d5 f4 f5 CC CM CS1 CS2 CS3 HB7 T17 T27 HR17 HR27 HRx7 HRg7 HRh7
      obtain ⟨xw, hxw⟩ : ∃ w, x.W = w := ⟨_, rfl⟩
      rw [hxw] at HB8 T18 HR18 HRx8 CM8 ⊢
      clear hxw x
      obtain ⟨a4, a5⟩ := SB.facts T18.out
      go_wp2_with fail
      with_reducible refine CM8.out.mono ?_
      rintro e w9 ⟨rfl, hb⟩
      have HB9 := keepd (bCall HB8.out hb)
      have T19 := keepd (SR.call T18.out hb T18.out.lt)
      have HR19 := keepd (HR18.out.at_ hb)
      have HRx9 := keepd (HRx8.out.at_ hb)
      clear hb CM8 HB8 T18 HR18 HRx8 a4 a5
      obtain ⟨a4, a5⟩ := SB.facts T19.out
      have CQ := keepd (rsput_any k m v M A L1 N c P w9 HLen.out.1 (by have := HLen.out.2; omega) HR19.out HM.out HP.out)
      go_wp2_with fail
      with_reducible refine CQ.out.mono ?_
      rintro e w10 ⟨Ay, cy, rfl, hry, hb⟩
      have HB10 := keepd (bCall HB9.out hb)
      have HRx10 := keepd (HRx9.out.at_ hb)
      have HRy := keepd hry
      clear hry hb CQ HB9 T19 HR19 HRx9 a4 a5
      obtain ⟨py, hpy⟩ : ∃ p, P.length = p := ⟨_, rfl⟩
      rw [hpy]
      have CO : Hid (Calls Try.prog 19 #[.slice Ax zx cx, .slice Ay py cy] w10 fun e w' => e = .returned (.bool true) ∧ w10 = w') := by
        have := octets_any Ax Ay P P zx py cx cy w10.heap.size w10 HZx.out hpy.symm HRx10.out HRy.out
        rw [show (P == P) = true by simp] at this
        exact this
      clear hpy
      go_wp2_with fail
      with_reducible refine CO.out.mono ?_
      rintro e w10 ⟨rfl, rfl⟩
      clear CO
      go_wp2_with fail
      with_reducible refine (awake_any _).mono ?_
      rintro e w11 ⟨rfl, hb11⟩
      have HB11 := keepd (bCall HB10.out hb11)
      clear hb11
      go_wp2_with fail
      go_ret
      exact ⟨rfl, HB11.out⟩

end Go.Proofs.Ytflmplnampgflaa
