/-
  The contract of read. No conditions beyond those each theorem states.
-/
import Derived.Test.YtflmplnampgflaaO12
namespace Go.Proofs.Ytflmplnampgflaa
open Go.RowKit
set_option maxRecDepth 100000

attribute [local go_sem ↓] ex_ld23 ex_st23 ex_al23 ex_bu23 ex_eq23 ex_ne23 ex_ld26 ex_st26 ex_al26 ex_ld23o ex_st23o ex_bu26 ex_bu26k ex_bu26m ex_bu26l ex_bu26v ex_bu26w ex_eq29 ex_ne29
attribute [local go_sem] ptrB_at okPtr_at aggC_at agg32 agg36 isM_at eqV_m isRow_new isRow_new26 World.setRow_alloc_new ptr3_at okPtr3_at cutM_at putM_at isI_at isL_at bK_at bKM_at bKL_at bKVM_at bKV_at isV_at toV_at

theorem lt_of_cell3 {w : World} {g off : Nat} {u : Value} (h : w.cell? ⟨g, off, none⟩ = some u) : g < w.heap.size := by
  unfold World.cell? at h
  split at h
  · rename_i e
    exact (Array.getElem?_eq_some_iff.1 e).1
  · cases h

theorem read_0 (A : Option Addr) (c : Nat) (w : World) : Calls Try.prog 25 #[.slice A 0 c] w (GotS w none) := by
  have HB := keepd (bAlloc (Below.refl w.heap.size w) (.cells (sc 0 0 0 zM nil_).toArray 26))
  have g1 : decide (((0 : Nat) : Int) > 0) = false := by decide
  go_enter Try.func25, Try.ntmps25
  go_wp2_with fail
  with_reducible refine (need_no _).mono ?_
  rintro e w2 ⟨rfl, rfl⟩
  go_wp2_with fail
  exact ⟨rfl, rfl, HB.out⟩

set_option maxHeartbeats 4000000 in
theorem read_1 (g off : Nat) (z : Int) (t : List UInt8) (n c : Nat) (w : World) (A1 : Option Addr) (n1 c1 : Nat) (hn : 0 < n) (hgl : g < w.heap.size) (hc : w.cell? ⟨g, off, none⟩ = some (.int .u8 z)) (hz : wrap64 z = z)
    (hA1 : (if c = 1 then some (⟨g, off, none⟩ : Addr) else (some ⟨g, off, none⟩ : Option Addr).map (·.add 1)) = A1 ∧ n - 1 = n1 ∧ c - 1 = c1) (ht : n1 = t.length) (hr : Rd w w.heap.size A1 t c1) (o : Option Sb) (ho : kindR z t = o) :
    Calls Try.prog 25 #[.slice (some ⟨g, off, none⟩) n c] w (GotS w (o.filter Sb.may)) := by
  have HA1 := keepd hA1
  have HN0 := keepd hn
  have g1 : decide ((n : Int) > 0) = true := decide_eq_true (by omega)
  have g2 : decide (n > 0) = true := decide_eq_true (by omega)
  have i0 : (0 : Int) < (n : Int) := by omega
  have hn0 : ¬ n = 0 := by omega
  have hz2 : IntKind.i64.wrap z = z := by rw [IntWalk.i64_left]; exact hz
  have C : Hid (∀ W : World, Rd W W.heap.size A1 t c1 → Calls Try.prog 37 #[.int .i64 z, .slice A1 n1 c1] W (GotS W o)) := fun W hW => by
    have := kind_any z A1 t n1 c1 W ht hW
    rw [ho] at this
    exact this
  have HR := keepd hr
  clear hA1 hn hr ht ho
  go_enter Try.func25, Try.ntmps25
  go_upto_region 1 with fail
  generalize hV : w.alloc (.cells (sc 0 0 0 zM (.slice none 0 0)).toArray 26) = V
  obtain ⟨h1, h2, h3⟩ := one_new _ _ _ _ hV
  obtain ⟨g0, hg⟩ : ∃ g, w.heap.size = g := ⟨_, rfl⟩
  rw [hg] at h1
  rw [hg]
  have HG := keepd hg
  have H1 := keepd h1
  have HB := keepd h2
  have hcV : V.cell? ⟨g, off, none⟩ = some (.int .u8 z) := (HB.out.cell (p := ⟨g, off, none⟩) hgl).trans hc
  have hgV : g < V.heap.size := Nat.lt_of_lt_of_le hgl HB.out.size
  have HRT := keepd (HR.out.at_ HB.out)
  clear hV hg h3 h1 h2 hc hgl HR
  go_wp2_with fail
  with_reducible refine (need_yes _).mono ?_
  rintro e V ⟨rfl, rfl⟩
  go_upto_region 2 with fail
  have hs1 : ∀ W : World, (Instr.sliceAt 27 (.slice (some ⟨g, off, none⟩) n c) (some (.int .i64 1)) none none).run Try.prog W = .ok (.slice A1 n1 c1) W := fun W => by
    rw [← HA1.out.1, ← HA1.out.2.1, ← HA1.out.2.2]
    exact slice_from _ n c 1 (by have := HN0.out; omega) W
  refine wp_region_held_drew (S := fun W => W.cell? ⟨g, off, none⟩ = some (.int .u8 z)) (by kernel_rfl) hcV (fun hHeld => ?_)
  refine wpAnyH_take (i := 0) (oi := { dst := some 8, op := Op.move (Operand.tmp 0), type := 27, pos := "subopt.go:102", after := #[], guard := none }) (v := .slice (some ⟨g, off, none⟩) n c) rfl (by kernel_rfl) (by kernel_rfl) (by kernel_rfl) (fun _ _ _ h => h) (Or.inl ⟨by rfl, fun W hW => ?_⟩) hHeld ?_
  · have q1 := hW
    go_simp
  simp only [Act.put, List.setIfInBounds_toArray, List.set_cons_zero, List.set_cons_succ]
  refine wpAnyH_take (i := 1) (oi := { dst := some 9, op := Op.indexAddr 27 (Operand.tmp 8) (Operand.const (Value.int IntKind.i64 0)), type := 0, pos := "subopt.go:102", after := #[{ on := 0, ground := Ground.data }], guard := none }) (v := .pointer (some ⟨g, off, none⟩)) rfl (by kernel_rfl) (by kernel_rfl) (by kernel_rfl) (fun _ _ _ h => h) (Or.inl ⟨by rfl, fun W hW => ?_⟩) hHeld ?_
  · have q1 := hW
    go_simp
  simp only [Act.put, List.setIfInBounds_toArray, List.set_cons_zero, List.set_cons_succ]
  refine wpAnyH_take (i := 2) (oi := { dst := some 10, op := Op.load 5 (Operand.tmp 9), type := 5, pos := "subopt.go:102", after := #[{ on := 1, ground := Ground.data }], guard := none }) (v := .int .u8 z) rfl (by kernel_rfl) (by kernel_rfl) (by kernel_rfl) (fun _ _ _ h => h) (Or.inl ⟨by rfl, fun W hW => ?_⟩) hHeld ?_
  · have q1 := hW
    go_simp
  simp only [Act.put, List.setIfInBounds_toArray, List.set_cons_zero, List.set_cons_succ]
  refine wpAnyH_take (i := 3) (oi := { dst := some 11, op := Op.convert 5 3 (Operand.tmp 10), type := 3, pos := "subopt.go:102", after := #[{ on := 2, ground := Ground.data }], guard := none }) (v := .int .i64 z) rfl (by kernel_rfl) (by kernel_rfl) (by kernel_rfl) (fun _ _ _ h => h) (Or.inl ⟨by rfl, fun W hW => ?_⟩) hHeld ?_
  · have q1 := hW
    go_simp
  simp only [Act.put, List.setIfInBounds_toArray, List.set_cons_zero, List.set_cons_succ]
  refine wpAnyH_take (i := 4) (oi := { dst := some 12, op := Op.move (Operand.tmp 0), type := 27, pos := "subopt.go:102", after := #[], guard := none }) (v := .slice (some ⟨g, off, none⟩) n c) rfl (by kernel_rfl) (by kernel_rfl) (by kernel_rfl) (fun _ _ _ h => h) (Or.inl ⟨by rfl, fun W hW => ?_⟩) hHeld ?_
  · have q1 := hW
    go_simp
  simp only [Act.put, List.setIfInBounds_toArray, List.set_cons_zero, List.set_cons_succ]
  refine wpAnyH_take (i := 5) (oi := { dst := some 13, op := Op.slice 27 (Operand.tmp 12) (some (Operand.const (Value.int IntKind.i64 1))) none none, type := 27, pos := "subopt.go:102", after := #[{ on := 4, ground := Ground.data }], guard := none }) (v := .slice A1 n1 c1) rfl (by kernel_rfl) (by kernel_rfl) (by kernel_rfl) (fun _ _ _ h => h) (Or.inl ⟨by rfl, fun W hW => ?_⟩) hHeld ?_
  · have q1 := hW
    go_simp
  simp only [Act.put, List.setIfInBounds_toArray, List.set_cons_zero, List.set_cons_succ]
  refine wpAnyH_ready (rs := [6, 7]) (by kernel_rfl) (by simp) ?_
  refine AllReadyH.cons (o := { dst := some 14, op := Op.call { callee := Callee.value (Operand.func 37), args := #[Operand.tmp 11, Operand.tmp 13], argTypes := #[3, 27] }, type := 26, pos := "subopt.go:102", after := #[{ on := 3, ground := Ground.data }, { on := 5, ground := Ground.data }], guard := none }) rfl (fun K hK => ?_) (AllReadyH.cons (o := { dst := some 3, op := Op.alloc 26, type := 0, pos := "subopt.go:102", after := #[], guard := none }) rfl (fun K hK => ?_) AllReadyH.nil)
  · go_simp
    with_reducible refine (C.out V.drew (HRT.out.below (Below.refl V.heap.size V).drew (Nat.le_refl _))).mono ?_
    cases o with
    | none =>
      rintro e w3 ⟨rfl, hb3⟩
      have HB3 := keepd (bCall HB.out (noDrew hb3))
      clear hb3
      go_wp2_with fail
      exact ⟨rfl, rfl, HB3.out⟩
    | some X =>
      rintro e w3 ⟨A3, n3, c3, rfl, hn3, hr3, hb3⟩
      have hb3d := noDrew hb3
      have HB3 := keepd (bCall HB.out hb3d)
      have H3 := keepd (SR.call H1.out hb3d H1.out.lt)
      have HR3 := keepd hr3
      have HN3 := keepd hn3
      have hc3 : w3.cell? ⟨g, off, none⟩ = some (.int .u8 z) := (hb3d.cell (p := ⟨g, off, none⟩) hgV).trans hcV
      clear hb3 hr3 hn3 hb3d
      go_wp2_with fail
      refine hK.out _ _ hc3 (fun hHeld2 => ?_)
      clear hK K hHeld
      have hHeld := hHeld2
      clear hHeld2
      try simp only [Act.put, List.setIfInBounds_toArray, List.set_cons_zero, List.set_cons_succ]
      refine wpAnyH_ready (rs := [7]) (by kernel_rfl) (by simp) ?_
      refine AllReadyH.cons (o := { dst := some 3, op := Op.alloc 26, type := 0, pos := "subopt.go:102", after := #[], guard := none }) rfl (fun K hK => ?_) AllReadyH.nil
      go_simp
      have hc4 : (w3.alloc (.cells (sc 0 0 0 zM (.slice none 0 0)).toArray 26)).cell? ⟨g, off, none⟩ = some (.int .u8 z) := ((bAlloc (Below.refl w3.heap.size w3) _).cell (p := ⟨g, off, none⟩) (lt_of_cell3 hc3)).trans hc3
      refine hK.out _ _ hc4 (fun hHeld2 => ?_)
      clear hK K hHeld
      have hHeld := hHeld2
      clear hHeld2
      try simp only [Act.put, List.setIfInBounds_toArray, List.set_cons_zero, List.set_cons_succ]
      refine wpAnyH_ready (rs := [8]) (by kernel_rfl) (by simp) ?_
      refine AllReadyH.cons (o := { dst := none, op := Op.store 26 (Operand.tmp 3) (Operand.tmp 14), type := 0, pos := "subopt.go:102", after := #[{ on := 7, ground := Ground.data }, { on := 6, ground := Ground.data }, { on := 6, ground := Ground.chain }, { on := 0, ground := Ground.phase }, { on := 1, ground := Ground.phase }, { on := 2, ground := Ground.phase }, { on := 3, ground := Ground.phase }, { on := 4, ground := Ground.phase }, { on := 5, ground := Ground.phase }, { on := 6, ground := Ground.phase }, { on := 7, ground := Ground.phase }], guard := none }) rfl (fun K hK => ?_) AllReadyH.nil
      have a6 := isRow_new26 w3 0 0 0 zM nil_
      go_simp
      have hc5 : (w3.alloc (.cells (sc X.k X.m X.v X.M (.slice A3 n3 c3)).toArray 26)).cell? ⟨g, off, none⟩ = some (.int .u8 z) := ((bAlloc (Below.refl w3.heap.size w3) _).cell (p := ⟨g, off, none⟩) (lt_of_cell3 hc3)).trans hc3
      refine hK.out _ _ hc5 (fun hHeld2 => ?_)
      clear hK K hHeld
      have hHeld := hHeld2
      clear hHeld2
      try simp only [Act.put, List.setIfInBounds_toArray, List.set_cons_zero, List.set_cons_succ]
      refine wpAnyH_done (by kernel_rfl) ?_ _
      have H5 := keepd (SR.new 26 w3 (sc X.k X.m X.v X.M (.slice A3 n3 c3)))
      have H52 := keepd (SR.alloc H3.out (.cells (sc X.k X.m X.v X.M (.slice A3 n3 c3)).toArray 26))
      have HB5 := keepd (bAlloc HB3.out (.cells (sc X.k X.m X.v X.M (.slice A3 n3 c3)).toArray 26))
      have HR5 := keepd (HR3.out.at_ (bAlloc (Below.refl w3.heap.size w3) (.cells (sc X.k X.m X.v X.M (.slice A3 n3 c3)).toArray 26)))
      obtain ⟨w5, hw5⟩ : ∃ W, w3.alloc (.cells (sc X.k X.m X.v X.M (.slice A3 n3 c3)).toArray 26) = W := ⟨_, rfl⟩
      obtain ⟨g3, hg3⟩ : ∃ g, w3.heap.size = g := ⟨_, rfl⟩
      rw [hg3] at H5 ⊢
      rw [hw5] at H5 H52 HB5 HR5 ⊢
      clear hw5 hg3 H3 HB3 HR3 a6 hc3 hc4 hc5
      obtain ⟨a4, a5⟩ := SB.facts H5.out
      obtain ⟨p, hp⟩ : ∃ p, mayS X.k X.m X.v X.M X.L = p := ⟨_, rfl⟩
      have CK := keepd (scheck_any X.k X.m X.v X.M A3 X.L n3 c3 p w5 HN3.out HR5.out hp)
      have HP := keepd hp
      clear hp
      cases p
      · have hse : serr false = 1 := rfl
        rw [hse] at CK
        clear hse
        go_wp2_with fail
        with_reducible refine CK.out.mono ?_
        rintro e w6 ⟨rfl, hb6⟩
        have HB6 := keepd (bCall HB5.out hb6)
        clear hb6
        go_wp2_with fail
        with_reducible refine (need_no _).mono ?_
        rintro e w6 ⟨rfl, rfl⟩
        go_wp2_with fail
        refine ⟨rfl, ?_⟩
        rw [show Option.filter Sb.may (some X) = none from if_neg (by rw [show X.may = false from HP.out]; decide)]
        exact ⟨rfl, HB6.out⟩
      · have hse : serr true = 0 := rfl
        rw [hse] at CK
        clear hse
        go_wp2_with fail
        with_reducible refine CK.out.mono ?_
        rintro e w6 ⟨rfl, hb6⟩
        have HB6 := keepd (bCall HB5.out hb6)
        have H6 := keepd (SR.call H5.out hb6 H5.out.lt)
        have H62 := keepd (SR.call H52.out hb6 H52.out.lt)
        have HR6 := keepd (HR5.out.at_ hb6)
        clear hb6 a4 a5
        go_wp2_with fail
        with_reducible refine (need_yes _).mono ?_
        rintro e w6 ⟨rfl, rfl⟩
        obtain ⟨a4, a5⟩ := SB.facts H6.out
        obtain ⟨b4, b5⟩ := SB.facts H62.out
        go_wp2_with fail
        refine bodyPost_ret (results_s Try.results25 _ _ g0 _ _ _ _ _ rfl (SR.row H62.out _)) rfl ?_
        rw [show Option.filter Sb.may (some X) = some X from if_pos HP.out]
        exact ⟨A3, n3, c3, rfl, HN3.out, RdT.row HR6.out H62.out _, bRow HB6.out (by have := HG.out; omega) _⟩
  · go_simp
    obtain ⟨wA, hwA⟩ : ∃ W, (V.alloc (.cells (sc 0 0 0 zM (.slice none 0 0)).toArray 26)).drew = W := ⟨_, rfl⟩
    obtain ⟨g3, hg3⟩ : ∃ g3, V.heap.size = g3 := ⟨_, rfl⟩
    have hcA : ((V.alloc (.cells (sc 0 0 0 zM (.slice none 0 0)).toArray 26)).drew).cell? ⟨g, off, none⟩ = some (.int .u8 z) := ((bAlloc (Below.refl V.heap.size V) (.cells (sc 0 0 0 zM (.slice none 0 0)).toArray 26)).cell (p := ⟨g, off, none⟩) hgV).trans hcV
    have HBA := keepd (bAlloc HB.out (.cells (sc 0 0 0 zM (.slice none 0 0)).toArray 26)).drew
    have HA1' := keepd (SR.drew (SR.alloc H1.out (.cells (sc 0 0 0 zM (.slice none 0 0)).toArray 26)))
    have HA2 := keepd (SR.drew (SR.new 26 V (sc 0 0 0 zM (.slice none 0 0))))
    have HRA : Hid (Rd (V.alloc (.cells (sc 0 0 0 zM (.slice none 0 0)).toArray 26)).drew (V.alloc (.cells (sc 0 0 0 zM (.slice none 0 0)).toArray 26)).drew.heap.size A1 t c1) := HRT.out.at_ (bAlloc (Below.refl V.heap.size V) (.cells (sc 0 0 0 zM (.slice none 0 0)).toArray 26)).drew
    have HNE : Hid (g ≠ V.heap.size ∧ g0 ≠ V.heap.size) := ⟨Nat.ne_of_lt hgV, Nat.ne_of_lt H1.out.lt⟩
    have HZ0 : Hid (w.heap.size ≤ V.heap.size) := HB.out.size
    have hgA : g < (V.alloc (.cells (sc 0 0 0 zM (.slice none 0 0)).toArray 26)).drew.heap.size := Nat.lt_of_lt_of_le hgV (bAlloc (Below.refl V.heap.size V) (.cells (sc 0 0 0 zM (.slice none 0 0)).toArray 26)).drew.size
    rw [hg3] at HA2 HNE HZ0 ⊢
    rw [hwA] at hcA HBA HA1' HA2 HRA hgA ⊢
    clear hwA hg3
    refine hK.out _ _ hcA (fun hHeld2 => ?_)
    clear hK K hHeld
    have hHeld := hHeld2
    clear hHeld2
    try simp only [Act.put, List.setIfInBounds_toArray, List.set_cons_zero, List.set_cons_succ]
    refine wpAnyH_ready (rs := [6]) (by kernel_rfl) (by simp) ?_
    refine AllReadyH.cons (o := { dst := some 14, op := Op.call { callee := Callee.value (Operand.func 37), args := #[Operand.tmp 11, Operand.tmp 13], argTypes := #[3, 27] }, type := 26, pos := "subopt.go:102", after := #[{ on := 3, ground := Ground.data }, { on := 5, ground := Ground.data }], guard := none }) rfl (fun K hK => ?_) AllReadyH.nil
    go_simp
    with_reducible refine (C.out _ HRA.out).mono ?_
    cases o with
    | none =>
      rintro e w3 ⟨rfl, hb3⟩
      have HB3 := keepd (bCall HBA.out hb3)
      clear hb3
      go_wp2_with fail
      exact ⟨rfl, rfl, HB3.out⟩
    | some X =>
      rintro e w3 ⟨A3, n3, c3, rfl, hn3, hr3, hb3⟩
      have HB3 := keepd (bCall HBA.out hb3)
      have H3 : Hid (SB w3 g0 0 0 0 zM nil_) := SR.call HA1'.out hb3 HA1'.out.lt
      have H32 : Hid (SB w3 g3 0 0 0 zM nil_) := SR.call HA2.out hb3 HA2.out.lt
      have HR3 := keepd hr3
      have HN3 := keepd hn3
      have hc3 : w3.cell? ⟨g, off, none⟩ = some (.int .u8 z) := (hb3.cell (p := ⟨g, off, none⟩) hgA).trans hcA
      obtain ⟨a6, a7⟩ := SB.facts H32.out
      clear hb3 hr3 hn3 HBA HA1' HA2 HRA
      go_wp2_with fail
      refine hK.out _ _ hc3 (fun hHeld2 => ?_)
      clear hK K hHeld
      have hHeld := hHeld2
      clear hHeld2
      try simp only [Act.put, List.setIfInBounds_toArray, List.set_cons_zero, List.set_cons_succ]
      refine wpAnyH_ready (rs := [8]) (by kernel_rfl) (by simp) ?_
      refine AllReadyH.cons (o := { dst := none, op := Op.store 26 (Operand.tmp 3) (Operand.tmp 14), type := 0, pos := "subopt.go:102", after := #[{ on := 7, ground := Ground.data }, { on := 6, ground := Ground.data }, { on := 6, ground := Ground.chain }, { on := 0, ground := Ground.phase }, { on := 1, ground := Ground.phase }, { on := 2, ground := Ground.phase }, { on := 3, ground := Ground.phase }, { on := 4, ground := Ground.phase }, { on := 5, ground := Ground.phase }, { on := 6, ground := Ground.phase }, { on := 7, ground := Ground.phase }], guard := none }) rfl (fun K hK => ?_) AllReadyH.nil
      go_simp
      have hc5 : (w3.setRow g3 (sc X.k X.m X.v X.M (.slice A3 n3 c3)).toArray).cell? ⟨g, off, none⟩ = some (.int .u8 z) := by
        unfold World.cell?
        rw [setRow_other w3 g3 g _ HNE.out.1]
        exact hc3
      refine hK.out _ _ hc5 (fun hHeld2 => ?_)
      clear hK K hHeld
      have hHeld := hHeld2
      clear hHeld2
      try simp only [Act.put, List.setIfInBounds_toArray, List.set_cons_zero, List.set_cons_succ]
      refine wpAnyH_done (by kernel_rfl) ?_ _
      have H5 : Hid (SB (w3.setRow g3 (sc X.k X.m X.v X.M (.slice A3 n3 c3)).toArray) g3 X.k X.m X.v X.M (.slice A3 n3 c3)) := SR.row H32.out _
      have H52 : Hid (SB (w3.setRow g3 (sc X.k X.m X.v X.M (.slice A3 n3 c3)).toArray) g0 0 0 0 zM nil_) := SR.rowFar H3.out HNE.out.2 _
      have HB5 := keepd (bRow HB3.out (b := g3) HZ0.out (sc X.k X.m X.v X.M (.slice A3 n3 c3)).toArray)
      have HR5 := keepd (RdT.row HR3.out H32.out (sc X.k X.m X.v X.M (.slice A3 n3 c3)).toArray)
      obtain ⟨w5, hw5⟩ : ∃ W, w3.setRow g3 (sc X.k X.m X.v X.M (.slice A3 n3 c3)).toArray = W := ⟨_, rfl⟩
      rw [hw5] at H5 H52 HB5 HR5 ⊢
      clear hw5 H3 HB3 HR3 a6 a7 hc3 hc5
      obtain ⟨a4, a5⟩ := SB.facts H5.out
      obtain ⟨p, hp⟩ : ∃ p, mayS X.k X.m X.v X.M X.L = p := ⟨_, rfl⟩
      have CK := keepd (scheck_any X.k X.m X.v X.M A3 X.L n3 c3 p w5 HN3.out HR5.out hp)
      have HP := keepd hp
      clear hp
      cases p
      · have hse : serr false = 1 := rfl
        rw [hse] at CK
        clear hse
        go_wp2_with fail
        with_reducible refine CK.out.mono ?_
        rintro e w6 ⟨rfl, hb6⟩
        have HB6 := keepd (bCall HB5.out hb6)
        clear hb6
        go_wp2_with fail
        with_reducible refine (need_no _).mono ?_
        rintro e w6 ⟨rfl, rfl⟩
        go_wp2_with fail
        refine ⟨rfl, ?_⟩
        rw [show Option.filter Sb.may (some X) = none from if_neg (by rw [show X.may = false from HP.out]; decide)]
        exact ⟨rfl, HB6.out⟩
      · have hse : serr true = 0 := rfl
        rw [hse] at CK
        clear hse
        go_wp2_with fail
        with_reducible refine CK.out.mono ?_
        rintro e w6 ⟨rfl, hb6⟩
        have HB6 := keepd (bCall HB5.out hb6)
        have H6 := keepd (SR.call H5.out hb6 H5.out.lt)
        have H62 := keepd (SR.call H52.out hb6 H52.out.lt)
        have HR6 := keepd (HR5.out.at_ hb6)
        clear hb6 a4 a5
        go_wp2_with fail
        with_reducible refine (need_yes _).mono ?_
        rintro e w6 ⟨rfl, rfl⟩
        obtain ⟨a4, a5⟩ := SB.facts H6.out
        obtain ⟨b4, b5⟩ := SB.facts H62.out
        go_wp2_with fail
        refine bodyPost_ret (results_s Try.results25 _ _ g0 _ _ _ _ _ rfl (SR.row H62.out _)) rfl ?_
        rw [show Option.filter Sb.may (some X) = some X from if_pos HP.out]
        exact ⟨A3, n3, c3, rfl, HN3.out, RdT.row HR6.out H62.out _, bRow HB6.out (by have := HG.out; omega) _⟩

theorem read_any (A : Option Addr) (b : List UInt8) (n c : Nat) (w : World) (hn : n = b.length) (hr : Rd w w.heap.size A b c) : Calls Try.prog 25 #[.slice A n c] w (GotS w (getS b)) := by
  cases b with
  | nil =>
    subst hn
    exact read_0 A c w
  | cons x t =>
    obtain ⟨g, off, rfl, hgl, hc⟩ := hr.form (k := 0) (by simp)
    simp only [Nat.add_zero, List.getElem_cons_zero] at hc
    have hlen : n = t.length + 1 := by simpa using hn
    have hd := hr.drop 1 (by simp)
    rw [getS_cons]
    exact read_1 g off _ t n c w _ _ _ (by omega) hgl hc (wrap64_u8 x) ⟨rfl, rfl, rfl⟩ (by omega) hd _ rfl

end Go.Proofs.Ytflmplnampgflaa
