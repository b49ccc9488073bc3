/-
  The contract of the document's own Put. No conditions beyond those each theorem states.
-/
import Derived.Test.YtflmplnampgflaaO9
import Derived.Test.YtflmplnampgflaaS7
import Derived.Test.YtflmplnampgflaaM8
namespace Go.Proofs.Ytflmplnampgflaa
open Go.RowKit
set_option maxRecDepth 100000

attribute [local go_sem ↓] ex_ld23 ex_st23 ex_al23 ex_bu23 ex_eq23 ex_ne23 ex_ld26 ex_st26 ex_al26 ex_ld23o ex_st23o ex_bu26 ex_bu26k ex_bu26m ex_bu26l ex_bu26v ex_bu26w ex_eq29 ex_ne29
attribute [local go_sem] ptrB_at okPtr_at aggC_at agg32 agg36 isM_at eqV_m isRow_new isRow_new26 World.setRow_alloc_new ptr3_at okPtr3_at cutM_at putM_at isI_at isL_at bK_at bKM_at bKL_at bKVM_at bKV_at isV_at toV_at

theorem rsput_1 (k m v : Int) (M : Mk) (A : Option Addr) (n c : Nat) (w : World) (q1 : (k == 1) = true) (q : 0 ≤ m ∧ m ≤ 31) :
    Calls Try.prog 20 #[sv k m v M (.slice A n c)] w (GotL w [1, u8 m]) := by
  go_enter Try.func20, Try.ntmps20
  go_upto_region 1 with fail
  generalize hV : w.alloc (.cells (sc k m v M (.slice A n c)).toArray 26) = w2
  obtain ⟨h1, h2, h3⟩ := one_new _ _ _ _ hV
  obtain ⟨g, hg⟩ : ∃ g, w.heap.size = g := ⟨_, rfl⟩
  rw [hg] at h1
  rw [hg]
  clear hV hg h3
  have H2 := keepd h1
  have HB := keepd h2
  clear h1 h2
  obtain ⟨a0, a1, a2, a3⟩ := SB.cells H2.out
  obtain ⟨a4, a5⟩ := SB.facts H2.out
  have hw : IntKind.u8.wrap m = m := conv_u8 (by omega)
  have hu : ((u8 m).toNat : Int) = m := u8_back q.1 (by omega)
  have HR := keepd (new_rd w2 #[.int .u8 1, .int .u8 m] [1, u8 m] 2 (by simp only [List.map_cons, List.map_nil, bv, hu]; rfl) rfl (by omega))
  have HB2 := keepd (bAlloc HB.out (.cells #[.int .u8 1, .int .u8 m] 5))
  clear hu
  go_wp2_with fail
  go_ret
  exact ⟨_, 2, rfl, HR.out, HB2.out⟩

set_option maxHeartbeats 1000000 in
theorem rsput_3 (k m v : Int) (M : Mk) (A : Option Addr) (L : List Tr) (n c : Nat) (w : World) (hn : n = L.length) (hl : n ≤ 200) (h : RdT w A L c) (q1 : (k == 1) = false) (q2 : (k == 2) = false) (q : allT L = true) :
    Calls Try.prog 20 #[sv k m v M (.slice A n c)] w (GotL w (3 :: liesL L)) := by
  have HN := keepd hn
  have H := keepd h
  have HL := keepd hl
  clear hn h hl
  go_enter Try.func20, Try.ntmps20
  go_upto_region 1 with fail
  generalize hV : w.alloc (.cells (sc k m v M (.slice A n c)).toArray 26) = w2
  obtain ⟨h1, h2, h3⟩ := one_new _ _ _ _ hV
  obtain ⟨g, hg⟩ : ∃ g, w.heap.size = g := ⟨_, rfl⟩
  rw [hg] at h1
  rw [hg]
  clear hV hg h3
  have H2 := keepd h1
  have HB := keepd h2
  clear h1 h2
  obtain ⟨a0, a1, a2, a3⟩ := SB.cells H2.out
  obtain ⟨a4, a5⟩ := SB.facts H2.out
  obtain ⟨p1, p2⟩ := put_yes q
  have CP := keepd (rput_any A L n c (liesL L) (liesL L).length true w2 HN.out HL.out (H.out.at_ HB.out) p1 rfl q)
  have HLn : Hid ((liesL L).length ≤ 600) := by show _ ≤ _; rw [liesL_len, ← HN.out]; have := HL.out; omega
  obtain ⟨PL, hPL⟩ : ∃ PL, liesL L = PL := ⟨_, rfl⟩
  rw [hPL] at CP HLn
  have HPL := keepd hPL
  obtain ⟨zl, hzl⟩ : ∃ zl, PL.length = zl := ⟨_, rfl⟩
  rw [hzl] at CP
  have HZ := keepd hzl
  clear hzl
  clear p1 p2 q hPL
  go_wp2_with fail
  with_reducible refine CP.out.mono ?_
  rintro e w3 ⟨A3, c3, rfl, hr3, hb3⟩
  have HR3 := keepd hr3
  have HB3 := keepd (bCall HB.out hb3)
  have HN3 := keepd HB3.out.size
  clear hr3 hb3 CP
  have HO := keepd (own_new w3 w.heap.size #[.int .u8 3] [3] 1 rfl rfl (by omega) HN3.out)
  have HRn := keepd (HR3.out.at_ (bAlloc (Below.refl w3.heap.size w3) (.cells #[.int .u8 3] 5)))
  have HBn := keepd (bAlloc HB3.out (.cells #[.int .u8 3] 5))
  go_wp2_with (at_builtin; refine wpList_app _ rfl (.tmp 29) (.tmp 30) rfl w.heap.size _ [3] rfl HO.out _ A3 zl c3 PL rfl HZ.out.symm HRn.out ?_ ?_ ?_)
  · have := HLn.out
    simp only [List.length_cons, List.length_nil]
    omega
  · exact HBn.out.size
  intro vb wb ho hg hat
  have hgb := grown_below HO.out hg HBn.out.size
  have HB4 := keepd (HBn.out.trans hgb)
  obtain ⟨Bv, dv, rfl, hr⟩ := ho.rd
  have HR4 := keepd hr
  clear ho hg hat hgb hr HO HRn HBn
  go_wp2_with fail
  go_ret
  exact ⟨Bv, dv, by rw [HPL.out]; rfl, by rw [HPL.out]; exact HR4.out, HB4.out⟩

set_option maxHeartbeats 2000000 in
theorem rsput_2 (k m v : Int) (M : Mk) (A : Option Addr) (n c : Nat) (w : World) (q1 : (k == 1) = false) (q2 : (k == 2) = true) (q : 251 ≤ v ∧ v ≤ 254) :
    Calls Try.prog 20 #[sv k m v M (.slice A n c)] w (GotL w (u8 v :: 2 :: trimM M)) := by
  go_enter Try.func20, Try.ntmps20
  go_upto_region 1 with fail
  generalize hV : w.alloc (.cells (sc k m v M (.slice A n c)).toArray 26) = w2
  obtain ⟨h1, h2, h3⟩ := one_new _ _ _ _ hV
  obtain ⟨g, hg⟩ : ∃ g, w.heap.size = g := ⟨_, rfl⟩
  rw [hg] at h1
  rw [hg]
  clear hV hg h3
  have H2 := keepd h1
  have HB := keepd h2
  clear h1 h2
  obtain ⟨a0, a1, a2, a3⟩ := SB.cells H2.out
  obtain ⟨a4, a5⟩ := SB.facts H2.out
  have hw : IntKind.u8.wrap v = v := conv_u8 (by omega)
  have hu : ((u8 v).toNat : Int) = v := u8_back (by omega) (by omega)
  have HCS : Hid (#[Value.int .u8 v, Value.int .u8 2] = ([u8 v, 2].map bv).toArray) := by
    show _ = _
    simp only [List.map_cons, List.map_nil, bv, hu]
    rfl
  have CP := keepd (refPut_any M)
  clear hu q
  go_upto_region 4 with fail
  refine wp_region_held_drew (S := fun W => W.cell? ⟨g, 2, none⟩ = some (.int .i64 v) ∧ rowOf W g = (sc k m v M (.slice A n c)).toArray ∧ isRow W 26 g 36 = true) (by kernel_rfl) ⟨a2, a4, a5⟩ (fun hHeld => ?_)
  refine wpAnyH_take (i := 0) (oi := { dst := some 15, op := Op.fieldAddr 26 (Operand.tmp 1) 2, type := 0, pos := "ref.go:37", after := #[], guard := none }) (v := .pointer (some ⟨g, 2, none⟩)) rfl (by kernel_rfl) (by kernel_rfl) (by kernel_rfl) (fun _ _ _ h => h) (Or.inl ⟨by rfl, fun W hW => ?_⟩) hHeld ?_
  · obtain ⟨q1, q2, q3⟩ := hW
    go_simp
  simp only [Act.put, List.setIfInBounds_toArray, List.set_cons_zero, List.set_cons_succ]
  refine wpAnyH_take (i := 1) (oi := { dst := some 16, op := Op.load 3 (Operand.tmp 15), type := 3, pos := "ref.go:37", after := #[{ on := 0, ground := Ground.data }], guard := none }) (v := .int .i64 v) rfl (by kernel_rfl) (by kernel_rfl) (by kernel_rfl) (fun _ _ _ h => h) (Or.inl ⟨by rfl, fun W hW => ?_⟩) hHeld ?_
  · obtain ⟨q1, q2, q3⟩ := hW
    go_simp
  simp only [Act.put, List.setIfInBounds_toArray, List.set_cons_zero, List.set_cons_succ]
  refine wpAnyH_take (i := 2) (oi := { dst := some 17, op := Op.convert 3 5 (Operand.tmp 16), type := 5, pos := "ref.go:37", after := #[{ on := 1, ground := Ground.data }], guard := none }) (v := .int .u8 v) rfl (by kernel_rfl) (by kernel_rfl) (by kernel_rfl) (fun _ _ _ h => h) (Or.inl ⟨by rfl, fun W hW => ?_⟩) hHeld ?_
  · obtain ⟨q1, q2, q3⟩ := hW
    go_simp
  simp only [Act.put, List.setIfInBounds_toArray, List.set_cons_zero, List.set_cons_succ]
  refine wpAnyH_take (i := 4) (oi := { dst := some 19, op := Op.fieldAddr 26 (Operand.tmp 1) 3, type := 0, pos := "ref.go:37", after := #[], guard := none }) (v := .pointer (some ⟨g, 3, none⟩)) rfl (by kernel_rfl) (by kernel_rfl) (by kernel_rfl) (fun _ _ _ h => h) (Or.inl ⟨by rfl, fun W hW => ?_⟩) hHeld ?_
  · obtain ⟨q1, q2, q3⟩ := hW
    go_simp
  simp only [Act.put, List.setIfInBounds_toArray, List.set_cons_zero, List.set_cons_succ]
  refine wpAnyH_take (i := 5) (oi := { dst := some 20, op := Op.load 23 (Operand.tmp 19), type := 23, pos := "ref.go:37", after := #[{ on := 4, ground := Ground.data }], guard := none }) (v := mv M) rfl (by kernel_rfl) (by kernel_rfl) (by kernel_rfl) (fun _ _ _ h => h) (Or.inl ⟨by rfl, fun W hW => ?_⟩) hHeld ?_
  · obtain ⟨q1, q2, q3⟩ := hW
    go_simp
  simp only [Act.put, List.setIfInBounds_toArray, List.set_cons_zero, List.set_cons_succ]
  refine wpAnyH_ready (rs := [3, 6]) (by kernel_rfl) (by simp) ?_
  refine AllReadyH.cons (o := { dst := some 18, op := Op.buildSlice 27 2 #[(0, Operand.tmp 17), (1, Operand.const (Value.int IntKind.u8 2))], type := 27, pos := "ref.go:37", after := #[{ on := 2, ground := Ground.data }], guard := none }) rfl (fun K hK => ?_) (AllReadyH.cons (o := { dst := some 21, op := Op.call { callee := Callee.value (Operand.func 33), args := #[Operand.tmp 20], argTypes := #[23] }, type := 27, pos := "ref.go:37", after := #[{ on := 5, ground := Ground.data }], guard := none }) rfl (fun K hK => ?_) AllReadyH.nil)
  · go_simp
    have HO := keepd (own_new w2.drew w.heap.size #[.int .u8 v, .int .u8 2] [u8 v, 2] 2 HCS.out rfl (by omega) HB.out.size)
    have HBn := keepd (bAlloc HB.out.drew (.cells #[.int .u8 v, .int .u8 2] 5))
    have HSn := keepd (SR.alloc (SR.drew H2.out) (.cells #[.int .u8 v, .int .u8 2] 5))
    have HSd : Hid (SB w2.drew g k m v M (.slice A n c)) := SR.drew H2.out
    refine hK.out _ _ (S0 HSn.out) (fun hHeld2 => ?_)
    clear hK K hHeld
    have hHeld := hHeld2
    clear hHeld2
    try simp only [Act.put, List.setIfInBounds_toArray, List.set_cons_zero, List.set_cons_succ]
    refine wpAnyH_ready (rs := [6]) (by kernel_rfl) (by simp) ?_
    refine AllReadyH.cons (o := { dst := some 21, op := Op.call { callee := Callee.value (Operand.func 33), args := #[Operand.tmp 20], argTypes := #[23] }, type := 27, pos := "ref.go:37", after := #[{ on := 5, ground := Ground.data }], guard := none }) rfl (fun K hK => ?_) AllReadyH.nil
    go_simp
    with_reducible refine (CP.out _).mono ?_
    rintro e w3 ⟨A3, c3, rfl, hr3, hb3⟩
    have HR3 := keepd hr3
    have HO3 := keepd (HO.out.below hb3)
    have HB3 := keepd (bCall HBn.out hb3)
    have HS3 : Hid (SB w3 g k m v M (.slice A n c)) := SR.call HSn.out hb3 HSn.out.lt
    clear hr3 hb3 HO HBn HSn
    go_wp2_with fail
    refine hK.out _ _ (S0 HS3.out) (fun hHeld2 => ?_)
    clear hK K hHeld
    have hHeld := hHeld2
    clear hHeld2
    try simp only [Act.put, List.setIfInBounds_toArray, List.set_cons_zero, List.set_cons_succ]
    refine wpAnyH_ready (rs := [7]) (by kernel_rfl) (by simp) ?_
    refine AllReadyH.cons (o := { dst := some 22, op := Op.call { callee := Callee.builtin Builtin.append, args := #[Operand.tmp 18, Operand.tmp 21], argTypes := #[27, 27] }, type := 27, pos := "ref.go:37", after := #[{ on := 3, ground := Ground.data }, { on := 6, ground := Ground.data }, { on := 6, ground := Ground.chain }], guard := none }) rfl (fun K hK => ?_) AllReadyH.nil
    refine step_app _ rfl (.tmp 18) (.tmp 21) rfl w.heap.size _ [u8 v, 2] rfl HO3.out _ A3 (trimM M).length c3 (trimM M) rfl rfl HR3.out ?_ HB3.out.size ?_
    · rw [trimM_len]
      have := trimN_le M
      simp only [List.length_cons, List.length_nil]
      omega
    intro vb wb ho hg hat
    have hgb := grown_below HO3.out hg HB3.out.size
    have HB4 := keepd (HB3.out.trans hgb)
    have hne : some g ≠ Value.ownBlock (.slice (some ⟨w2.drew.heap.size, 0, none⟩) 2 2) := fun e => by
      injection e with e
      have h1 := SR.lt HSd.out
      have h2 : g = w2.drew.heap.size := e
      omega
    have H5 := keepd ((hg.block g (SR.lt HS3.out) hne).trans HS3.out : SB wb g k m v M (.slice A n c))
    obtain ⟨Bv, dv, rfl, hr⟩ := ho.rd
    have HR4 := keepd hr
    clear ho hg hat hgb hr HO3 HR3 HB3 HS3 hne
    refine hK.out _ _ (S0 H5.out) (fun hHeld2 => ?_)
    clear hK K hHeld
    have hHeld := hHeld2
    clear hHeld2
    try simp only [Act.put, List.setIfInBounds_toArray, List.set_cons_zero, List.set_cons_succ]
    refine wpAnyH_take (i := 8) (oi := { dst := some 2, op := Op.assign (Operand.tmp 22), type := 27, pos := "ref.go:37", after := #[{ on := 7, ground := Ground.data }, { on := 7, ground := Ground.chain }, { on := 0, ground := Ground.phase }, { on := 1, ground := Ground.phase }, { on := 2, ground := Ground.phase }, { on := 3, ground := Ground.phase }, { on := 4, ground := Ground.phase }, { on := 5, ground := Ground.phase }, { on := 6, ground := Ground.phase }, { on := 7, ground := Ground.phase }], guard := none }) (v := .slice Bv ([u8 v, 2] ++ trimM M).length dv) rfl (by kernel_rfl) (by kernel_rfl) (by kernel_rfl) (fun _ _ _ h => h) (Or.inl ⟨by rfl, fun W hW => ?_⟩) hHeld ?_
    · obtain ⟨q1, q2, q3⟩ := hW
      go_simp
    simp only [Act.put, List.setIfInBounds_toArray, List.set_cons_zero, List.set_cons_succ]
    refine wpAnyH_done (by kernel_rfl) ?_ _
    go_wp2_with fail
    go_ret
    exact ⟨Bv, dv, rfl, HR4.out, HB4.out⟩
  · go_simp
    with_reducible refine (CP.out _).mono ?_
    rintro e w3 ⟨A3, c3, rfl, hr3, hb3⟩
    have HB2 := keepd (bCall HB.out (noDrew hb3))
    have HS2 : Hid (SB w3 g k m v M (.slice A n c)) := SR.call (SR.drew H2.out) hb3 (SR.drew H2.out).lt
    have HR2 := keepd hr3
    clear hr3 hb3
    go_wp2_with fail
    refine hK.out _ _ (S0 HS2.out) (fun hHeld2 => ?_)
    clear hK K hHeld
    have hHeld := hHeld2
    clear hHeld2
    try simp only [Act.put, List.setIfInBounds_toArray, List.set_cons_zero, List.set_cons_succ]
    refine wpAnyH_ready (rs := [3]) (by kernel_rfl) (by simp) ?_
    refine AllReadyH.cons (o := { dst := some 18, op := Op.buildSlice 27 2 #[(0, Operand.tmp 17), (1, Operand.const (Value.int IntKind.u8 2))], type := 27, pos := "ref.go:37", after := #[{ on := 2, ground := Ground.data }], guard := none }) rfl (fun K hK => ?_) AllReadyH.nil
    go_simp
    have HO3 := keepd (own_new w3 w.heap.size #[.int .u8 v, .int .u8 2] [u8 v, 2] 2 HCS.out rfl (by omega) HB2.out.size)
    have HB3 := keepd (bAlloc HB2.out (.cells #[.int .u8 v, .int .u8 2] 5))
    have HS3 : Hid (SB (w3.alloc (.cells #[.int .u8 v, .int .u8 2] 5)) g k m v M (.slice A n c)) := SR.alloc HS2.out _
    have HR3 := keepd (HR2.out.at_ (bAlloc (Below.refl w3.heap.size w3) (.cells #[.int .u8 v, .int .u8 2] 5)))
    refine hK.out _ _ (S0 HS3.out) (fun hHeld2 => ?_)
    clear hK K hHeld
    have hHeld := hHeld2
    clear hHeld2
    try simp only [Act.put, List.setIfInBounds_toArray, List.set_cons_zero, List.set_cons_succ]
    refine wpAnyH_ready (rs := [7]) (by kernel_rfl) (by simp) ?_
    refine AllReadyH.cons (o := { dst := some 22, op := Op.call { callee := Callee.builtin Builtin.append, args := #[Operand.tmp 18, Operand.tmp 21], argTypes := #[27, 27] }, type := 27, pos := "ref.go:37", after := #[{ on := 3, ground := Ground.data }, { on := 6, ground := Ground.data }, { on := 6, ground := Ground.chain }], guard := none }) rfl (fun K hK => ?_) AllReadyH.nil
    refine step_app _ rfl (.tmp 18) (.tmp 21) rfl w.heap.size _ [u8 v, 2] rfl HO3.out _ A3 (trimM M).length c3 (trimM M) rfl rfl HR3.out ?_ HB3.out.size ?_
    · rw [trimM_len]
      have := trimN_le M
      simp only [List.length_cons, List.length_nil]
      omega
    intro vb wb ho hg hat
    have hgb := grown_below HO3.out hg HB3.out.size
    have HB4 := keepd (HB3.out.trans hgb)
    have hne : some g ≠ Value.ownBlock (.slice (some ⟨w3.heap.size, 0, none⟩) 2 2) := fun e => by
      injection e with e
      have h1 := SR.lt HS2.out
      have h2 : g = w3.heap.size := e
      omega
    have H5 := keepd ((hg.block g (SR.lt HS3.out) hne).trans HS3.out : SB wb g k m v M (.slice A n c))
    obtain ⟨Bv, dv, rfl, hr⟩ := ho.rd
    have HR4 := keepd hr
    clear ho hg hat hgb hr HO3 HR3 HB3 HS3 hne
    refine hK.out _ _ (S0 H5.out) (fun hHeld2 => ?_)
    clear hK K hHeld
    have hHeld := hHeld2
    clear hHeld2
    try simp only [Act.put, List.setIfInBounds_toArray, List.set_cons_zero, List.set_cons_succ]
    refine wpAnyH_take (i := 8) (oi := { dst := some 2, op := Op.assign (Operand.tmp 22), type := 27, pos := "ref.go:37", after := #[{ on := 7, ground := Ground.data }, { on := 7, ground := Ground.chain }, { on := 0, ground := Ground.phase }, { on := 1, ground := Ground.phase }, { on := 2, ground := Ground.phase }, { on := 3, ground := Ground.phase }, { on := 4, ground := Ground.phase }, { on := 5, ground := Ground.phase }, { on := 6, ground := Ground.phase }, { on := 7, ground := Ground.phase }], guard := none }) (v := .slice Bv ([u8 v, 2] ++ trimM M).length dv) rfl (by kernel_rfl) (by kernel_rfl) (by kernel_rfl) (fun _ _ _ h => h) (Or.inl ⟨by rfl, fun W hW => ?_⟩) hHeld ?_
    · obtain ⟨q1, q2, q3⟩ := hW
      go_simp
    simp only [Act.put, List.setIfInBounds_toArray, List.set_cons_zero, List.set_cons_succ]
    refine wpAnyH_done (by kernel_rfl) ?_ _
    go_wp2_with fail
    go_ret
    exact ⟨Bv, dv, rfl, HR4.out, HB4.out⟩

theorem rsput_any (k m v : Int) (M : Mk) (A : Option Addr) (L : List Tr) (n c : Nat) (P : List UInt8) (w : World) (hn : n = L.length) (hl : n ≤ 200) (h : RdT w A L c) (hr : mayS k m v M L = true) (hP : putS k m v M L = P) :
    Calls Try.prog 20 #[sv k m v M (.slice A n c)] w (GotL w P) := by
  subst hP
  rcases may_k hr with q | q | q
  · have := rsput_1 k m v M A n c w (by rw [q]; rfl) (may_k1 q hr).1
    simpa [putS, q] using this
  · have := rsput_2 k m v M A n c w (by rw [q]; rfl) (by rw [q]; rfl) (may_k2 q hr).2.1
    simpa [putS, q] using this
  · have := rsput_3 k m v M A L n c w hn hl h (by rw [q]; rfl) (by rw [q]; rfl) (may_k3 q hr).2.2.2.2
    simpa [putS, q] using this

end Go.Proofs.Ytflmplnampgflaa
