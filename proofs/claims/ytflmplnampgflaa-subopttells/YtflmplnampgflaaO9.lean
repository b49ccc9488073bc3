/-
  The contract of Put. No conditions beyond those each theorem states.
-/
import Derived.Test.YtflmplnampgflaaO8
import Derived.Test.YtflmplnampgflaaM6
namespace Go.Proofs.Ytflmplnampgflaa
open Go.RowKit
set_option maxRecDepth 100000

attribute [local go_sem ↓] ex_ld23 ex_st23 ex_al23 ex_bu23 ex_eq23 ex_ne23 ex_ld26 ex_st26 ex_al26 ex_ld23o ex_st23o ex_bu26 ex_bu26k ex_bu26m ex_bu26l ex_bu26v ex_bu26w ex_eq29 ex_ne29
attribute [local go_sem] ptrB_at okPtr_at aggC_at agg32 agg36 isM_at eqV_m isRow_new isRow_new26 World.setRow_alloc_new ptr3_at okPtr3_at cutM_at putM_at isI_at isL_at bK_at bKM_at bKL_at bKVM_at bKV_at isV_at toV_at

/-- The octets of what may be. -/
def putS (k m v : Int) (M : Mk) (L : List Tr) : List UInt8 := if k = 1 then [1, u8 m] else if k = 2 then u8 v :: 2 :: trimM M else 3 :: liesL L
/-- Octets and an error answered. -/
def PutAns (w : World) (P : List UInt8) (er : Int) (e : Ending) (w' : World) : Prop :=
  ∃ A z c, e = .returned (.tuple #[.slice A z c, .int .i64 er]) ∧ z = P.length ∧ Rd w' w'.heap.size A P c ∧ Below w.heap.size w w'

theorem own_new (w : World) (base : Nat) (cs : Array Value) (l : List UInt8) (n : Nat) (h : cs = (l.map bv).toArray) (hn : l.length = n) (hl : n ≤ 1000) (hb : base ≤ w.heap.size) : Own (w.alloc (.cells cs 5)) base (.slice (some ⟨w.heap.size, 0, none⟩) n n) l := by
  subst h hn
  exact ⟨by simp, .inr ⟨w.heap.size, l.length, (l.map bv).toArray, rfl, hb, heap_alloc_new w _, Nat.le_refl _, by unfold maxLen; omega, by simp, by simp [List.take_of_length_le]⟩⟩

theorem sput_no (k m v : Int) (M : Mk) (A : Option Addr) (L : List Tr) (n c : Nat) (w : World) (hn : n = L.length) (hl : n ≤ 200) (h : RdT w A L c) (hm : mayS k m v M L = false) :
    Calls Try.prog 11 #[sv k m v M (.slice A n c)] w (PutAns w [] 1) := by
  have HN := keepd hn
  have H := keepd h
  have HM := keepd hm
  have HL := keepd hl
  clear hn h hm hl
  go_enter Try.func11, Try.ntmps11
  go_upto_region 1 with fail
  generalize hV : w.alloc (.cells (sc k m v M (.slice A n c)).toArray 26) = V
  obtain ⟨h1, h2, h3⟩ := one_new _ _ _ _ hV
  obtain ⟨g, hg⟩ : ∃ g, w.heap.size = g := ⟨_, rfl⟩
  rw [hg] at h1
  rw [hg]
  have HG := keepd hg
  clear hV hg h3
  obtain ⟨a4, a5⟩ := SB.facts h1
  have H1 := keepd h1
  have HB0 := keepd h2
  clear h1 h2
  have CK := keepd (scheck_any k m v M A L n c false V HN.out (H.out.at_ HB0.out) HM.out)
  have hse : serr false = 1 := rfl
  rw [hse] at CK
  clear hse
  go_wp2_with fail
  with_reducible refine CK.out.mono ?_
  rintro e w2 ⟨rfl, hb⟩
  have HB := keepd (bCall HB0.out hb)
  have H2 := keepd (SR.call H1.out hb H1.out.lt)
  clear hb CK a4 a5 HB0 H1
  obtain ⟨a0, a1, a2, a3⟩ := SB.cells H2.out
  obtain ⟨a4, a5⟩ := SB.facts H2.out
  go_wp2_with fail
  go_returns
  exact ⟨none, 0, 0, rfl, rfl, Rd.nil _ _, HB.out⟩

theorem sput_1 (k m v : Int) (M : Mk) (A : Option Addr) (L : List Tr) (n c : Nat) (w : World) (hn : n = L.length) (hl : n ≤ 200) (h : RdT w A L c) (hm : mayS k m v M L = true) (q1 : (k == 1) = true) (q : 0 ≤ m ∧ m ≤ 31):
    Calls Try.prog 11 #[sv k m v M (.slice A n c)] w (PutAns w [1, u8 m] 0) := by
  have HN := keepd hn
  have H := keepd h
  have HM := keepd hm
  have HL := keepd hl
  clear hn h hm hl
  go_enter Try.func11, Try.ntmps11
  go_upto_region 1 with fail
  generalize hV : w.alloc (.cells (sc k m v M (.slice A n c)).toArray 26) = V
  obtain ⟨h1, h2, h3⟩ := one_new _ _ _ _ hV
  obtain ⟨g, hg⟩ : ∃ g, w.heap.size = g := ⟨_, rfl⟩
  rw [hg] at h1
  rw [hg]
  have HG := keepd hg
  clear hV hg h3
  obtain ⟨a4, a5⟩ := SB.facts h1
  have H1 := keepd h1
  have HB0 := keepd h2
  clear h1 h2
  have CK := keepd (scheck_any k m v M A L n c true V HN.out (H.out.at_ HB0.out) HM.out)
  have hse : serr true = 0 := rfl
  rw [hse] at CK
  clear hse
  go_wp2_with fail
  with_reducible refine CK.out.mono ?_
  rintro e w2 ⟨rfl, hb⟩
  have HB := keepd (bCall HB0.out hb)
  have H2 := keepd (SR.call H1.out hb H1.out.lt)
  clear hb CK a4 a5 HB0 H1
  obtain ⟨a0, a1, a2, a3⟩ := SB.cells H2.out
  obtain ⟨a4, a5⟩ := SB.facts H2.out
  have hw : IntKind.u8.wrap m = m := conv_u8 (by omega)
  have hu : ((u8 m).toNat : Int) = m := u8_back q.1 (by omega)
  have HR := keepd (new_rd w2 #[.int .u8 1, .int .u8 m] [1, u8 m] 2 (by simp only [List.map_cons, List.map_nil, bv, hu]; rfl) rfl (by omega))
  have HB2 := keepd (bAlloc HB.out (.cells #[.int .u8 1, .int .u8 m] 5))
  clear hu
  go_wp2_with fail
  go_returns
  exact ⟨_, 2, 2, rfl, rfl, HR.out, HB2.out⟩

set_option maxHeartbeats 1000000 in
theorem sput_3 (k m v : Int) (M : Mk) (A : Option Addr) (L : List Tr) (n c : Nat) (w : World) (hn : n = L.length) (hl : n ≤ 200) (h : RdT w A L c) (hm : mayS k m v M L = true) (q1 : (k == 1) = false) (q2 : (k == 2) = false) (q : allT L = true):
    Calls Try.prog 11 #[sv k m v M (.slice A n c)] w (PutAns w (3 :: liesL L) 0) := by
  have HN := keepd hn
  have H := keepd h
  have HM := keepd hm
  have HL := keepd hl
  clear hn h hm hl
  go_enter Try.func11, Try.ntmps11
  go_upto_region 1 with fail
  generalize hV : w.alloc (.cells (sc k m v M (.slice A n c)).toArray 26) = V
  obtain ⟨h1, h2, h3⟩ := one_new _ _ _ _ hV
  obtain ⟨g, hg⟩ : ∃ g, w.heap.size = g := ⟨_, rfl⟩
  rw [hg] at h1
  rw [hg]
  have HG := keepd hg
  clear hV hg h3
  obtain ⟨a4, a5⟩ := SB.facts h1
  have H1 := keepd h1
  have HB0 := keepd h2
  clear h1 h2
  have CK := keepd (scheck_any k m v M A L n c true V HN.out (H.out.at_ HB0.out) HM.out)
  have hse : serr true = 0 := rfl
  rw [hse] at CK
  clear hse
  go_wp2_with fail
  with_reducible refine CK.out.mono ?_
  rintro e w2 ⟨rfl, hb⟩
  have HB := keepd (bCall HB0.out hb)
  have H2 := keepd (SR.call H1.out hb H1.out.lt)
  clear hb CK a4 a5 HB0 H1
  obtain ⟨a0, a1, a2, a3⟩ := SB.cells H2.out
  obtain ⟨a4, a5⟩ := SB.facts H2.out
  obtain ⟨p1, p2⟩ := put_yes q
  have CP := keepd (tput_any A L n c (liesL L) (liesL L).length 0 w2 HN.out HL.out (H.out.at_ HB.out) p1 rfl p2)
  have HLn : Hid ((liesL L).length ≤ 600) := by show _ ≤ _; rw [liesL_len, ← HN.out]; have := HL.out; omega
  obtain ⟨PL, hPL⟩ : ∃ PL, liesL L = PL := ⟨_, rfl⟩
  rw [hPL] at CP HLn
  have HPL := keepd hPL
  obtain ⟨zl, hzl⟩ : ∃ zl, PL.length = zl := ⟨_, rfl⟩
  rw [hzl] at CP
  have HZ := keepd hzl
  clear hzl
  clear p1 p2 q hPL
  go_wp2_with fail
  with_reducible refine CP.out.mono ?_
  rintro e w3 ⟨A3, c3, rfl, hr3, hb3⟩
  have HR3 := keepd hr3
  have HB3 := keepd (bCall HB.out hb3)
  have HN3 := keepd HB3.out.size
  clear hr3 hb3 CP
  have HO := keepd (own_new w3 w.heap.size #[.int .u8 3] [3] 1 rfl rfl (by omega) HN3.out)
  have HRn := keepd (HR3.out.at_ (bAlloc (Below.refl w3.heap.size w3) (.cells #[.int .u8 3] 5)))
  have HBn := keepd (bAlloc HB3.out (.cells #[.int .u8 3] 5))
  go_wp2_with (at_builtin; refine wpList_app _ rfl (.tmp 20) (.tmp 21) rfl w.heap.size _ [3] rfl HO.out _ A3 zl c3 PL rfl HZ.out.symm HRn.out ?_ ?_ ?_)
  · have := HLn.out
    simp only [List.length_cons, List.length_nil]
    omega
  · exact HBn.out.size
  intro vb wb ho hg hat
  have hgb := grown_below HO.out hg HBn.out.size
  have HB4 := keepd (HBn.out.trans hgb)
  obtain ⟨Bv, dv, rfl, hr⟩ := ho.rd
  have HR4 := keepd hr
  clear ho hg hat hgb hr HO HRn HBn
  go_wp2_with fail
  go_returns
  exact ⟨Bv, _, dv, rfl, by rw [HPL.out], by rw [HPL.out]; exact HR4.out, HB4.out⟩

theorem S0 {W : World} {g : Nat} {k m v : Int} {M : Mk} {l : Value} (h : SB W g k m v M l) : W.cell? ⟨g, 2, none⟩ = some (.int .i64 v) ∧ rowOf W g = (sc k m v M l).toArray ∧ isRow W 26 g 36 = true :=
  ⟨(SB.cells h).2.2.1, (SB.facts h).1, (SB.facts h).2⟩

set_option maxHeartbeats 2000000 in
theorem sput_2 (k m v : Int) (M : Mk) (A : Option Addr) (L : List Tr) (n c : Nat) (w : World) (hn : n = L.length) (hl : n ≤ 200) (h : RdT w A L c) (hm : mayS k m v M L = true) (q1 : (k == 1) = false) (q2 : (k == 2) = true) (q : 251 ≤ v ∧ v ≤ 254):
    Calls Try.prog 11 #[sv k m v M (.slice A n c)] w (PutAns w (u8 v :: 2 :: trimM M) 0) := by
  have HN := keepd hn
  have H := keepd h
  have HM := keepd hm
  have HL := keepd hl
  clear hn h hm hl
  go_enter Try.func11, Try.ntmps11
  go_upto_region 1 with fail
  generalize hV : w.alloc (.cells (sc k m v M (.slice A n c)).toArray 26) = V
  obtain ⟨h1, h2, h3⟩ := one_new _ _ _ _ hV
  obtain ⟨g, hg⟩ : ∃ g, w.heap.size = g := ⟨_, rfl⟩
  rw [hg] at h1
  rw [hg]
  have HG := keepd hg
  clear hV hg h3
  obtain ⟨a4, a5⟩ := SB.facts h1
  have H1 := keepd h1
  have HB0 := keepd h2
  clear h1 h2
  have CK := keepd (scheck_any k m v M A L n c true V HN.out (H.out.at_ HB0.out) HM.out)
  have hse : serr true = 0 := rfl
  rw [hse] at CK
  clear hse
  go_wp2_with fail
  with_reducible refine CK.out.mono ?_
  rintro e w2 ⟨rfl, hb⟩
  have HB := keepd (bCall HB0.out hb)
  have H2 := keepd (SR.call H1.out hb H1.out.lt)
  clear hb CK a4 a5 HB0 H1
  obtain ⟨a0, a1, a2, a3⟩ := SB.cells H2.out
  obtain ⟨a4, a5⟩ := SB.facts H2.out
  have hw : IntKind.u8.wrap v = v := conv_u8 (by omega)
  have hu : ((u8 v).toNat : Int) = v := u8_back (by omega) (by omega)
  have HCS : Hid (#[Value.int .u8 v, Value.int .u8 2] = ([u8 v, 2].map bv).toArray) := by
    show _ = _
    simp only [List.map_cons, List.map_nil, bv, hu]
    rfl
  have CP := keepd (mput_any M)
  clear hu q
  go_upto_region 10 with fail
  refine wp_region_held_drew (S := fun W => W.cell? ⟨g, 2, none⟩ = some (.int .i64 v) ∧ rowOf W g = (sc k m v M (.slice A n c)).toArray ∧ isRow W 26 g 36 = true) (by kernel_rfl) ⟨a2, a4, a5⟩ (fun hHeld => ?_)
  refine wpAnyH_take (i := 0) (oi := { dst := some 31, op := Op.fieldAddr 26 (Operand.tmp 1) 2, type := 0, pos := "subopt.go:40", after := #[], guard := none }) (v := .pointer (some ⟨g, 2, none⟩)) rfl (by kernel_rfl) (by kernel_rfl) (by kernel_rfl) (fun _ _ _ h => h) (Or.inl ⟨by rfl, fun W hW => ?_⟩) hHeld ?_
  · obtain ⟨q1, q2, q3⟩ := hW
    go_simp
  simp only [Act.put, List.setIfInBounds_toArray, List.set_cons_zero, List.set_cons_succ]
  refine wpAnyH_take (i := 1) (oi := { dst := some 32, op := Op.load 3 (Operand.tmp 31), type := 3, pos := "subopt.go:40", after := #[{ on := 0, ground := Ground.data }], guard := none }) (v := .int .i64 v) rfl (by kernel_rfl) (by kernel_rfl) (by kernel_rfl) (fun _ _ _ h => h) (Or.inl ⟨by rfl, fun W hW => ?_⟩) hHeld ?_
  · obtain ⟨q1, q2, q3⟩ := hW
    go_simp
  simp only [Act.put, List.setIfInBounds_toArray, List.set_cons_zero, List.set_cons_succ]
  refine wpAnyH_take (i := 2) (oi := { dst := some 33, op := Op.convert 3 5 (Operand.tmp 32), type := 5, pos := "subopt.go:40", after := #[{ on := 1, ground := Ground.data }], guard := none }) (v := .int .u8 v) rfl (by kernel_rfl) (by kernel_rfl) (by kernel_rfl) (fun _ _ _ h => h) (Or.inl ⟨by rfl, fun W hW => ?_⟩) hHeld ?_
  · obtain ⟨q1, q2, q3⟩ := hW
    go_simp
  simp only [Act.put, List.setIfInBounds_toArray, List.set_cons_zero, List.set_cons_succ]
  refine wpAnyH_take (i := 4) (oi := { dst := some 35, op := Op.fieldAddr 26 (Operand.tmp 1) 3, type := 0, pos := "subopt.go:40", after := #[], guard := none }) (v := .pointer (some ⟨g, 3, none⟩)) rfl (by kernel_rfl) (by kernel_rfl) (by kernel_rfl) (fun _ _ _ h => h) (Or.inl ⟨by rfl, fun W hW => ?_⟩) hHeld ?_
  · obtain ⟨q1, q2, q3⟩ := hW
    go_simp
  simp only [Act.put, List.setIfInBounds_toArray, List.set_cons_zero, List.set_cons_succ]
  refine wpAnyH_take (i := 5) (oi := { dst := some 36, op := Op.load 23 (Operand.tmp 35), type := 23, pos := "subopt.go:40", after := #[{ on := 4, ground := Ground.data }], guard := none }) (v := mv M) rfl (by kernel_rfl) (by kernel_rfl) (by kernel_rfl) (fun _ _ _ h => h) (Or.inl ⟨by rfl, fun W hW => ?_⟩) hHeld ?_
  · obtain ⟨q1, q2, q3⟩ := hW
    go_simp
  simp only [Act.put, List.setIfInBounds_toArray, List.set_cons_zero, List.set_cons_succ]
  refine wpAnyH_ready (rs := [3, 6]) (by kernel_rfl) (by simp) ?_
  refine AllReadyH.cons (o := { dst := some 34, op := Op.buildSlice 27 2 #[(0, Operand.tmp 33), (1, Operand.const (Value.int IntKind.u8 2))], type := 27, pos := "subopt.go:40", after := #[{ on := 2, ground := Ground.data }], guard := none }) rfl (fun K hK => ?_) (AllReadyH.cons (o := { dst := some 37, op := Op.call { callee := Callee.value (Operand.func 22), args := #[Operand.tmp 36], argTypes := #[23] }, type := 27, pos := "subopt.go:40", after := #[{ on := 5, ground := Ground.data }], guard := none }) rfl (fun K hK => ?_) AllReadyH.nil)
  · go_simp
    have HO := keepd (own_new w2.drew w.heap.size #[.int .u8 v, .int .u8 2] [u8 v, 2] 2 HCS.out rfl (by omega) HB.out.size)
    have HBn := keepd (bAlloc HB.out.drew (.cells #[.int .u8 v, .int .u8 2] 5))
    have HSn := keepd (SR.alloc (SR.drew H2.out) (.cells #[.int .u8 v, .int .u8 2] 5))
    have HSd : Hid (SB w2.drew g k m v M (.slice A n c)) := SR.drew H2.out
    refine hK.out _ _ (S0 HSn.out) (fun hHeld2 => ?_)
    clear hK K hHeld
    have hHeld := hHeld2
    clear hHeld2
    try simp only [Act.put, List.setIfInBounds_toArray, List.set_cons_zero, List.set_cons_succ]
    refine wpAnyH_ready (rs := [6]) (by kernel_rfl) (by simp) ?_
    refine AllReadyH.cons (o := { dst := some 37, op := Op.call { callee := Callee.value (Operand.func 22), args := #[Operand.tmp 36], argTypes := #[23] }, type := 27, pos := "subopt.go:40", after := #[{ on := 5, ground := Ground.data }], guard := none }) rfl (fun K hK => ?_) AllReadyH.nil
    go_simp
    with_reducible refine (CP.out _).mono ?_
    rintro e w3 ⟨A3, c3, rfl, hr3, hb3⟩
    have HR3 := keepd hr3
    have HO3 := keepd (HO.out.below hb3)
    have HB3 := keepd (bCall HBn.out hb3)
    have HS3 : Hid (SB w3 g k m v M (.slice A n c)) := SR.call HSn.out hb3 HSn.out.lt
    clear hr3 hb3 HO HBn HSn
    go_wp2_with fail
    refine hK.out _ _ (S0 HS3.out) (fun hHeld2 => ?_)
    clear hK K hHeld
    have hHeld := hHeld2
    clear hHeld2
    try simp only [Act.put, List.setIfInBounds_toArray, List.set_cons_zero, List.set_cons_succ]
    refine wpAnyH_ready (rs := [7]) (by kernel_rfl) (by simp) ?_
    refine AllReadyH.cons (o := { dst := some 38, op := Op.call { callee := Callee.builtin Builtin.append, args := #[Operand.tmp 34, Operand.tmp 37], argTypes := #[27, 27] }, type := 27, pos := "subopt.go:40", after := #[{ on := 3, ground := Ground.data }, { on := 6, ground := Ground.data }, { on := 6, ground := Ground.chain }], guard := none }) rfl (fun K hK => ?_) AllReadyH.nil
    refine step_app _ rfl (.tmp 34) (.tmp 37) rfl w.heap.size _ [u8 v, 2] rfl HO3.out _ A3 (trimM M).length c3 (trimM M) rfl rfl HR3.out ?_ HB3.out.size ?_
    · rw [trimM_len]
      have := trimN_le M
      simp only [List.length_cons, List.length_nil]
      omega
    intro vb wb ho hg hat
    have hgb := grown_below HO3.out hg HB3.out.size
    have HB4 := keepd (HB3.out.trans hgb)
    have hne : some g ≠ Value.ownBlock (.slice (some ⟨w2.drew.heap.size, 0, none⟩) 2 2) := fun e => by
      injection e with e
      have h1 := SR.lt HSd.out
      have h2 : g = w2.drew.heap.size := e
      omega
    have H5 := keepd ((hg.block g (SR.lt HS3.out) hne).trans HS3.out : SB wb g k m v M (.slice A n c))
    obtain ⟨Bv, dv, rfl, hr⟩ := ho.rd
    have HR4 := keepd hr
    clear ho hg hat hgb hr HO3 HR3 HB3 HS3 hne
    refine hK.out _ _ (S0 H5.out) (fun hHeld2 => ?_)
    clear hK K hHeld
    have hHeld := hHeld2
    clear hHeld2
    try simp only [Act.put, List.setIfInBounds_toArray, List.set_cons_zero, List.set_cons_succ]
    refine wpAnyH_take (i := 8) (oi := { dst := some 2, op := Op.assign (Operand.tmp 38), type := 27, pos := "subopt.go:40", after := #[{ on := 7, ground := Ground.data }, { on := 7, ground := Ground.chain }, { on := 0, ground := Ground.phase }, { on := 1, ground := Ground.phase }, { on := 2, ground := Ground.phase }, { on := 3, ground := Ground.phase }, { on := 4, ground := Ground.phase }, { on := 5, ground := Ground.phase }, { on := 6, ground := Ground.phase }, { on := 7, ground := Ground.phase }], guard := none }) (v := .slice Bv ([u8 v, 2] ++ trimM M).length dv) rfl (by kernel_rfl) (by kernel_rfl) (by kernel_rfl) (fun _ _ _ h => h) (Or.inl ⟨by rfl, fun W hW => ?_⟩) hHeld ?_
    · obtain ⟨q1, q2, q3⟩ := hW
      go_simp
    simp only [Act.put, List.setIfInBounds_toArray, List.set_cons_zero, List.set_cons_succ]
    refine wpAnyH_take (i := 9) (oi := { dst := some 3, op := Op.assign (Operand.const (Value.int IntKind.i64 0)), type := 30, pos := "subopt.go:40", after := #[{ on := 8, ground := Ground.chain }, { on := 0, ground := Ground.phase }, { on := 1, ground := Ground.phase }, { on := 2, ground := Ground.phase }, { on := 3, ground := Ground.phase }, { on := 4, ground := Ground.phase }, { on := 5, ground := Ground.phase }, { on := 6, ground := Ground.phase }, { on := 7, ground := Ground.phase }, { on := 8, ground := Ground.phase }], guard := none }) (v := .int .i64 0) rfl (by kernel_rfl) (by kernel_rfl) (by kernel_rfl) (fun _ _ _ h => h) (Or.inl ⟨by rfl, fun W hW => ?_⟩) hHeld ?_
    · obtain ⟨q1, q2, q3⟩ := hW
      go_simp
    simp only [Act.put, List.setIfInBounds_toArray, List.set_cons_zero, List.set_cons_succ]
    refine wpAnyH_done (by kernel_rfl) ?_ _
    go_wp2_with fail
    go_returns
    exact ⟨Bv, _, dv, rfl, rfl, HR4.out, HB4.out⟩
  · go_simp
    with_reducible refine (CP.out _).mono ?_
    rintro e w3 ⟨A3, c3, rfl, hr3, hb3⟩
    have HB2 := keepd (bCall HB.out (noDrew hb3))
    have HS2 : Hid (SB w3 g k m v M (.slice A n c)) := SR.call (SR.drew H2.out) hb3 (SR.drew H2.out).lt
    have HR2 := keepd hr3
    clear hr3 hb3
    go_wp2_with fail
    refine hK.out _ _ (S0 HS2.out) (fun hHeld2 => ?_)
    clear hK K hHeld
    have hHeld := hHeld2
    clear hHeld2
    try simp only [Act.put, List.setIfInBounds_toArray, List.set_cons_zero, List.set_cons_succ]
    refine wpAnyH_ready (rs := [3]) (by kernel_rfl) (by simp) ?_
    refine AllReadyH.cons (o := { dst := some 34, op := Op.buildSlice 27 2 #[(0, Operand.tmp 33), (1, Operand.const (Value.int IntKind.u8 2))], type := 27, pos := "subopt.go:40", after := #[{ on := 2, ground := Ground.data }], guard := none }) rfl (fun K hK => ?_) AllReadyH.nil
    go_simp
    have HO3 := keepd (own_new w3 w.heap.size #[.int .u8 v, .int .u8 2] [u8 v, 2] 2 HCS.out rfl (by omega) HB2.out.size)
    have HB3 := keepd (bAlloc HB2.out (.cells #[.int .u8 v, .int .u8 2] 5))
    have HS3 : Hid (SB (w3.alloc (.cells #[.int .u8 v, .int .u8 2] 5)) g k m v M (.slice A n c)) := SR.alloc HS2.out _
    have HR3 := keepd (HR2.out.at_ (bAlloc (Below.refl w3.heap.size w3) (.cells #[.int .u8 v, .int .u8 2] 5)))
    refine hK.out _ _ (S0 HS3.out) (fun hHeld2 => ?_)
    clear hK K hHeld
    have hHeld := hHeld2
    clear hHeld2
    try simp only [Act.put, List.setIfInBounds_toArray, List.set_cons_zero, List.set_cons_succ]
    refine wpAnyH_ready (rs := [7]) (by kernel_rfl) (by simp) ?_
    refine AllReadyH.cons (o := { dst := some 38, op := Op.call { callee := Callee.builtin Builtin.append, args := #[Operand.tmp 34, Operand.tmp 37], argTypes := #[27, 27] }, type := 27, pos := "subopt.go:40", after := #[{ on := 3, ground := Ground.data }, { on := 6, ground := Ground.data }, { on := 6, ground := Ground.chain }], guard := none }) rfl (fun K hK => ?_) AllReadyH.nil
    refine step_app _ rfl (.tmp 34) (.tmp 37) rfl w.heap.size _ [u8 v, 2] rfl HO3.out _ A3 (trimM M).length c3 (trimM M) rfl rfl HR3.out ?_ HB3.out.size ?_
    · rw [trimM_len]
      have := trimN_le M
      simp only [List.length_cons, List.length_nil]
      omega
    intro vb wb ho hg hat
    have hgb := grown_below HO3.out hg HB3.out.size
    have HB4 := keepd (HB3.out.trans hgb)
    have hne : some g ≠ Value.ownBlock (.slice (some ⟨w3.heap.size, 0, none⟩) 2 2) := fun e => by
      injection e with e
      have h1 := SR.lt HS2.out
      have h2 : g = w3.heap.size := e
      omega
    have H5 := keepd ((hg.block g (SR.lt HS3.out) hne).trans HS3.out : SB wb g k m v M (.slice A n c))
    obtain ⟨Bv, dv, rfl, hr⟩ := ho.rd
    have HR4 := keepd hr
    clear ho hg hat hgb hr HO3 HR3 HB3 HS3 hne
    refine hK.out _ _ (S0 H5.out) (fun hHeld2 => ?_)
    clear hK K hHeld
    have hHeld := hHeld2
    clear hHeld2
    try simp only [Act.put, List.setIfInBounds_toArray, List.set_cons_zero, List.set_cons_succ]
    refine wpAnyH_take (i := 8) (oi := { dst := some 2, op := Op.assign (Operand.tmp 38), type := 27, pos := "subopt.go:40", after := #[{ on := 7, ground := Ground.data }, { on := 7, ground := Ground.chain }, { on := 0, ground := Ground.phase }, { on := 1, ground := Ground.phase }, { on := 2, ground := Ground.phase }, { on := 3, ground := Ground.phase }, { on := 4, ground := Ground.phase }, { on := 5, ground := Ground.phase }, { on := 6, ground := Ground.phase }, { on := 7, ground := Ground.phase }], guard := none }) (v := .slice Bv ([u8 v, 2] ++ trimM M).length dv) rfl (by kernel_rfl) (by kernel_rfl) (by kernel_rfl) (fun _ _ _ h => h) (Or.inl ⟨by rfl, fun W hW => ?_⟩) hHeld ?_
    · obtain ⟨q1, q2, q3⟩ := hW
      go_simp
    simp only [Act.put, List.setIfInBounds_toArray, List.set_cons_zero, List.set_cons_succ]
    refine wpAnyH_take (i := 9) (oi := { dst := some 3, op := Op.assign (Operand.const (Value.int IntKind.i64 0)), type := 30, pos := "subopt.go:40", after := #[{ on := 8, ground := Ground.chain }, { on := 0, ground := Ground.phase }, { on := 1, ground := Ground.phase }, { on := 2, ground := Ground.phase }, { on := 3, ground := Ground.phase }, { on := 4, ground := Ground.phase }, { on := 5, ground := Ground.phase }, { on := 6, ground := Ground.phase }, { on := 7, ground := Ground.phase }, { on := 8, ground := Ground.phase }], guard := none }) (v := .int .i64 0) rfl (by kernel_rfl) (by kernel_rfl) (by kernel_rfl) (fun _ _ _ h => h) (Or.inl ⟨by rfl, fun W hW => ?_⟩) hHeld ?_
    · obtain ⟨q1, q2, q3⟩ := hW
      go_simp
    simp only [Act.put, List.setIfInBounds_toArray, List.set_cons_zero, List.set_cons_succ]
    refine wpAnyH_done (by kernel_rfl) ?_ _
    go_wp2_with fail
    go_returns
    exact ⟨Bv, _, dv, rfl, rfl, HR4.out, HB4.out⟩

theorem may_k1 {k m v : Int} {M : Mk} {L : List Tr} (q : k = 1) (h : mayS k m v M L = true) : (0 ≤ m ∧ m ≤ 31) ∧ v = 0 ∧ M = zM ∧ L = [] := by
  subst q
  simpa [mayS] using h
theorem may_k2 {k m v : Int} {M : Mk} {L : List Tr} (q : k = 2) (h : mayS k m v M L = true) : m = 0 ∧ (251 ≤ v ∧ v ≤ 254) ∧ (v = 253 ∨ M = zM) ∧ L = [] := by
  subst q
  simpa [mayS] using h
theorem may_k3 {k m v : Int} {M : Mk} {L : List Tr} (q : k = 3) (h : mayS k m v M L = true) : m = 0 ∧ v = 0 ∧ M = zM ∧ L.length ≤ 170 ∧ allT L = true := by
  subst q
  simpa [mayS] using h
theorem may_k {k m v : Int} {M : Mk} {L : List Tr} (h : mayS k m v M L = true) : k = 1 ∨ k = 2 ∨ k = 3 := by
  unfold mayS at h
  split at h
  · exact .inl ‹_›
  · split at h
    · exact .inr (.inl ‹_›)
    · split at h
      · exact .inr (.inr ‹_›)
      · cases h

/-- What Put answers. -/
def putR (k m v : Int) (M : Mk) (L : List Tr) (r : Bool) : List UInt8 := if r then putS k m v M L else []
theorem sput_any (k m v : Int) (M : Mk) (A : Option Addr) (L : List Tr) (n c : Nat) (r : Bool) (P : List UInt8) (er : Int) (w : World) (hn : n = L.length) (hl : n ≤ 200) (h : RdT w A L c) (hr : mayS k m v M L = r) (hP : putR k m v M L r = P) (he : serr r = er) :
    Calls Try.prog 11 #[sv k m v M (.slice A n c)] w (PutAns w P er) := by
  subst hP he
  cases r
  · exact sput_no k m v M A L n c w hn hl h hr
  · have h2 : (k == 1) = decide (k = 1) := by rw [Bool.eq_iff_iff]; simp
    rcases may_k hr with q | q | q
    · have := sput_1 k m v M A L n c w hn hl h hr (by rw [q]; rfl) (may_k1 q hr).1
      simpa [putR, putS, serr, q] using this
    · have := sput_2 k m v M A L n c w hn hl h hr (by rw [q]; rfl) (by rw [q]; rfl) (may_k2 q hr).2.1
      simpa [putR, putS, serr, q] using this
    · have := sput_3 k m v M A L n c w hn hl h hr (by rw [q]; rfl) (by rw [q]; rfl) (may_k3 q hr).2.2.2.2
      simpa [putR, putS, serr, q] using this

end Go.Proofs.Ytflmplnampgflaa
