/-
  The law MaskTwo. No conditions beyond those each theorem states.
-/
import Derived.Test.YtopomoghkedbkaaT7
namespace Go.Proofs.Ytopomoghkedbkaa
open Go.RowKit
set_option maxRecDepth 100000

attribute [local go_sem ↓] ex_ld23 ex_st23 ex_al23 ex_bu23 ex_eq23 ex_ne23 ex_ld45 ex_st45 ex_al45 ex_bu45
attribute [local go_sem] ptrB_at okPtr_at aggC_at agg32 agg256 isM_at eqV_m isRow_new isRow_newr World.setRow_alloc_new

theorem bits_or_u8 (x y : UInt8) : bits .or .u8 (x.toNat : Int) (y.toNat : Int) = ((x ||| y).toNat : Int) := by
  have e : ∀ z : UInt8, BitVec.ofInt 8 (z.toNat : Int) = z.toBitVec := fun z => by
    rw [BitVec.ofInt_natCast]
    simp
  show IntKind.u8.wrap (((BitVec.ofInt 8 (x.toNat : Int)) ||| (BitVec.ofInt 8 (y.toNat : Int))).toNat : Int) = _
  rw [e, e]
  exact wrap_u8 (UInt8.toNat_lt (x ||| y))

theorem ofM_or (a b : List UInt8) {i : Nat} (hi : i < 32) : (ofM (a ++ b)).at i = (ofM a).at i ||| (ofM b).at i := tb_ext fun k hk => by
  have h1 := has_ofM (l := a ++ b) (c := 8 * i + k) (by omega)
  have h2 := has_ofM (l := a) (c := 8 * i + k) (by omega)
  have h3 := has_ofM (l := b) (c := 8 * i + k) (by omega)
  unfold has at h1 h2 h3
  rw [show (8 * i + k) / 8 = i by omega, show (8 * i + k) % 8 = k by omega] at h1 h2 h3
  rw [tb_bits, h1, h2, h3, memB_append]
theorem ofM_twice (a : List UInt8) : ofM (a ++ a) = ofM a := ofM_eq fun c => by rw [memB_append, Bool.or_self]

theorem newA (W : World) (X : Mk) (o : Obj) : isRow ((W.alloc (.cells (ms X).toArray 23)).alloc o) 23 W.heap.size 32 = true := (MB.facts (SR.alloc (SR.new 23 W (ms X)) o)).2
theorem newB (W : World) (X : Mk) (o : Obj) (cs : Array Value) : isRow (((W.alloc o).alloc (.cells (ms X).toArray 23)).setRow W.heap.size cs) 23 (W.heap.size + 1) 32 = true :=
  (MB.facts (SR.rowFar (show MB _ (W.heap.size + 1) X from heap_alloc2_new W _ _) (by omega) cs)).2
theorem newAB (v : World) (X Y : Mk) (W : World) (h : (((v.alloc (.cells (ms zM).toArray 23)).alloc (.cells (ms zM).toArray 23)).setRow v.heap.size (ms X).toArray).setRow (v.heap.size + 1) (ms Y).toArray = W) :
    MB W v.heap.size X ∧ MB W (v.heap.size + 1) Y ∧ Below v.heap.size v W := by
  subst h
  have h1 : MB ((v.alloc (.cells (ms zM).toArray 23)).alloc (.cells (ms zM).toArray 23)) v.heap.size zM := SR.alloc (SR.new 23 v _) _
  have h2 : MB ((v.alloc (.cells (ms zM).toArray 23)).alloc (.cells (ms zM).toArray 23)) (v.heap.size + 1) zM := heap_alloc2_new v _ _
  have k1 := SR.row h1 (ms X)
  have k2 := SR.rowFar h2 (b' := v.heap.size) (by omega) (ms X).toArray
  exact ⟨SR.rowFar k1 (by omega) _, SR.row k2 _, bRow (bRow (bAlloc (bAlloc (Below.refl _ _) _) _) (Nat.le_refl _) _) (by omega) _⟩

set_option maxHeartbeats 4000000 in
theorem two_law (A : Option Addr) (l : List UInt8) (c : Nat) (A' : Option Addr) (l' : List UInt8) (c' : Nat) (w : World) (hr : Rd w w.heap.size A l c) (hr' : Rd w w.heap.size A' l' c') :
    Calls Try.prog 8 #[.slice A l.length c, .slice A' l'.length c'] w fun e w' => e = .returned (.bool true) ∧ Below w.heap.size w w' := by
  have HA := keepd awake_any
  have CF1 := keepd (few_any A l c w w hr)
  have CF2 := keepd (few_any A' l' c' w w hr')
  have la := few_len l
  have lb := few_len l'
  obtain ⟨a, ha⟩ : ∃ a, few l = a := ⟨_, rfl⟩
  obtain ⟨b, hb⟩ : ∃ b, few l' = b := ⟨_, rfl⟩
  rw [ha] at CF1 la
  rw [hb] at CF2 lb
  clear ha hb hr hr'
  obtain ⟨XA, hXA⟩ : ∃ X, ofM a = X := ⟨_, rfl⟩
  obtain ⟨XB, hXB⟩ : ∃ X, ofM b = X := ⟨_, rfl⟩
  obtain ⟨XC, hXC⟩ : ∃ X, ofM (a ++ b) = X := ⟨_, rfl⟩
  have HOr : Hid (∀ i, i < 32 → XC.at i = XA.at i ||| XB.at i) := fun i hi => by
    rw [← hXA, ← hXB, ← hXC]
    exact ofM_or a b hi
  have COa : Hid (∀ A c w, Rd w w.heap.size A a c → Calls Try.prog 12 #[.slice A a.length c] w fun e w' => e = .returned (mv XA) ∧ Below w.heap.size w w') := fun A c w h => of_any A _ _ c rfl (by omega) w h XA hXA
  have COb : Hid (∀ A c w, Rd w w.heap.size A b c → Calls Try.prog 12 #[.slice A b.length c] w fun e w' => e = .returned (mv XB) ∧ Below w.heap.size w w') := fun A c w h => of_any A _ _ c rfl (by omega) w h XB hXB
  obtain ⟨ab, hab⟩ : ∃ x, a ++ b = x := ⟨_, rfl⟩
  obtain ⟨aa, haa⟩ : ∃ x, a ++ a = x := ⟨_, rfl⟩
  have COc : Hid (∀ A c w, Rd w w.heap.size A ab c → Calls Try.prog 12 #[.slice A ab.length c] w fun e w' => e = .returned (mv XC) ∧ Below w.heap.size w w') := fun A c w h => of_any A _ _ c rfl (by rw [← hab, List.length_append]; omega) w h XC (by rw [← hab]; exact hXC)
  have CAA : Hid (∀ A c w, Rd w w.heap.size A aa c → Calls Try.prog 12 #[.slice A aa.length c] w fun e w' => e = .returned (mv XA) ∧ Below w.heap.size w w') := fun A c w h => of_any A _ _ c rfl (by rw [← haa, List.length_append]; omega) w h XA (by rw [← haa, ofM_twice]; exact hXA)
  have HAB := keepd hab
  have HAA := keepd haa
  clear hXA hXB hXC hab haa
  go_enter Try.func8, Try.ntmps8
  go_upto_region 2 with (first | ((with_reducible refine CF1.out.mono ?_); rintro e w ⟨⟨c1, rfl, hr1⟩, rfl⟩) | ((with_reducible refine CF2.out.mono ?_); rintro e w ⟨⟨c2, rfl, hr2⟩, rfl⟩))
  have HR1 := keepd hr1
  have HR2 := keepd hr2
  clear CF1 CF2 hr1 hr2
  go_upto_region 3 with (first | ((with_reducible refine (COa.out _ _ _ HR1.out).mono ?_); rintro e w2 ⟨rfl, hb2⟩; have HR22 := keepd (HR2.out.at_ hb2)) | ((with_reducible refine (COb.out _ _ _ HR22.out).mono ?_); rintro e w3 ⟨rfl, hb3⟩; have f1 := newA w3 zM (.cells (ms zM).toArray 23); have f2 := newB w3 zM (.cells (ms zM).toArray 23) (ms XA).toArray))
  obtain ⟨V, hV⟩ : ∃ V, (((w3.alloc (.cells (ms zM).toArray 23)).alloc (.cells (ms zM).toArray 23)).setRow w3.heap.size (ms XA).toArray).setRow (w3.heap.size + 1) (ms XB).toArray = V := ⟨_, rfl⟩
  obtain ⟨m5, m6, mB⟩ := newAB _ _ _ _ hV
  rw [hV]
  have hbV := bCall (bCall hb2 hb3) mB
  have HB := keepd hbV
  have HR1V := keepd (HR1.out.at_ hbV)
  have HR2V := keepd (HR2.out.at_ hbV)
  have M5 := keepd m5
  have M6 := keepd m6
  obtain ⟨b6, hp⟩ : ∃ b, w3.heap.size + 1 = b := ⟨_, rfl⟩
  rw [hp] at M6 ⊢
  clear hp
  obtain ⟨b5, hp⟩ : ∃ b, w3.heap.size = b := ⟨_, rfl⟩
  rw [hp] at M5 ⊢
  clear hp hV m5 m6 mB hbV hb2 hb3 f1 f2 HR1 HR2 HR22 COa COb
  have HO0 := keepd (empty_own V V.heap.size (Nat.le_refl _))
  have HZ0 := keepd (bAlloc (Below.refl V.heap.size V) (.cells #[] 5))
  have HS0 := keepd HZ0.out.size
  have HR1A := keepd (HR1V.out.at_ HZ0.out)
  go_wp2_with (at_builtin; refine wpList_app _ rfl (.tmp 17) (.tmp 18) rfl V.heap.size _ [] rfl HO0.out _ A a.length c1 a rfl rfl HR1A.out ?_ HS0.out ?_)
  · simp
    omega
  intro va wa ho hg hat
  have hgb := grown_below HO0.out hg HS0.out
  have HZ1 := keepd (HZ0.out.trans hgb)
  try rw [List.nil_append] at ho
  obtain ⟨A2, d2, rfl, _⟩ := ho.rd
  have HO1 := keepd ho
  have HS1 := keepd HZ1.out.size
  have HR2A := keepd (HR2V.out.at_ HZ1.out)
  clear ho hg hat hgb HO0 HZ0 HS0 HR1A
  go_wp2_with (at_builtin; refine wpList_app _ rfl (.tmp 19) (.tmp 20) rfl V.heap.size _ a rfl HO1.out _ A' b.length c2 b rfl rfl HR2A.out ?_ HS1.out ?_)
  · omega
  intro va wb ho hg hat
  have hgb := grown_below HO1.out hg HS1.out
  have HZ2 := keepd (HZ1.out.trans hgb)
  rw [HAB.out] at ho
  obtain ⟨A3, d3, rfl, hr3⟩ := ho.rd
  have HR3 := keepd hr3
  clear ho hg hat hgb HO1 HZ1 HS1 HR2A hr3
  go_upto_region 4 with ((with_reducible refine (COc.out _ _ _ HR3.out).mono ?_); rintro e w4 ⟨rfl, hb4⟩)
  obtain ⟨V4, hV⟩ : ∃ V, w4.alloc (.cells (ms XC).toArray 23) = V := ⟨_, rfl⟩
  obtain ⟨m7, q7⟩ := new_m _ _ _ hV
  rw [hV]
  have hbV := bCall (bCall HZ2.out hb4) q7
  have HB4 := keepd (bCall HB.out hbV)
  have N5 := keepd (SR.call M5.out hbV (SR.lt M5.out))
  have N6 := keepd (SR.call M6.out hbV (SR.lt M6.out))
  have HR1 := keepd (HR1V.out.at_ hbV)
  have N7 := keepd m7
  obtain ⟨b7, hp⟩ : ∃ b, w4.heap.size = b := ⟨_, rfl⟩
  rw [hp] at N7 ⊢
  clear hp hV m7 q7 hbV hb4 HZ2 HR3 HB HR1V HR2V M5 M6 COc
  go_wp2_with fail
  go_loopw [8] (fun vi wy => ∃ k : Nat, k ≤ 32 ∧ vi = .int .i64 k ∧ Hid (Below V4.heap.size V4 wy)) (fun vi _ => 32 - (intOf vi).toNat)
  case atStart => exact ⟨0, by omega, rfl, Below.refl _ _⟩
  case round =>
    obtain ⟨k, hk, rfl, HV⟩ := hrel
    by_cases hlt : k < 32
    · have c5 := MB.at (SR.call N5.out HV.out (SR.lt N5.out)) hlt
      have c6 := MB.at (SR.call N6.out HV.out (SR.lt N6.out)) hlt
      have c7 := MB.at (SR.call N7.out HV.out (SR.lt N7.out)) hlt
      have hor := bits_or_u8 (XA.at k) (XB.at k)
      rw [← HOr.out k hlt] at hor
      have i1 : (0 : Int) ≤ (k : Int) := by omega
      have i2 : (k : Int) < 32 := by omega
      generalize XC.at k = z at *
      generalize XA.at k = x at *
      generalize XB.at k = y at *
      go_upto_region 7 with fail
      go_quiet (fail)
      have HV2 : Hid (Below V4.heap.size V4 (wr.drewN nq)) := bDrewN HV.out _
      clear c5 c6 c7 hor HV
      obtain ⟨wx, hx⟩ : ∃ v, wr.drewN nq = v := ⟨_, rfl⟩
      rw [hx] at HV2 ⊢
      clear hx
      go_wp2_with fail
      go_roundw
      case rel => exact ⟨k + 1, by omega, by go_num, HV2⟩
      case measure => simp [intOf]; omega
    · have gi : decide ((k : Int) < 32) = false := decide_eq_false (by omega)
      have gi2 : decide (k < 32) = false := decide_eq_false (by omega)
      clear hlt hk
      obtain ⟨wz, rfl⟩ : ∃ v, v = wr := ⟨_, rfl⟩
      have HB := keepd (bCall HB4.out HV.out)
      have M5 := keepd (SR.call N5.out HV.out (SR.lt N5.out))
      have HRx := keepd (HR1.out.at_ HV.out)
      clear HB4 HR1 N5 N6 N7 HV
      have HR1 := HRx
      clear HRx
      go_upto_region 9 with fail
      refine wp_region_held_drew (S := fun V => rowOf V b5 = (ms XA).toArray ∧ isRow V 23 b5 32 = true) (by kernel_rfl) (MB.facts (SR.call M5.out (Below.refl _ _).drew (SR.lt M5.out))) (fun hHeld => ?_)
      refine wpAnyH_take (i := 1) (oi := { dst := some 39, op := Op.move (Operand.tmp 0), type := 26, pos := "law.go:112", after := #[], guard := none }) (v := .slice A a.length c1) rfl (by kernel_rfl) (by kernel_rfl) (by kernel_rfl) (fun _ _ _ h => h) (Or.inl ⟨by rfl, fun W hW => ?_⟩) hHeld ?_
      · obtain ⟨q1, q2⟩ := hW
        go_simp
      simp only [Act.put, List.setIfInBounds_toArray, List.set_cons_zero, List.set_cons_succ]
      refine wpAnyH_take (i := 3) (oi := { dst := some 41, op := Op.move (Operand.tmp 0), type := 26, pos := "law.go:112", after := #[], guard := none }) (v := .slice A a.length c1) rfl (by kernel_rfl) (by kernel_rfl) (by kernel_rfl) (fun _ _ _ h => h) (Or.inl ⟨by rfl, fun W hW => ?_⟩) hHeld ?_
      · obtain ⟨q1, q2⟩ := hW
        go_simp
      simp only [Act.put, List.setIfInBounds_toArray, List.set_cons_zero, List.set_cons_succ]
      refine wpAnyH_take (i := 6) (oi := { dst := some 44, op := Op.load 23 (Operand.tmp 5), type := 23, pos := "law.go:112", after := #[], guard := none }) (v := mv XA) rfl (by kernel_rfl) (by kernel_rfl) (by kernel_rfl) (fun _ _ _ h => h) (Or.inl ⟨by rfl, fun W hW => ?_⟩) hHeld ?_
      · obtain ⟨q1, q2⟩ := hW
        go_simp
      simp only [Act.put, List.setIfInBounds_toArray, List.set_cons_zero, List.set_cons_succ]
      refine wpAnyH_ready (rs := [0]) (by kernel_rfl) (by simp) ?_
      refine AllReadyH.cons (o := { dst := some 38, op := Op.buildSlice 26 0 #[], type := 26, pos := "law.go:112", after := #[], guard := none }) rfl (fun K hK => ?_) AllReadyH.nil
      go_simp
      have HO := keepd (empty_own wz wz.heap.size (Nat.le_refl _)).drew
      have z1 : Below wz.heap.size wz (wz.alloc (.cells #[] 5)).drew := (bAlloc (Below.refl _ _) _).drew
      refine hK.out _ _ (MB.facts (SR.call M5.out z1 (SR.lt M5.out))) (fun hHeld2 => ?_)
      clear hK K hHeld
      have hHeld := hHeld2
      clear hHeld2
      try simp only [Act.put, List.setIfInBounds_toArray, List.set_cons_zero, List.set_cons_succ]
      refine wpAnyH_ready (rs := [2]) (by kernel_rfl) (by simp) ?_
      refine AllReadyH.cons (o := { dst := some 40, op := Op.call { callee := Callee.builtin Builtin.append, args := #[Operand.tmp 38, Operand.tmp 39], argTypes := #[26, 26] }, type := 26, pos := "law.go:112", after := #[{ on := 0, ground := Ground.data }, { on := 1, ground := Ground.data }], guard := none }) rfl (fun K hK => ?_) AllReadyH.nil
      refine step_app _ rfl (.tmp 38) (.tmp 39) rfl wz.heap.size _ [] rfl HO.out _ A a.length c1 a rfl rfl (HR1.out.at_ z1) ?_ z1.size ?_
      · simp
        omega
      intro va wa ho hg hat
      have hgb := grown_below HO.out hg z1.size
      have z2 : Below wz.heap.size wz wa := z1.trans hgb
      try rw [List.nil_append] at ho
      obtain ⟨A2, d2, rfl, _⟩ := ho.rd
      have HO2 := keepd ho
      clear ho hg hat hgb HO
      refine hK.out _ _ (MB.facts (SR.call M5.out z2 (SR.lt M5.out))) (fun hHeld2 => ?_)
      clear hK K hHeld
      have hHeld := hHeld2
      clear hHeld2
      try simp only [Act.put, List.setIfInBounds_toArray, List.set_cons_zero, List.set_cons_succ]
      refine wpAnyH_ready (rs := [4]) (by kernel_rfl) (by simp) ?_
      refine AllReadyH.cons (o := { dst := some 42, op := Op.call { callee := Callee.builtin Builtin.append, args := #[Operand.tmp 40, Operand.tmp 41], argTypes := #[26, 26] }, type := 26, pos := "law.go:112", after := #[{ on := 2, ground := Ground.data }, { on := 3, ground := Ground.data }, { on := 2, ground := Ground.chain }], guard := none }) rfl (fun K hK => ?_) AllReadyH.nil
      refine step_app _ rfl (.tmp 40) (.tmp 41) rfl wz.heap.size _ a rfl HO2.out _ A a.length c1 a rfl rfl (HR1.out.at_ z2) ?_ z2.size ?_
      · omega
      intro va wb ho hg hat
      have hgb := grown_below HO2.out hg z2.size
      have z3 : Below wz.heap.size wz wb := z2.trans hgb
      rw [HAA.out] at ho
      obtain ⟨A3, d3, rfl, hr3⟩ := ho.rd
      have HR3 := keepd hr3
      clear ho hg hat hgb HO2 hr3
      refine hK.out _ _ (MB.facts (SR.call M5.out z3 (SR.lt M5.out))) (fun hHeld2 => ?_)
      clear hK K hHeld
      have hHeld := hHeld2
      clear hHeld2
      try simp only [Act.put, List.setIfInBounds_toArray, List.set_cons_zero, List.set_cons_succ]
      refine wpAnyH_ready (rs := [5]) (by kernel_rfl) (by simp) ?_
      refine AllReadyH.cons (o := { dst := some 43, op := Op.call { callee := Callee.value (Operand.func 12), args := #[Operand.tmp 42], argTypes := #[26] }, type := 23, pos := "law.go:112", after := #[{ on := 4, ground := Ground.data }, { on := 4, ground := Ground.chain }], guard := none }) rfl (fun K hK => ?_) AllReadyH.nil
      go_simp
      (with_reducible refine (CAA.out A3 d3 _ HR3.out).mono ?_)
      rintro e w9 ⟨rfl, hb9⟩
      have z4 := bCall z3 hb9
      go_wp2_with fail
      refine hK.out _ _ (MB.facts (SR.call M5.out z4 (SR.lt M5.out))) (fun hHeld2 => ?_)
      clear hK K hHeld
      have hHeld := hHeld2
      clear hHeld2
      try simp only [Act.put, List.setIfInBounds_toArray, List.set_cons_zero, List.set_cons_succ]
      refine wpAnyH_take (i := 7) (oi := { dst := some 45, op := Op.binOp BinOp.eql 23 (Operand.tmp 43) (Operand.tmp 44) 23, type := 4, pos := "law.go:112", after := #[{ on := 5, ground := Ground.data }, { on := 6, ground := Ground.data }], guard := none }) (v := .bool true) rfl (by kernel_rfl) (by kernel_rfl) (by kernel_rfl) (fun _ _ _ h => h) (Or.inl ⟨by rfl, fun W hW => ?_⟩) hHeld ?_
      · obtain ⟨q1, q2⟩ := hW
        go_simp
      simp only [Act.put, List.setIfInBounds_toArray, List.set_cons_zero, List.set_cons_succ]
      refine wpAnyH_take (i := 8) (oi := { dst := some 46, op := Op.move (Operand.tmp 45), type := 4, pos := "law.go:112", after := #[{ on := 7, ground := Ground.data }, { on := 5, ground := Ground.chain }], guard := none }) (v := .bool true) rfl (by kernel_rfl) (by kernel_rfl) (by kernel_rfl) (fun _ _ _ h => h) (Or.inl ⟨by rfl, fun W hW => ?_⟩) hHeld ?_
      · obtain ⟨q1, q2⟩ := hW
        go_simp
      simp only [Act.put, List.setIfInBounds_toArray, List.set_cons_zero, List.set_cons_succ]
      refine wpAnyH_ready (rs := [9]) (by kernel_rfl) (by simp) ?_
      refine AllReadyH.cons (o := { dst := some 47, op := Op.call { callee := Callee.value (Operand.func 23), args := #[], argTypes := #[] }, type := 4, pos := "law.go:112", after := #[{ on := 8, ground := Ground.chain }, { on := 8, ground := Ground.guard }], guard := some (8, true) }) rfl (fun K hK => ?_) AllReadyH.nil
      go_simp
      (with_reducible refine (HA.out _).mono ?_)
      rintro e w10 ⟨rfl, hb10⟩
      have z5 := bCall z4 hb10
      go_wp2_with fail
      refine hK.out _ _ (MB.facts (SR.call M5.out z5 (SR.lt M5.out))) (fun hHeld2 => ?_)
      clear hK K hHeld
      have hHeld := hHeld2
      clear hHeld2
      try simp only [Act.put, List.setIfInBounds_toArray, List.set_cons_zero, List.set_cons_succ]
      refine wpAnyH_take (i := 10) (oi := { dst := some 48, op := Op.pick (Operand.tmp 46) (Operand.tmp 47) (Operand.const (Value.bool false)), type := 4, pos := "law.go:112", after := #[{ on := 8, ground := Ground.data }, { on := 9, ground := Ground.data }], guard := none }) (v := .bool true) rfl (by kernel_rfl) (by kernel_rfl) (by kernel_rfl) (fun _ _ _ h => h) (Or.inl ⟨by rfl, fun W hW => ?_⟩) hHeld ?_
      · obtain ⟨q1, q2⟩ := hW
        go_simp
      simp only [Act.put, List.setIfInBounds_toArray, List.set_cons_zero, List.set_cons_succ]
      refine wpAnyH_take (i := 11) (oi := { dst := some 4, op := Op.assign (Operand.tmp 48), type := 4, pos := "law.go:112", after := #[{ on := 10, ground := Ground.data }, { on := 9, ground := Ground.chain }, { on := 0, ground := Ground.phase }, { on := 1, ground := Ground.phase }, { on := 2, ground := Ground.phase }, { on := 3, ground := Ground.phase }, { on := 4, ground := Ground.phase }, { on := 5, ground := Ground.phase }, { on := 6, ground := Ground.phase }, { on := 7, ground := Ground.phase }, { on := 8, ground := Ground.phase }, { on := 9, ground := Ground.phase }, { on := 10, ground := Ground.phase }], guard := none }) (v := .bool true) rfl (by kernel_rfl) (by kernel_rfl) (by kernel_rfl) (fun _ _ _ h => h) (Or.inl ⟨by rfl, fun W hW => ?_⟩) hHeld ?_
      · obtain ⟨q1, q2⟩ := hW
        go_simp
      simp only [Act.put, List.setIfInBounds_toArray, List.set_cons_zero, List.set_cons_succ]
      refine wpAnyH_done (by kernel_rfl) ?_ _
      go_wp2_with fail
      go_returns
      exact ⟨rfl, bCall HB.out z5⟩

end Go.Proofs.Ytopomoghkedbkaa
