/-
  TalkQuiet walked. No conditions beyond those each theorem states.
-/
import Derived.Test.YtlfmbfecajhffaaDoorK8
import Derived.BigQuiet
namespace Go.Proofs.YtlfmbfecajhffaaDoor
open Go.RowKit
set_option maxRecDepth 100000

attribute [local go_sem ↓] ex_ld25 ex_st25 ex_al25 ex_bu25 ex_ix25 ex_eq25 ex_ne25 ex_eq23 ex_ne23 ex_ld25o ex_st65 ex_al65 ex_bu65 ex_bu65s ex_ld25d
attribute [local go_sem] ptrB_at okPtr_at aggC_at agg62 agg69 isC_at isT_at eqV_t eqV_c isRow_new isRow_new65 World.setRow_alloc_new ptr4_at okPtr4_at cutT_at isI_at isS_at bW_at bWs_at ptrD_at okPtrD_at cutD_at

/-- What the two talks hold at a round's beginning. -/
def QI (V0 : World) (l : List UInt8) (n : Nat) (z : Int) (ov li h : Bool) (A5 A6 : Option Addr) (c5 c6 : Nat) (wr : World) : Prop :=
  SR 34 wr V0.heap.size [.slice A5 n c5, .int .i64 z, .bool ov, .bool li, .bool h] ∧ SR 34 wr (V0.heap.size + 1) [.slice A6 n c6, .int .i64 z, .bool ov, .bool li, .bool false] ∧ Rd wr wr.heap.size A5 l c5 ∧ Rd wr wr.heap.size A6 l c6 ∧ Below V0.heap.size V0 wr
theorem QI.drewN {V0 : World} {l : List UInt8} {n : Nat} {z : Int} {ov li h : Bool} {A5 A6 : Option Addr} {c5 c6 : Nat} {wr : World} (H : QI V0 l n z ov li h A5 A6 c5 c6 wr) (k : Nat) : QI V0 l n z ov li h A5 A6 c5 c6 (wr.drewN k) :=
  ⟨H.1, H.2.1, H.2.2.1.drewN k, H.2.2.2.1.drewN k, bDrewN H.2.2.2.2 k⟩
theorem quiet_and {q : Bool} {m : Nat} (h : (q && decide (m = 0)) = true) : q = true ∧ m = 0 := by simpa using h
set_option maxHeartbeats 16000000 in
theorem quiet_law (X : Tb) (hX : TbO X) (room : Int) (A : Option Addr) (us0 : List UInt8) (c : Nat) (w : World) (hL : Laid w) (hr : Rd w w.heap.size A us0 c) :
    Calls Tryd.prog 6 #[.agg (dk X room).toArray, .slice A us0.length c] w fun e w' => e = .returned (.bool true) ∧ Below w.heap.size w w' := by
  obtain ⟨n0, hn0⟩ : ∃ n0, n0 = us0.length := ⟨_, rfl⟩
  rw [← hn0]
  obtain ⟨m, hm⟩ : ∃ m, (fewK us0).length = m := ⟨_, rfl⟩
  have CKy := keepd fun W => keys_any A us0 n0 c m W hn0 (by rw [hn0]; exact hr.1) hm
  have HX := keepd hX
  have HLD := keepd hL
  have HRa : Rd w w.heap.size A (fewK us0) c := hr.take 200
  have hmc : m ≤ c := by rw [← hm]; exact HRa.1
  have hcm := HRa.2.1
  unfold maxLen at hcm
  have HR0 := keepd HRa
  have hm2 : m ≤ 200 := by rw [← hm]; exact fewK_le us0
  clear hX hL hr hn0 HRa
  generalize fewK us0 = us at *
  have HM0 := keepd hm
  clear hm
  go_enter Tryd.func6, Tryd.ntmps6
  go_upto_region 1 with fail
  generalize hV : w.alloc (.cells (dk X room).toArray 27) = V0
  obtain ⟨HD, HB0⟩ := desk_new _ _ _ hV
  obtain ⟨⟨p0, p1⟩, p2⟩ := DK.facts HD.out
  clear hV
  go_wp2_with fail
  with_reducible refine (CKy.out _).mono ?_
  rintro e w1 ⟨rfl, hw1⟩
  rw [hw1]
  clear CKy hw1
  go_upto_region 3 with fail
  generalize hV : (V0.alloc (.cells #[.slice none 0 0, .int .i64 0, .bool false, .bool false, .bool false] 34)).alloc (.cells #[.slice none 0 0, .int .i64 0, .bool false, .bool false, .bool false] 34) = V2
  obtain ⟨HK2, HR2, HBV2⟩ := tk_new2 _ _ _ _ _ _ _ _ _ _ _ _ hV
  have HQI : Hid (QI V0 [] 0 0 false false false none none 0 0 V2) := ⟨HK2.out, HR2.out, Rd.nil _ _, Rd.nil _ _, HBV2.out⟩
  clear hV HK2 HR2 HBV2 p0 p1 p2
  go_wp2_with fail
  go_loopw [7, 8] (fun v7 v8 wr => ∃ (i : Nat) (q : Bool) (l : List UInt8) (n t : Nat) (ov li h : Bool) (A5 A6 : Option Addr) (c5 c6 : Nat), i ≤ m ∧ v7 = .bool q ∧ v8 = .int .i64 i ∧ Hid (Ed.ok ⟨l, t, ov, li⟩ ∧ l.length = n ∧ (q = true → h = true ∨ (⟨l, t, ov, li⟩ : Ed) = zE)) ∧ Hid (QI V0 l n (t : Int) ov li h A5 A6 c5 c6 wr)) (fun _ v8 _ => m - (intOf v8).toNat)
  case atStart => exact ⟨0, true, [], 0, 0, false, false, false, none, none, 0, 0, by omega, rfl, rfl, ⟨zE_ok, rfl, fun _ => .inr rfl⟩, HQI⟩
  case round =>
    obtain ⟨i, q, l, n, t, ov, li, h, A5, A6, c5, c6, him, rfl, rfl, HI, HQ⟩ := hrel
    obtain ⟨V, hV⟩ : ∃ V, V = wr := ⟨_, rfl⟩
    subst hV
    obtain ⟨g1, g2, g3, g4, g5⟩ := HQ.out
    have HK5 := keepd g1
    have HK6 := keepd g2
    have HR5 := keepd g3
    have HR6 := keepd g4
    have HBV := keepd g5
    clear g1 g2 g3 g4 g5 HQ HQI
    by_cases hlt : i < m
    case neg =>
      obtain rfl : i = m := by omega
      have CE := keepd (esame_any A5 A6 l l n n c5 c6 (t : Int) (t : Int) ov ov li li true V HI.out.2.1.symm HI.out.2.1.symm HR5.out HR6.out (sameS_iff.2 ⟨rfl, rfl, rfl, rfl⟩))
      obtain ⟨k0, k1, k2, k3, k4, _, _, _, _, _, kt⟩ := tk_facts HK5.out
      obtain ⟨j0, j1, j2, j3, j4, _, _, _, _, _, jt⟩ := tk_facts HK6.out
      go_wp2_with fail
      with_reducible refine CE.out.mono ?_
      rintro e w3 ⟨rfl, hb3⟩
      have HB3 := keepd (bCall HB0.out (bCall HBV.out hb3))
      have CW := keepd (awake_any w3 (HLD.out.below HB3.out))
      clear hb3 CE k0 k1 k2 k3 k4 kt j0 j1 j2 j3 j4 jt
      go_wp2_with fail
      with_reducible refine CW.out.mono ?_
      rintro e w4 ⟨rfl, hb4⟩
      have HB4 := keepd (bCall HB3.out hb4)
      clear hb4 CW
      go_wp2_with fail
      go_ret
      exact ⟨rfl, HB4.out⟩
    have hil : i < us.length := by rw [HM0.out]; exact hlt
    obtain ⟨bA, offA, hA, hbA⟩ := HR0.out.addr (by omega)
    subst hA
    have hce := (HR0.out.at_ (bCall HB0.out HBV.out)).cellk hil
    obtain ⟨As, ds, hsl, hrs0⟩ := sub_one HM0.out HR0.out hil
    have hu0 : us.getD i 0 = us[i] := getD_at hil
    rw [hu0] at hce
    generalize us[i] = u at *
    have hrs := hrs0.at_ (bCall HB0.out HBV.out)
    have HSL := keepd hsl
    have hbA0 : bA < V0.heap.size := Nat.lt_of_lt_of_le hbA HB0.out.size
    clear hrs0 hsl
    have hbA2 : bA < V.heap.size := Nat.lt_of_lt_of_le hbA (bCall HB0.out HBV.out).size
    have i0 : (0 : Int) ≤ (i : Int) := by omega
    have i1 : (i : Int) < (m : Int) := by omega
    clear hil hu0
    obtain ⟨⟨⟨l1, t1, ov1, li1⟩, es, be⟩, hkey⟩ : ∃ r, keyE X room ⟨l, t, ov, li⟩ u = r := ⟨_, rfl⟩
    obtain ⟨n1, hn1⟩ : ∃ n1, l1.length = n1 := ⟨_, rfl⟩
    obtain ⟨me, hme⟩ : ∃ me, es.length = me := ⟨_, rfl⟩
    obtain ⟨bell, hbell⟩ : ∃ bell, decide (0 < be) = bell := ⟨_, rfl⟩
    have hn := HI.out.2.1
    have ht1 : t ≤ n := by have h0 := HI.out.1.1; rw [← hn]; exact h0
    have ht2 : n ≤ 4096 := by have h0 := HI.out.1.2; rw [← hn]; exact h0
    have hok1 : Ed.ok ⟨l1, t1, ov1, li1⟩ := by have h0 := keyE_ok HI.out.1 X room u; rw [hkey] at h0; exact h0
    obtain ⟨h1, ks, sg, htyp⟩ := typeT_ex (k := ⟨⟨l, t, ov, li⟩, h⟩) true false hkey
    obtain ⟨mk, hmk⟩ : ∃ mk, ks.length = mk := ⟨_, rfl⟩
    have HQU : Hid ((q && decide (me = 0)) = true → h1 = true ∧ mk = 0) := by
      intro h0
      obtain ⟨hq, hm0⟩ := quiet_and h0
      have h3 := typeT_quiet (X := X) (room := room) (k := ⟨⟨l, t, ov, li⟩, h⟩) (u := u) (HI.out.2.2 hq) (by rw [hkey]; exact List.eq_nil_of_length_eq_zero (by rw [hme]; exact hm0))
      rw [htyp] at h3
      exact ⟨h3.1, by rw [← hmk, show ks = [] from h3.2]; rfl⟩
    obtain ⟨fb, hfb⟩ : ∃ fb, decide (((i : Int).tmod 2) = 0) = fb := ⟨_, rfl⟩
    obtain ⟨sg2, hraw⟩ := typeT_rawx fb hkey
    have CK := keepd fun (W : World) (hb : Below V.heap.size V W) => key_good X room A5 l n c5 t ov li u W hn.symm (HR5.out.at_ hb) ht1 ht2 l1 n1 t1 ov1 li1 es me be bell hkey hn1 hme hbell
    have CTx := keepd fun (W : World) (hr : Rd W W.heap.size A5 l c5) => type_good X HX.out room A5 l n c5 t ov li h u true false W hn.symm hr ht1 ht2 l1 n1 t1 ov1 li1 h1 ks mk sg be bell htyp hn1 hmk hbell
    have CRx := keepd fun (W : World) (hr : Rd W W.heap.size A6 l c6) => type_good X HX.out room A6 l n c6 t ov li false u false fb W hn.symm hr ht1 ht2 l1 n1 t1 ov1 li1 false [u] 1 sg2 be bell hraw hn1 rfl hbell
    have HI1 : Hid (Ed.ok ⟨l1, t1, ov1, li1⟩ ∧ l1.length = n1) := ⟨hok1, hn1⟩
    have HFB := keepd hfb
    clear hkey hn1 hme hbell hn ht1 ht2 hok1 htyp hmk hraw hfb HI
    have FD : Hid (DK V w.heap.size X room) := SR.call HD.out HBV.out (SR.lt HD.out)
    have FT := keepd HK5.out
    have FU := keepd (And.intro hce hbA2)
    have HU0 := keepd hce
    go_upto_region 7 with fail
    go_cut [9, 10, 11] from 24 to 38 (fun s9 s10 s11 wx => ∃ (bk : Nat) (Bx : Option Addr) (dx : Nat), s9 = .pointer (some ⟨bk, 0, none⟩) ∧ s10 = .slice Bx me dx ∧ s11 = .bool bell ∧ Hid (Below V.heap.size V wx))
    case first =>
      refine wp_region_held_drew (S := fun W => rowOf W w.heap.size = (dk X room).toArray ∧ isRow W 27 w.heap.size 63 = true ∧ W.cell? ⟨w.heap.size, 62, none⟩ = some (.int .i64 room) ∧ W.cell? ⟨V0.heap.size, 0, none⟩ = some (.slice A5 n c5) ∧ W.cell? ⟨V0.heap.size, 1, none⟩ = some (.int .i64 (t : Int)) ∧ W.cell? ⟨V0.heap.size, 2, none⟩ = some (.bool ov) ∧ W.cell? ⟨V0.heap.size, 3, none⟩ = some (.bool li) ∧ W.cell? ⟨V0.heap.size, 4, none⟩ = some (.bool h) ∧ W.cell? ⟨bA, offA + i, none⟩ = some (.int .u8 (u.toNat : Int)) ∧ Below V.heap.size V W) (by kernel_rfl) (sDkT FD.out FT.out FU.out (Below.refl V.heap.size V).drew) (fun hHeld => ?_)
      refine wpAnyH_take (i := 0) (oi := { dst := some 25, op := Op.fieldAddr 27 (Operand.tmp 2) 0, type := 0, pos := "law.go:109", after := #[], guard := none }) (v := .pointer (some ⟨w.heap.size, 0, none⟩)) rfl (by kernel_rfl) (by kernel_rfl) (by kernel_rfl) (fun _ _ _ h => h) (Or.inl ⟨by rfl, fun W hW => ?_⟩) hHeld ?_
      · obtain ⟨q0, q1, q2, q3, q4, q5, q6, q7, q8, q9⟩ := hW
        go_simp
      simp only [Act.put, List.setIfInBounds_toArray, List.set_cons_zero, List.set_cons_succ]
      refine wpAnyH_take (i := 1) (oi := { dst := some 26, op := Op.load 25 (Operand.tmp 25), type := 25, pos := "law.go:109", after := #[{ on := 0, ground := Ground.data }], guard := none }) (v := tv X) rfl (by kernel_rfl) (by kernel_rfl) (by kernel_rfl) (fun _ _ _ h => h) (Or.inl ⟨by rfl, fun W hW => ?_⟩) hHeld ?_
      · obtain ⟨q0, q1, q2, q3, q4, q5, q6, q7, q8, q9⟩ := hW
        go_simp
      simp only [Act.put, List.setIfInBounds_toArray, List.set_cons_zero, List.set_cons_succ]
      refine wpAnyH_take (i := 2) (oi := { dst := some 27, op := Op.fieldAddr 27 (Operand.tmp 2) 1, type := 0, pos := "law.go:109", after := #[], guard := none }) (v := .pointer (some ⟨w.heap.size, 62, none⟩)) rfl (by kernel_rfl) (by kernel_rfl) (by kernel_rfl) (fun _ _ _ h => h) (Or.inl ⟨by rfl, fun W hW => ?_⟩) hHeld ?_
      · obtain ⟨q0, q1, q2, q3, q4, q5, q6, q7, q8, q9⟩ := hW
        go_simp
      simp only [Act.put, List.setIfInBounds_toArray, List.set_cons_zero, List.set_cons_succ]
      refine wpAnyH_take (i := 3) (oi := { dst := some 28, op := Op.load 3 (Operand.tmp 27), type := 3, pos := "law.go:109", after := #[{ on := 2, ground := Ground.data }], guard := none }) (v := .int .i64 room) rfl (by kernel_rfl) (by kernel_rfl) (by kernel_rfl) (fun _ _ _ h => h) (Or.inl ⟨by rfl, fun W hW => ?_⟩) hHeld ?_
      · obtain ⟨q0, q1, q2, q3, q4, q5, q6, q7, q8, q9⟩ := hW
        go_simp
      simp only [Act.put, List.setIfInBounds_toArray, List.set_cons_zero, List.set_cons_succ]
      refine wpAnyH_take (i := 4) (oi := { dst := some 29, op := Op.fieldAddr 34 (Operand.tmp 5) 0, type := 0, pos := "law.go:109", after := #[], guard := none }) (v := .pointer (some ⟨V0.heap.size, 0, none⟩)) rfl (by kernel_rfl) (by kernel_rfl) (by kernel_rfl) (fun _ _ _ h => h) (Or.inl ⟨by rfl, fun W hW => ?_⟩) hHeld ?_
      · obtain ⟨q0, q1, q2, q3, q4, q5, q6, q7, q8, q9⟩ := hW
        go_simp
      simp only [Act.put, List.setIfInBounds_toArray, List.set_cons_zero, List.set_cons_succ]
      refine wpAnyH_take (i := 5) (oi := { dst := some 30, op := Op.load 32 (Operand.tmp 29), type := 32, pos := "law.go:109", after := #[{ on := 4, ground := Ground.data }], guard := none }) (v := .agg #[.slice A5 n c5, .int .i64 (t : Int), .bool ov, .bool li]) rfl (by kernel_rfl) (by kernel_rfl) (by kernel_rfl) (fun _ _ _ h => h) (Or.inl ⟨by rfl, fun W hW => ?_⟩) hHeld ?_
      · obtain ⟨q0, q1, q2, q3, q4, q5, q6, q7, q8, q9⟩ := hW
        go_simp
      simp only [Act.put, List.setIfInBounds_toArray, List.set_cons_zero, List.set_cons_succ]
      refine wpAnyH_take (i := 6) (oi := { dst := some 31, op := Op.move (Operand.tmp 1), type := 28, pos := "law.go:109", after := #[], guard := none }) (v := .slice (some ⟨bA, offA, none⟩) m c) rfl (by kernel_rfl) (by kernel_rfl) (by kernel_rfl) (fun _ _ _ h => h) (Or.inl ⟨by rfl, fun W hW => ?_⟩) hHeld ?_
      · obtain ⟨q0, q1, q2, q3, q4, q5, q6, q7, q8, q9⟩ := hW
        go_simp
      simp only [Act.put, List.setIfInBounds_toArray, List.set_cons_zero, List.set_cons_succ]
      refine wpAnyH_take (i := 7) (oi := { dst := some 32, op := Op.move (Operand.tmp 8), type := 3, pos := "law.go:109", after := #[], guard := none }) (v := .int .i64 (i : Int)) rfl (by kernel_rfl) (by kernel_rfl) (by kernel_rfl) (fun _ _ _ h => h) (Or.inl ⟨by rfl, fun W hW => ?_⟩) hHeld ?_
      · obtain ⟨q0, q1, q2, q3, q4, q5, q6, q7, q8, q9⟩ := hW
        go_simp
      simp only [Act.put, List.setIfInBounds_toArray, List.set_cons_zero, List.set_cons_succ]
      refine wpAnyH_take (i := 8) (oi := { dst := some 33, op := Op.indexAddr 28 (Operand.tmp 31) (Operand.tmp 32), type := 0, pos := "law.go:109", after := #[{ on := 6, ground := Ground.data }, { on := 7, ground := Ground.data }], guard := none }) (v := .pointer (some ⟨bA, offA + i, none⟩)) rfl (by kernel_rfl) (by kernel_rfl) (by kernel_rfl) (fun _ _ _ h => h) (Or.inl ⟨by rfl, fun W hW => ?_⟩) hHeld ?_
      · obtain ⟨q0, q1, q2, q3, q4, q5, q6, q7, q8, q9⟩ := hW
        go_simp
      simp only [Act.put, List.setIfInBounds_toArray, List.set_cons_zero, List.set_cons_succ]
      refine wpAnyH_take (i := 9) (oi := { dst := some 34, op := Op.load 5 (Operand.tmp 33), type := 5, pos := "law.go:109", after := #[{ on := 8, ground := Ground.data }], guard := none }) (v := .int .u8 (u.toNat : Int)) rfl (by kernel_rfl) (by kernel_rfl) (by kernel_rfl) (fun _ _ _ h => h) (Or.inl ⟨by rfl, fun W hW => ?_⟩) hHeld ?_
      · obtain ⟨q0, q1, q2, q3, q4, q5, q6, q7, q8, q9⟩ := hW
        go_simp
      simp only [Act.put, List.setIfInBounds_toArray, List.set_cons_zero, List.set_cons_succ]
      refine wpAnyH_ready (rs := [10, 15]) (by kernel_rfl) (by simp) ?_
      refine AllReadyH.cons (o := { dst := some 35, op := Op.call { callee := Callee.value (Operand.func 20), args := #[Operand.tmp 26, Operand.tmp 28, Operand.tmp 30, Operand.tmp 34], argTypes := #[25, 3, 32, 5] }, type := 56, pos := "law.go:109", after := #[{ on := 1, ground := Ground.data }, { on := 3, ground := Ground.data }, { on := 5, ground := Ground.data }, { on := 9, ground := Ground.data }], guard := none }) rfl (fun K hK => ?_) (AllReadyH.cons (o := { dst := some 9, op := Op.alloc 32, type := 0, pos := "law.go:109", after := #[], guard := none }) rfl (fun K hK => ?_) AllReadyH.nil)
      · go_simp
        with_reducible refine (CK.out (V).drew (Below.refl V.heap.size V).drew).mono ?_
        rintro e wx1 ⟨Ak, ck, Bk, dk, Lk, rfl, _, _, _, _, hcx1⟩
        have hbx1 : Below V.heap.size V wx1 := bCall (Below.refl V.heap.size V).drew hcx1
        go_wp2_with fail
        refine hK.out _ _ (sDkT FD.out FT.out FU.out hbx1) (fun hHeld2 => ?_)
        clear hK K hHeld
        have hHeld := hHeld2
        clear hHeld2
        try simp only [Act.put, List.setIfInBounds_toArray, List.set_cons_zero, List.set_cons_succ]
        refine wpAnyH_take (i := 11) (oi := { dst := some 24, op := Op.move (Operand.tmp 35), type := 56, pos := "law.go:109", after := #[{ on := 10, ground := Ground.data }], guard := none }) (v := .tuple #[.agg #[.slice Ak n1 ck, .int .i64 (t1 : Int), .bool ov1, .bool li1], .slice Bk me dk, .bool bell]) rfl (by kernel_rfl) (by kernel_rfl) (by kernel_rfl) (fun _ _ _ h => h) (Or.inl ⟨by rfl, fun W hW => ?_⟩) hHeld ?_
        · obtain ⟨q0, q1, q2, q3, q4, q5, q6, q7, q8, q9⟩ := hW
          go_simp
        simp only [Act.put, List.setIfInBounds_toArray, List.set_cons_zero, List.set_cons_succ]
        refine wpAnyH_take (i := 12) (oi := { dst := some 36, op := Op.extract (Operand.tmp 24) 0, type := 32, pos := "law.go:109", after := #[{ on := 11, ground := Ground.data }], guard := none }) (v := .agg #[.slice Ak n1 ck, .int .i64 (t1 : Int), .bool ov1, .bool li1]) rfl (by kernel_rfl) (by kernel_rfl) (by kernel_rfl) (fun _ _ _ h => h) (Or.inl ⟨by rfl, fun W hW => ?_⟩) hHeld ?_
        · obtain ⟨q0, q1, q2, q3, q4, q5, q6, q7, q8, q9⟩ := hW
          go_simp
        simp only [Act.put, List.setIfInBounds_toArray, List.set_cons_zero, List.set_cons_succ]
        refine wpAnyH_take (i := 13) (oi := { dst := some 37, op := Op.extract (Operand.tmp 24) 1, type := 53, pos := "law.go:109", after := #[{ on := 11, ground := Ground.data }, { on := 16, ground := Ground.gcOnly Departure.lateStores }], guard := none }) (v := .slice Bk me dk) rfl (by kernel_rfl) (by kernel_rfl) (by kernel_rfl) (fun _ _ _ h => h) (Or.inl ⟨by rfl, fun W hW => ?_⟩) hHeld ?_
        · obtain ⟨q0, q1, q2, q3, q4, q5, q6, q7, q8, q9⟩ := hW
          go_simp
        simp only [Act.put, List.setIfInBounds_toArray, List.set_cons_zero, List.set_cons_succ]
        refine wpAnyH_take (i := 14) (oi := { dst := some 38, op := Op.extract (Operand.tmp 24) 2, type := 4, pos := "law.go:109", after := #[{ on := 11, ground := Ground.data }, { on := 17, ground := Ground.gcOnly Departure.lateStores }], guard := none }) (v := .bool bell) rfl (by kernel_rfl) (by kernel_rfl) (by kernel_rfl) (fun _ _ _ h => h) (Or.inl ⟨by rfl, fun W hW => ?_⟩) hHeld ?_
        · obtain ⟨q0, q1, q2, q3, q4, q5, q6, q7, q8, q9⟩ := hW
          go_simp
        simp only [Act.put, List.setIfInBounds_toArray, List.set_cons_zero, List.set_cons_succ]
        refine wpAnyH_ready (rs := [15]) (by kernel_rfl) (by simp) ?_
        refine AllReadyH.cons (o := { dst := some 9, op := Op.alloc 32, type := 0, pos := "law.go:109", after := #[], guard := none }) rfl (fun K hK => ?_) AllReadyH.nil
        go_simp
        have hbx2 : Below V.heap.size V (wx1.alloc (.cells #[.slice none 0 0, .int .i64 0, .bool false, .bool false] 32)) := bAlloc hbx1 (.cells #[.slice none 0 0, .int .i64 0, .bool false, .bool false] 32)
        have hzx2 : SR 32 (wx1.alloc (.cells #[.slice none 0 0, .int .i64 0, .bool false, .bool false] 32)) (wx1.heap.size) [.slice none 0 0, .int .i64 0, .bool false, .bool false] := SR.new 32 (wx1) [.slice none 0 0, .int .i64 0, .bool false, .bool false]
        have hvx2 : V.heap.size ≤ wx1.heap.size := by have h0 := Below.size hbx1; exact h0
        refine hK.out _ _ (sDkT FD.out FT.out FU.out hbx2) (fun hHeld2 => ?_)
        clear hK K hHeld
        have hHeld := hHeld2
        clear hHeld2
        try simp only [Act.put, List.setIfInBounds_toArray, List.set_cons_zero, List.set_cons_succ]
        generalize hWx2 : wx1.alloc (.cells #[.slice none 0 0, .int .i64 0, .bool false, .bool false] 32) = Wx2 at *
        clear hWx2
        obtain ⟨y0, y1, y2, y3, y4, y5, y6, y7, y8⟩ := st_facts hzx2
        have hbS : Below V.heap.size V (set4 Wx2 wx1.heap.size (.slice Ak n1 ck) (.int .i64 (t1 : Int)) (.bool ov1) (.bool li1)) := set4_below hbx2 hvx2
        refine wpAnyH_ready (rs := [16]) (by kernel_rfl) (by simp) ?_
        refine AllReadyH.cons (o := { dst := none, op := Op.store 32 (Operand.tmp 9) (Operand.tmp 36), type := 0, pos := "law.go:109", after := #[{ on := 15, ground := Ground.data }, { on := 12, ground := Ground.data }, { on := 10, ground := Ground.chain }, { on := 0, ground := Ground.phase }, { on := 1, ground := Ground.phase }, { on := 2, ground := Ground.phase }, { on := 3, ground := Ground.phase }, { on := 4, ground := Ground.phase }, { on := 5, ground := Ground.phase }, { on := 6, ground := Ground.phase }, { on := 7, ground := Ground.phase }, { on := 8, ground := Ground.phase }, { on := 9, ground := Ground.phase }, { on := 10, ground := Ground.phase }, { on := 11, ground := Ground.phase }, { on := 12, ground := Ground.phase }, { on := 13, ground := Ground.textOnly Departure.lateStores }, { on := 14, ground := Ground.textOnly Departure.lateStores }, { on := 15, ground := Ground.phase }], guard := none }) rfl (fun K hK => ?_) AllReadyH.nil
        go_simp
        refine hK.out _ (set4 Wx2 wx1.heap.size (.slice Ak n1 ck) (.int .i64 (t1 : Int)) (.bool ov1) (.bool li1)) (sDkT FD.out FT.out FU.out hbS) (fun hHeld2 => ?_)
        clear hK K hHeld
        have hHeld := hHeld2
        clear hHeld2
        try simp only [Act.put, List.setIfInBounds_toArray, List.set_cons_zero, List.set_cons_succ]
        refine wpAnyH_take (i := 17) (oi := { dst := some 10, op := Op.assign (Operand.tmp 37), type := 53, pos := "law.go:109", after := #[{ on := 13, ground := Ground.data }, { on := 16, ground := Ground.chain }, { on := 0, ground := Ground.phase }, { on := 1, ground := Ground.phase }, { on := 2, ground := Ground.phase }, { on := 3, ground := Ground.phase }, { on := 4, ground := Ground.phase }, { on := 5, ground := Ground.phase }, { on := 6, ground := Ground.phase }, { on := 7, ground := Ground.phase }, { on := 8, ground := Ground.phase }, { on := 9, ground := Ground.phase }, { on := 10, ground := Ground.phase }, { on := 11, ground := Ground.phase }, { on := 12, ground := Ground.phase }, { on := 13, ground := Ground.phase }, { on := 14, ground := Ground.textOnly Departure.lateStores }, { on := 15, ground := Ground.phase }, { on := 16, ground := Ground.phase }], guard := none }) (v := .slice Bk me dk) rfl (by kernel_rfl) (by kernel_rfl) (by kernel_rfl) (fun _ _ _ h => h) (Or.inl ⟨by rfl, fun W hW => ?_⟩) hHeld ?_
        · obtain ⟨q0, q1, q2, q3, q4, q5, q6, q7, q8, q9⟩ := hW
          go_simp
        simp only [Act.put, List.setIfInBounds_toArray, List.set_cons_zero, List.set_cons_succ]
        refine wpAnyH_take (i := 18) (oi := { dst := some 11, op := Op.assign (Operand.tmp 38), type := 4, pos := "law.go:109", after := #[{ on := 14, ground := Ground.data }, { on := 17, ground := Ground.chain }, { on := 0, ground := Ground.phase }, { on := 1, ground := Ground.phase }, { on := 2, ground := Ground.phase }, { on := 3, ground := Ground.phase }, { on := 4, ground := Ground.phase }, { on := 5, ground := Ground.phase }, { on := 6, ground := Ground.phase }, { on := 7, ground := Ground.phase }, { on := 8, ground := Ground.phase }, { on := 9, ground := Ground.phase }, { on := 10, ground := Ground.phase }, { on := 11, ground := Ground.phase }, { on := 12, ground := Ground.phase }, { on := 13, ground := Ground.phase }, { on := 14, ground := Ground.phase }, { on := 15, ground := Ground.phase }, { on := 16, ground := Ground.phase }, { on := 17, ground := Ground.phase }], guard := none }) (v := .bool bell) rfl (by kernel_rfl) (by kernel_rfl) (by kernel_rfl) (fun _ _ _ h => h) (Or.inl ⟨by rfl, fun W hW => ?_⟩) hHeld ?_
        · obtain ⟨q0, q1, q2, q3, q4, q5, q6, q7, q8, q9⟩ := hW
          go_simp
        simp only [Act.put, List.setIfInBounds_toArray, List.set_cons_zero, List.set_cons_succ]
        refine wpAnyH_done (by kernel_rfl) ?_ _
        go_wp2_with fail
        go_meet
        exact ⟨_, _, _, rfl, rfl, rfl, hbS⟩
      · go_simp
        have hbx3 : Below V.heap.size V ((V.alloc (.cells #[.slice none 0 0, .int .i64 0, .bool false, .bool false] 32)).drew) := bAlloc (Below.refl V.heap.size V).drew (.cells #[.slice none 0 0, .int .i64 0, .bool false, .bool false] 32)
        have hzx3 : SR 32 ((V.alloc (.cells #[.slice none 0 0, .int .i64 0, .bool false, .bool false] 32)).drew) (V.heap.size) [.slice none 0 0, .int .i64 0, .bool false, .bool false] := SR.new 32 (V) [.slice none 0 0, .int .i64 0, .bool false, .bool false]
        have hvx3 : V.heap.size ≤ V.heap.size := by have h0 := Below.size (Below.refl V.heap.size V).drew; exact h0
        refine hK.out _ _ (sDkT FD.out FT.out FU.out hbx3) (fun hHeld2 => ?_)
        clear hK K hHeld
        have hHeld := hHeld2
        clear hHeld2
        try simp only [Act.put, List.setIfInBounds_toArray, List.set_cons_zero, List.set_cons_succ]
        generalize hWx3 : (V.alloc (.cells #[.slice none 0 0, .int .i64 0, .bool false, .bool false] 32)).drew = Wx3 at *
        clear hWx3
        refine wpAnyH_ready (rs := [10]) (by kernel_rfl) (by simp) ?_
        refine AllReadyH.cons (o := { dst := some 35, op := Op.call { callee := Callee.value (Operand.func 20), args := #[Operand.tmp 26, Operand.tmp 28, Operand.tmp 30, Operand.tmp 34], argTypes := #[25, 3, 32, 5] }, type := 56, pos := "law.go:109", after := #[{ on := 1, ground := Ground.data }, { on := 3, ground := Ground.data }, { on := 5, ground := Ground.data }, { on := 9, ground := Ground.data }], guard := none }) rfl (fun K hK => ?_) AllReadyH.nil
        go_simp
        with_reducible refine (CK.out Wx3 hbx3).mono ?_
        rintro e wx4 ⟨Ak, ck, Bk, dk, Lk, rfl, _, _, _, _, hcx4⟩
        have hbx4 : Below V.heap.size V wx4 := bCall hbx3 hcx4
        have hzx4_15 := SR.call hzx3 hcx4 (hzx3).lt
        go_wp2_with fail
        refine hK.out _ _ (sDkT FD.out FT.out FU.out hbx4) (fun hHeld2 => ?_)
        clear hK K hHeld
        have hHeld := hHeld2
        clear hHeld2
        try simp only [Act.put, List.setIfInBounds_toArray, List.set_cons_zero, List.set_cons_succ]
        refine wpAnyH_take (i := 11) (oi := { dst := some 24, op := Op.move (Operand.tmp 35), type := 56, pos := "law.go:109", after := #[{ on := 10, ground := Ground.data }], guard := none }) (v := .tuple #[.agg #[.slice Ak n1 ck, .int .i64 (t1 : Int), .bool ov1, .bool li1], .slice Bk me dk, .bool bell]) rfl (by kernel_rfl) (by kernel_rfl) (by kernel_rfl) (fun _ _ _ h => h) (Or.inl ⟨by rfl, fun W hW => ?_⟩) hHeld ?_
        · obtain ⟨q0, q1, q2, q3, q4, q5, q6, q7, q8, q9⟩ := hW
          go_simp
        simp only [Act.put, List.setIfInBounds_toArray, List.set_cons_zero, List.set_cons_succ]
        refine wpAnyH_take (i := 12) (oi := { dst := some 36, op := Op.extract (Operand.tmp 24) 0, type := 32, pos := "law.go:109", after := #[{ on := 11, ground := Ground.data }], guard := none }) (v := .agg #[.slice Ak n1 ck, .int .i64 (t1 : Int), .bool ov1, .bool li1]) rfl (by kernel_rfl) (by kernel_rfl) (by kernel_rfl) (fun _ _ _ h => h) (Or.inl ⟨by rfl, fun W hW => ?_⟩) hHeld ?_
        · obtain ⟨q0, q1, q2, q3, q4, q5, q6, q7, q8, q9⟩ := hW
          go_simp
        simp only [Act.put, List.setIfInBounds_toArray, List.set_cons_zero, List.set_cons_succ]
        refine wpAnyH_take (i := 13) (oi := { dst := some 37, op := Op.extract (Operand.tmp 24) 1, type := 53, pos := "law.go:109", after := #[{ on := 11, ground := Ground.data }, { on := 16, ground := Ground.gcOnly Departure.lateStores }], guard := none }) (v := .slice Bk me dk) rfl (by kernel_rfl) (by kernel_rfl) (by kernel_rfl) (fun _ _ _ h => h) (Or.inl ⟨by rfl, fun W hW => ?_⟩) hHeld ?_
        · obtain ⟨q0, q1, q2, q3, q4, q5, q6, q7, q8, q9⟩ := hW
          go_simp
        simp only [Act.put, List.setIfInBounds_toArray, List.set_cons_zero, List.set_cons_succ]
        refine wpAnyH_take (i := 14) (oi := { dst := some 38, op := Op.extract (Operand.tmp 24) 2, type := 4, pos := "law.go:109", after := #[{ on := 11, ground := Ground.data }, { on := 17, ground := Ground.gcOnly Departure.lateStores }], guard := none }) (v := .bool bell) rfl (by kernel_rfl) (by kernel_rfl) (by kernel_rfl) (fun _ _ _ h => h) (Or.inl ⟨by rfl, fun W hW => ?_⟩) hHeld ?_
        · obtain ⟨q0, q1, q2, q3, q4, q5, q6, q7, q8, q9⟩ := hW
          go_simp
        simp only [Act.put, List.setIfInBounds_toArray, List.set_cons_zero, List.set_cons_succ]
        obtain ⟨y0, y1, y2, y3, y4, y5, y6, y7, y8⟩ := st_facts hzx4_15
        have hbS : Below V.heap.size V (set4 wx4 V.heap.size (.slice Ak n1 ck) (.int .i64 (t1 : Int)) (.bool ov1) (.bool li1)) := set4_below hbx4 hvx3
        refine wpAnyH_ready (rs := [16]) (by kernel_rfl) (by simp) ?_
        refine AllReadyH.cons (o := { dst := none, op := Op.store 32 (Operand.tmp 9) (Operand.tmp 36), type := 0, pos := "law.go:109", after := #[{ on := 15, ground := Ground.data }, { on := 12, ground := Ground.data }, { on := 10, ground := Ground.chain }, { on := 0, ground := Ground.phase }, { on := 1, ground := Ground.phase }, { on := 2, ground := Ground.phase }, { on := 3, ground := Ground.phase }, { on := 4, ground := Ground.phase }, { on := 5, ground := Ground.phase }, { on := 6, ground := Ground.phase }, { on := 7, ground := Ground.phase }, { on := 8, ground := Ground.phase }, { on := 9, ground := Ground.phase }, { on := 10, ground := Ground.phase }, { on := 11, ground := Ground.phase }, { on := 12, ground := Ground.phase }, { on := 13, ground := Ground.textOnly Departure.lateStores }, { on := 14, ground := Ground.textOnly Departure.lateStores }, { on := 15, ground := Ground.phase }], guard := none }) rfl (fun K hK => ?_) AllReadyH.nil
        go_simp
        refine hK.out _ (set4 wx4 V.heap.size (.slice Ak n1 ck) (.int .i64 (t1 : Int)) (.bool ov1) (.bool li1)) (sDkT FD.out FT.out FU.out hbS) (fun hHeld2 => ?_)
        clear hK K hHeld
        have hHeld := hHeld2
        clear hHeld2
        try simp only [Act.put, List.setIfInBounds_toArray, List.set_cons_zero, List.set_cons_succ]
        refine wpAnyH_take (i := 17) (oi := { dst := some 10, op := Op.assign (Operand.tmp 37), type := 53, pos := "law.go:109", after := #[{ on := 13, ground := Ground.data }, { on := 16, ground := Ground.chain }, { on := 0, ground := Ground.phase }, { on := 1, ground := Ground.phase }, { on := 2, ground := Ground.phase }, { on := 3, ground := Ground.phase }, { on := 4, ground := Ground.phase }, { on := 5, ground := Ground.phase }, { on := 6, ground := Ground.phase }, { on := 7, ground := Ground.phase }, { on := 8, ground := Ground.phase }, { on := 9, ground := Ground.phase }, { on := 10, ground := Ground.phase }, { on := 11, ground := Ground.phase }, { on := 12, ground := Ground.phase }, { on := 13, ground := Ground.phase }, { on := 14, ground := Ground.textOnly Departure.lateStores }, { on := 15, ground := Ground.phase }, { on := 16, ground := Ground.phase }], guard := none }) (v := .slice Bk me dk) rfl (by kernel_rfl) (by kernel_rfl) (by kernel_rfl) (fun _ _ _ h => h) (Or.inl ⟨by rfl, fun W hW => ?_⟩) hHeld ?_
        · obtain ⟨q0, q1, q2, q3, q4, q5, q6, q7, q8, q9⟩ := hW
          go_simp
        simp only [Act.put, List.setIfInBounds_toArray, List.set_cons_zero, List.set_cons_succ]
        refine wpAnyH_take (i := 18) (oi := { dst := some 11, op := Op.assign (Operand.tmp 38), type := 4, pos := "law.go:109", after := #[{ on := 14, ground := Ground.data }, { on := 17, ground := Ground.chain }, { on := 0, ground := Ground.phase }, { on := 1, ground := Ground.phase }, { on := 2, ground := Ground.phase }, { on := 3, ground := Ground.phase }, { on := 4, ground := Ground.phase }, { on := 5, ground := Ground.phase }, { on := 6, ground := Ground.phase }, { on := 7, ground := Ground.phase }, { on := 8, ground := Ground.phase }, { on := 9, ground := Ground.phase }, { on := 10, ground := Ground.phase }, { on := 11, ground := Ground.phase }, { on := 12, ground := Ground.phase }, { on := 13, ground := Ground.phase }, { on := 14, ground := Ground.phase }, { on := 15, ground := Ground.phase }, { on := 16, ground := Ground.phase }, { on := 17, ground := Ground.phase }], guard := none }) (v := .bool bell) rfl (by kernel_rfl) (by kernel_rfl) (by kernel_rfl) (fun _ _ _ h => h) (Or.inl ⟨by rfl, fun W hW => ?_⟩) hHeld ?_
        · obtain ⟨q0, q1, q2, q3, q4, q5, q6, q7, q8, q9⟩ := hW
          go_simp
        simp only [Act.put, List.setIfInBounds_toArray, List.set_cons_zero, List.set_cons_succ]
        refine wpAnyH_done (by kernel_rfl) ?_ _
        go_wp2_with fail
        go_meet
        exact ⟨_, _, _, rfl, rfl, rfl, hbS⟩
    case rest =>
      obtain ⟨bk, Bx, dx, rfl, rfl, rfl, HBx⟩ := hcut
      obtain ⟨V7, hV7⟩ : ∃ V7, V7 = wc := ⟨_, rfl⟩
      subst hV7
      have HK57 := keepd (SR.call HK5.out HBx.out HK5.out.lt)
      have HK67 := keepd (SR.call HK6.out HBx.out HK6.out.lt)
      have HR57 := keepd (HR5.out.at_ HBx.out)
      have HR67 := keepd (HR6.out.at_ HBx.out)
      have HBV7 := keepd (bCall HBV.out HBx.out)
      have HS7 := keepd (hrs.at_ HBx.out)
      have hbA7 : bA < V7.heap.size := Nat.lt_of_lt_of_le hbA2 HBx.out.size
      have FU9 : Hid (V7.cell? ⟨bA, offA + i, none⟩ = some (.int .u8 (u.toNat : Int)) ∧ bA < V7.heap.size) := ⟨(HBx.out.cell (p := ⟨bA, offA + i, none⟩) hbA2).trans hce, hbA7⟩
      have FD9 : Hid (DK V7 w.heap.size X room) := SR.call HD.out HBV7.out (SR.lt HD.out)
      have FT9 := keepd HK57.out
      clear CK FD FT FU HU0 HBx HK5 HK6 HR5 HR6 HBV hrs hbA2 hce
      obtain ⟨d0, hd0⟩ : ∃ d0, decide (me = 0) = d0 := ⟨_, rfl⟩
      have hd1 : ((me : Int) == 0) = d0 := by rw [← hd0]; by_cases h0 : me = 0 <;> simp [h0]
      rw [hd0] at HQU
      clear hd0
      go_upto_region 8 with fail
      go_cut [7] from 39 to 44 (fun s7 wx => s7 = .bool (q && d0) ∧ V7 = wx)
      case first =>
        cases q
        · go_wp2_with fail
          go_meet
          exact ⟨rfl, rfl⟩
        · go_wp2_with fail
          go_meet
          exact ⟨rfl, rfl⟩
      case rest =>
        obtain ⟨rfl, rfl⟩ := hcut
        generalize (q && d0) = q1 at *
        clear hd1
        have CT := keepd fun (W : World) (hb : Below V7.heap.size V7 W) => CTx.out W (HR57.out.at_ hb)
        go_upto_region 9 with fail
        go_cut [12, 13] from 45 to 57 (fun s12 s13 wx => ∃ (b y : Nat) (Ay : Option Addr) (cy : Nat) (By : Option Addr) (dy : Nat), s12 = .pointer (some ⟨b, 0, none⟩) ∧ s13 = .pointer (some ⟨y, 0, none⟩) ∧ Hid (MidY V7 b y l1 Ay n1 cy (t1 : Int) ov1 li1 h1 ks By mk dy (sg : Int) bell wx))
        case first =>
          refine wp_region_held_drew (S := fun W => rowOf W w.heap.size = (dk X room).toArray ∧ isRow W 27 w.heap.size 63 = true ∧ W.cell? ⟨w.heap.size, 62, none⟩ = some (.int .i64 room) ∧ W.cell? ⟨V0.heap.size, 0, none⟩ = some (.slice A5 n c5) ∧ W.cell? ⟨V0.heap.size, 1, none⟩ = some (.int .i64 (t : Int)) ∧ W.cell? ⟨V0.heap.size, 2, none⟩ = some (.bool ov) ∧ W.cell? ⟨V0.heap.size, 3, none⟩ = some (.bool li) ∧ W.cell? ⟨V0.heap.size, 4, none⟩ = some (.bool h) ∧ W.cell? ⟨bA, offA + i, none⟩ = some (.int .u8 (u.toNat : Int)) ∧ Below V7.heap.size V7 W) (by kernel_rfl) (sDkT FD9.out FT9.out FU9.out (Below.refl V7.heap.size V7).drew) (fun hHeld => ?_)
          refine wpAnyH_take (i := 0) (oi := { dst := some 46, op := Op.fieldAddr 27 (Operand.tmp 2) 0, type := 0, pos := "law.go:111", after := #[], guard := none }) (v := .pointer (some ⟨w.heap.size, 0, none⟩)) rfl (by kernel_rfl) (by kernel_rfl) (by kernel_rfl) (fun _ _ _ h => h) (Or.inl ⟨by rfl, fun W hW => ?_⟩) hHeld ?_
          · obtain ⟨q0, q1, q2, q3, q4, q5, q6, q7, q8, q9⟩ := hW
            go_simp
          simp only [Act.put, List.setIfInBounds_toArray, List.set_cons_zero, List.set_cons_succ]
          refine wpAnyH_take (i := 1) (oi := { dst := some 47, op := Op.load 25 (Operand.tmp 46), type := 25, pos := "law.go:111", after := #[{ on := 0, ground := Ground.data }], guard := none }) (v := tv X) rfl (by kernel_rfl) (by kernel_rfl) (by kernel_rfl) (fun _ _ _ h => h) (Or.inl ⟨by rfl, fun W hW => ?_⟩) hHeld ?_
          · obtain ⟨q0, q1, q2, q3, q4, q5, q6, q7, q8, q9⟩ := hW
            go_simp
          simp only [Act.put, List.setIfInBounds_toArray, List.set_cons_zero, List.set_cons_succ]
          refine wpAnyH_take (i := 2) (oi := { dst := some 48, op := Op.fieldAddr 27 (Operand.tmp 2) 1, type := 0, pos := "law.go:111", after := #[], guard := none }) (v := .pointer (some ⟨w.heap.size, 62, none⟩)) rfl (by kernel_rfl) (by kernel_rfl) (by kernel_rfl) (fun _ _ _ h => h) (Or.inl ⟨by rfl, fun W hW => ?_⟩) hHeld ?_
          · obtain ⟨q0, q1, q2, q3, q4, q5, q6, q7, q8, q9⟩ := hW
            go_simp
          simp only [Act.put, List.setIfInBounds_toArray, List.set_cons_zero, List.set_cons_succ]
          refine wpAnyH_take (i := 3) (oi := { dst := some 49, op := Op.load 3 (Operand.tmp 48), type := 3, pos := "law.go:111", after := #[{ on := 2, ground := Ground.data }], guard := none }) (v := .int .i64 room) rfl (by kernel_rfl) (by kernel_rfl) (by kernel_rfl) (fun _ _ _ h => h) (Or.inl ⟨by rfl, fun W hW => ?_⟩) hHeld ?_
          · obtain ⟨q0, q1, q2, q3, q4, q5, q6, q7, q8, q9⟩ := hW
            go_simp
          simp only [Act.put, List.setIfInBounds_toArray, List.set_cons_zero, List.set_cons_succ]
          refine wpAnyH_take (i := 4) (oi := { dst := some 50, op := Op.load 34 (Operand.tmp 5), type := 34, pos := "law.go:111", after := #[], guard := none }) (v := .agg #[.slice A5 n c5, .int .i64 (t : Int), .bool ov, .bool li, .bool h]) rfl (by kernel_rfl) (by kernel_rfl) (by kernel_rfl) (fun _ _ _ h => h) (Or.inl ⟨by rfl, fun W hW => ?_⟩) hHeld ?_
          · obtain ⟨q0, q1, q2, q3, q4, q5, q6, q7, q8, q9⟩ := hW
            go_simp
          simp only [Act.put, List.setIfInBounds_toArray, List.set_cons_zero, List.set_cons_succ]
          refine wpAnyH_take (i := 5) (oi := { dst := some 51, op := Op.move (Operand.tmp 1), type := 28, pos := "law.go:111", after := #[], guard := none }) (v := .slice (some ⟨bA, offA, none⟩) m c) rfl (by kernel_rfl) (by kernel_rfl) (by kernel_rfl) (fun _ _ _ h => h) (Or.inl ⟨by rfl, fun W hW => ?_⟩) hHeld ?_
          · obtain ⟨q0, q1, q2, q3, q4, q5, q6, q7, q8, q9⟩ := hW
            go_simp
          simp only [Act.put, List.setIfInBounds_toArray, List.set_cons_zero, List.set_cons_succ]
          refine wpAnyH_take (i := 6) (oi := { dst := some 52, op := Op.move (Operand.tmp 8), type := 3, pos := "law.go:111", after := #[], guard := none }) (v := .int .i64 (i : Int)) rfl (by kernel_rfl) (by kernel_rfl) (by kernel_rfl) (fun _ _ _ h => h) (Or.inl ⟨by rfl, fun W hW => ?_⟩) hHeld ?_
          · obtain ⟨q0, q1, q2, q3, q4, q5, q6, q7, q8, q9⟩ := hW
            go_simp
          simp only [Act.put, List.setIfInBounds_toArray, List.set_cons_zero, List.set_cons_succ]
          refine wpAnyH_take (i := 7) (oi := { dst := some 53, op := Op.indexAddr 28 (Operand.tmp 51) (Operand.tmp 52), type := 0, pos := "law.go:111", after := #[{ on := 5, ground := Ground.data }, { on := 6, ground := Ground.data }], guard := none }) (v := .pointer (some ⟨bA, offA + i, none⟩)) rfl (by kernel_rfl) (by kernel_rfl) (by kernel_rfl) (fun _ _ _ h => h) (Or.inl ⟨by rfl, fun W hW => ?_⟩) hHeld ?_
          · obtain ⟨q0, q1, q2, q3, q4, q5, q6, q7, q8, q9⟩ := hW
            go_simp
          simp only [Act.put, List.setIfInBounds_toArray, List.set_cons_zero, List.set_cons_succ]
          refine wpAnyH_take (i := 8) (oi := { dst := some 54, op := Op.load 5 (Operand.tmp 53), type := 5, pos := "law.go:111", after := #[{ on := 7, ground := Ground.data }], guard := none }) (v := .int .u8 (u.toNat : Int)) rfl (by kernel_rfl) (by kernel_rfl) (by kernel_rfl) (fun _ _ _ h => h) (Or.inl ⟨by rfl, fun W hW => ?_⟩) hHeld ?_
          · obtain ⟨q0, q1, q2, q3, q4, q5, q6, q7, q8, q9⟩ := hW
            go_simp
          simp only [Act.put, List.setIfInBounds_toArray, List.set_cons_zero, List.set_cons_succ]
          refine wpAnyH_ready (rs := [9, 13, 14]) (by kernel_rfl) (by simp) ?_
          refine AllReadyH.cons (o := { dst := some 55, op := Op.call { callee := Callee.value (Operand.func 11), args := #[Operand.tmp 47, Operand.tmp 49, Operand.tmp 50, Operand.tmp 54, Operand.const (Value.bool true), Operand.const (Value.bool false)], argTypes := #[25, 3, 34, 5, 4, 4] }, type := 42, pos := "law.go:111", after := #[{ on := 1, ground := Ground.data }, { on := 3, ground := Ground.data }, { on := 4, ground := Ground.data }, { on := 8, ground := Ground.data }], guard := none }) rfl (fun K hK => ?_) (AllReadyH.cons (o := { dst := some 12, op := Op.alloc 34, type := 0, pos := "law.go:111", after := #[], guard := none }) rfl (fun K hK => ?_) (AllReadyH.cons (o := { dst := some 13, op := Op.alloc 41, type := 0, pos := "law.go:111", after := #[], guard := none }) rfl (fun K hK => ?_) AllReadyH.nil))
          · go_simp
            with_reducible refine (CT.out (V7).drew (Below.refl V7.heap.size V7).drew).mono ?_
            rintro e wy1 ⟨Ay, cy, By, dy, rfl, hxy1, hsy1, hcy1⟩
            have hby1 : Below V7.heap.size V7 wy1 := bCall (Below.refl V7.heap.size V7).drew hcy1
            go_wp2_with fail
            refine hK.out _ _ (sDkT FD9.out FT9.out FU9.out hby1) (fun hHeld2 => ?_)
            clear hK K hHeld
            have hHeld := hHeld2
            clear hHeld2
            try simp only [Act.put, List.setIfInBounds_toArray, List.set_cons_zero, List.set_cons_succ]
            refine wpAnyH_take (i := 10) (oi := { dst := some 45, op := Op.move (Operand.tmp 55), type := 42, pos := "law.go:111", after := #[{ on := 9, ground := Ground.data }], guard := none }) (v := .tuple #[.agg #[.slice Ay n1 cy, .int .i64 (t1 : Int), .bool ov1, .bool li1, .bool h1], .agg #[.slice By mk dy, .int .i64 (sg : Int), .bool bell]]) rfl (by kernel_rfl) (by kernel_rfl) (by kernel_rfl) (fun _ _ _ h => h) (Or.inl ⟨by rfl, fun W hW => ?_⟩) hHeld ?_
            · obtain ⟨q0, q1, q2, q3, q4, q5, q6, q7, q8, q9⟩ := hW
              go_simp
            simp only [Act.put, List.setIfInBounds_toArray, List.set_cons_zero, List.set_cons_succ]
            refine wpAnyH_take (i := 11) (oi := { dst := some 56, op := Op.extract (Operand.tmp 45) 0, type := 34, pos := "law.go:111", after := #[{ on := 10, ground := Ground.data }], guard := none }) (v := .agg #[.slice Ay n1 cy, .int .i64 (t1 : Int), .bool ov1, .bool li1, .bool h1]) rfl (by kernel_rfl) (by kernel_rfl) (by kernel_rfl) (fun _ _ _ h => h) (Or.inl ⟨by rfl, fun W hW => ?_⟩) hHeld ?_
            · obtain ⟨q0, q1, q2, q3, q4, q5, q6, q7, q8, q9⟩ := hW
              go_simp
            simp only [Act.put, List.setIfInBounds_toArray, List.set_cons_zero, List.set_cons_succ]
            refine wpAnyH_take (i := 12) (oi := { dst := some 57, op := Op.extract (Operand.tmp 45) 1, type := 41, pos := "law.go:111", after := #[{ on := 10, ground := Ground.data }, { on := 15, ground := Ground.gcOnly Departure.lateStores }], guard := none }) (v := .agg #[.slice By mk dy, .int .i64 (sg : Int), .bool bell]) rfl (by kernel_rfl) (by kernel_rfl) (by kernel_rfl) (fun _ _ _ h => h) (Or.inl ⟨by rfl, fun W hW => ?_⟩) hHeld ?_
            · obtain ⟨q0, q1, q2, q3, q4, q5, q6, q7, q8, q9⟩ := hW
              go_simp
            simp only [Act.put, List.setIfInBounds_toArray, List.set_cons_zero, List.set_cons_succ]
            refine wpAnyH_ready (rs := [13, 14]) (by kernel_rfl) (by simp) ?_
            refine AllReadyH.cons (o := { dst := some 12, op := Op.alloc 34, type := 0, pos := "law.go:111", after := #[], guard := none }) rfl (fun K hK => ?_) (AllReadyH.cons (o := { dst := some 13, op := Op.alloc 41, type := 0, pos := "law.go:111", after := #[], guard := none }) rfl (fun K hK => ?_) AllReadyH.nil)
            · go_simp
              have hby2 : Below V7.heap.size V7 (wy1.alloc (.cells #[.slice none 0 0, .int .i64 0, .bool false, .bool false, .bool false] 34)) := bAlloc hby1 (.cells #[.slice none 0 0, .int .i64 0, .bool false, .bool false, .bool false] 34)
              have hzy2 : SR 34 (wy1.alloc (.cells #[.slice none 0 0, .int .i64 0, .bool false, .bool false, .bool false] 34)) (wy1.heap.size) [.slice none 0 0, .int .i64 0, .bool false, .bool false, .bool false] := SR.new 34 (wy1) [.slice none 0 0, .int .i64 0, .bool false, .bool false, .bool false]
              have hvy2 : V7.heap.size ≤ wy1.heap.size := by have h0 := Below.size hby1; exact h0
              have hxy2 := (hxy1).at_ (bAlloc (Below.refl _ _) (.cells #[.slice none 0 0, .int .i64 0, .bool false, .bool false, .bool false] 34))
              have hsy2 := (hsy1).at_ (bAlloc (Below.refl _ _) (.cells #[.slice none 0 0, .int .i64 0, .bool false, .bool false, .bool false] 34))
              refine hK.out _ _ (sDkT FD9.out FT9.out FU9.out hby2) (fun hHeld2 => ?_)
              clear hK K hHeld
              have hHeld := hHeld2
              clear hHeld2
              try simp only [Act.put, List.setIfInBounds_toArray, List.set_cons_zero, List.set_cons_succ]
              generalize hWy2 : wy1.alloc (.cells #[.slice none 0 0, .int .i64 0, .bool false, .bool false, .bool false] 34) = Wy2 at *
              clear hWy2
              refine wpAnyH_ready (rs := [14]) (by kernel_rfl) (by simp) ?_
              refine AllReadyH.cons (o := { dst := some 13, op := Op.alloc 41, type := 0, pos := "law.go:111", after := #[], guard := none }) rfl (fun K hK => ?_) AllReadyH.nil
              go_simp
              have hby3 : Below V7.heap.size V7 (Wy2.alloc (.cells #[.slice none 0 0, .int .i64 0, .bool false] 41)) := bAlloc hby2 (.cells #[.slice none 0 0, .int .i64 0, .bool false] 41)
              have hzy3 : SR 41 (Wy2.alloc (.cells #[.slice none 0 0, .int .i64 0, .bool false] 41)) (Wy2.heap.size) [.slice none 0 0, .int .i64 0, .bool false] := SR.new 41 (Wy2) [.slice none 0 0, .int .i64 0, .bool false]
              have hvy3 : V7.heap.size ≤ Wy2.heap.size := by have h0 := Below.size hby2; exact h0
              have hzy3_13 := SR.alloc hzy2 (.cells #[.slice none 0 0, .int .i64 0, .bool false] 41)
              have hny3_13 : wy1.heap.size ≠ Wy2.heap.size := by have h0 := SR.lt hzy2; exact Nat.ne_of_lt h0
              have hxy3 := (hxy2).at_ (bAlloc (Below.refl _ _) (.cells #[.slice none 0 0, .int .i64 0, .bool false] 41))
              have hsy3 := (hsy2).at_ (bAlloc (Below.refl _ _) (.cells #[.slice none 0 0, .int .i64 0, .bool false] 41))
              refine hK.out _ _ (sDkT FD9.out FT9.out FU9.out hby3) (fun hHeld2 => ?_)
              clear hK K hHeld
              have hHeld := hHeld2
              clear hHeld2
              try simp only [Act.put, List.setIfInBounds_toArray, List.set_cons_zero, List.set_cons_succ]
              generalize hWy3 : Wy2.alloc (.cells #[.slice none 0 0, .int .i64 0, .bool false] 41) = Wy3 at *
              clear hWy3
              have hne9 : wy1.heap.size ≠ Wy2.heap.size := by first | assumption | (apply Ne.symm; assumption)
              have hne8 : ¬ wy1.heap.size = Wy2.heap.size := hne9
              have hne7 : ¬ Wy2.heap.size = wy1.heap.size := fun e => hne9 e.symm
              obtain ⟨j0, j1, j2, j3, j4, r0, r1, r2, r3, r4, jt⟩ := tk_facts hzy3_13
              have HM := keepd (midy (V := V7) hzy3_13 hzy3 hne9 hby3 hvy2 hvy3 hxy3 hsy3 (l := l1) (n := n1) (A := Ay) (c := cy) (z := (t1 : Int)) (ov := ov1) (li := li1) (h := h1) (ks := ks) (B := By) (m := mk) (d := dy) (sg := (sg : Int)) (bell := bell))
              have hb5S : Below V7.heap.size V7 (set5 Wy3 wy1.heap.size (.slice Ay n1 cy) (.int .i64 (t1 : Int)) (.bool ov1) (.bool li1) (.bool h1)) := set5_below hby3 hvy2
              have hyS : SR 41 (set5 Wy3 wy1.heap.size (.slice Ay n1 cy) (.int .i64 (t1 : Int)) (.bool ov1) (.bool li1) (.bool h1)) (Wy2.heap.size) [.slice none 0 0, .int .i64 0, .bool false] := set5_far hzy3 hne7
              refine wpAnyH_ready (rs := [15]) (by kernel_rfl) (by simp) ?_
              refine AllReadyH.cons (o := { dst := none, op := Op.store 34 (Operand.tmp 12) (Operand.tmp 56), type := 0, pos := "law.go:111", after := #[{ on := 13, ground := Ground.data }, { on := 11, ground := Ground.data }, { on := 9, ground := Ground.chain }, { on := 0, ground := Ground.phase }, { on := 1, ground := Ground.phase }, { on := 2, ground := Ground.phase }, { on := 3, ground := Ground.phase }, { on := 4, ground := Ground.phase }, { on := 5, ground := Ground.phase }, { on := 6, ground := Ground.phase }, { on := 7, ground := Ground.phase }, { on := 8, ground := Ground.phase }, { on := 9, ground := Ground.phase }, { on := 10, ground := Ground.phase }, { on := 11, ground := Ground.phase }, { on := 12, ground := Ground.textOnly Departure.lateStores }, { on := 13, ground := Ground.phase }, { on := 14, ground := Ground.phase }], guard := none }) rfl (fun K hK => ?_) AllReadyH.nil
              go_simp
              refine hK.out _ (set5 Wy3 wy1.heap.size (.slice Ay n1 cy) (.int .i64 (t1 : Int)) (.bool ov1) (.bool li1) (.bool h1)) (sDkT FD9.out FT9.out FU9.out hb5S) (fun hHeld2 => ?_)
              clear hK K hHeld
              have hHeld := hHeld2
              clear hHeld2
              try simp only [Act.put, List.setIfInBounds_toArray, List.set_cons_zero, List.set_cons_succ]
              clear j0 j1 j2 j3 j4 r0 r1 r2 r3 r4 jt
              obtain ⟨j0, j1, j2, r0, r1, r2, jt⟩ := ty_facts hyS
              refine wpAnyH_ready (rs := [16]) (by kernel_rfl) (by simp) ?_
              refine AllReadyH.cons (o := { dst := none, op := Op.store 41 (Operand.tmp 13) (Operand.tmp 57), type := 0, pos := "law.go:111", after := #[{ on := 14, ground := Ground.data }, { on := 12, ground := Ground.data }, { on := 15, ground := Ground.chain }, { on := 0, ground := Ground.phase }, { on := 1, ground := Ground.phase }, { on := 2, ground := Ground.phase }, { on := 3, ground := Ground.phase }, { on := 4, ground := Ground.phase }, { on := 5, ground := Ground.phase }, { on := 6, ground := Ground.phase }, { on := 7, ground := Ground.phase }, { on := 8, ground := Ground.phase }, { on := 9, ground := Ground.phase }, { on := 10, ground := Ground.phase }, { on := 11, ground := Ground.phase }, { on := 12, ground := Ground.phase }, { on := 13, ground := Ground.phase }, { on := 14, ground := Ground.phase }, { on := 15, ground := Ground.phase }], guard := none }) rfl (fun K hK => ?_) AllReadyH.nil
              go_simp
              refine hK.out _ (set3 (set5 Wy3 wy1.heap.size (.slice Ay n1 cy) (.int .i64 (t1 : Int)) (.bool ov1) (.bool li1) (.bool h1)) Wy2.heap.size (.slice By mk dy) (.int .i64 (sg : Int)) (.bool bell)) (sDkT FD9.out FT9.out FU9.out HM.out.2.2.2.2.1) (fun hHeld2 => ?_)
              clear hK K hHeld
              have hHeld := hHeld2
              clear hHeld2
              try simp only [Act.put, List.setIfInBounds_toArray, List.set_cons_zero, List.set_cons_succ]
              refine wpAnyH_done (by kernel_rfl) ?_ _
              go_wp2_with fail
              go_meet
              exact ⟨_, _, _, _, _, _, rfl, rfl, HM⟩
            · go_simp
              have hby4 : Below V7.heap.size V7 (wy1.alloc (.cells #[.slice none 0 0, .int .i64 0, .bool false] 41)) := bAlloc hby1 (.cells #[.slice none 0 0, .int .i64 0, .bool false] 41)
              have hzy4 : SR 41 (wy1.alloc (.cells #[.slice none 0 0, .int .i64 0, .bool false] 41)) (wy1.heap.size) [.slice none 0 0, .int .i64 0, .bool false] := SR.new 41 (wy1) [.slice none 0 0, .int .i64 0, .bool false]
              have hvy4 : V7.heap.size ≤ wy1.heap.size := by have h0 := Below.size hby1; exact h0
              have hxy4 := (hxy1).at_ (bAlloc (Below.refl _ _) (.cells #[.slice none 0 0, .int .i64 0, .bool false] 41))
              have hsy4 := (hsy1).at_ (bAlloc (Below.refl _ _) (.cells #[.slice none 0 0, .int .i64 0, .bool false] 41))
              refine hK.out _ _ (sDkT FD9.out FT9.out FU9.out hby4) (fun hHeld2 => ?_)
              clear hK K hHeld
              have hHeld := hHeld2
              clear hHeld2
              try simp only [Act.put, List.setIfInBounds_toArray, List.set_cons_zero, List.set_cons_succ]
              generalize hWy4 : wy1.alloc (.cells #[.slice none 0 0, .int .i64 0, .bool false] 41) = Wy4 at *
              clear hWy4
              refine wpAnyH_ready (rs := [13]) (by kernel_rfl) (by simp) ?_
              refine AllReadyH.cons (o := { dst := some 12, op := Op.alloc 34, type := 0, pos := "law.go:111", after := #[], guard := none }) rfl (fun K hK => ?_) AllReadyH.nil
              go_simp
              have hby5 : Below V7.heap.size V7 (Wy4.alloc (.cells #[.slice none 0 0, .int .i64 0, .bool false, .bool false, .bool false] 34)) := bAlloc hby4 (.cells #[.slice none 0 0, .int .i64 0, .bool false, .bool false, .bool false] 34)
              have hzy5 : SR 34 (Wy4.alloc (.cells #[.slice none 0 0, .int .i64 0, .bool false, .bool false, .bool false] 34)) (Wy4.heap.size) [.slice none 0 0, .int .i64 0, .bool false, .bool false, .bool false] := SR.new 34 (Wy4) [.slice none 0 0, .int .i64 0, .bool false, .bool false, .bool false]
              have hvy5 : V7.heap.size ≤ Wy4.heap.size := by have h0 := Below.size hby4; exact h0
              have hzy5_14 := SR.alloc hzy4 (.cells #[.slice none 0 0, .int .i64 0, .bool false, .bool false, .bool false] 34)
              have hny5_14 : wy1.heap.size ≠ Wy4.heap.size := by have h0 := SR.lt hzy4; exact Nat.ne_of_lt h0
              have hxy5 := (hxy4).at_ (bAlloc (Below.refl _ _) (.cells #[.slice none 0 0, .int .i64 0, .bool false, .bool false, .bool false] 34))
              have hsy5 := (hsy4).at_ (bAlloc (Below.refl _ _) (.cells #[.slice none 0 0, .int .i64 0, .bool false, .bool false, .bool false] 34))
              refine hK.out _ _ (sDkT FD9.out FT9.out FU9.out hby5) (fun hHeld2 => ?_)
              clear hK K hHeld
              have hHeld := hHeld2
              clear hHeld2
              try simp only [Act.put, List.setIfInBounds_toArray, List.set_cons_zero, List.set_cons_succ]
              generalize hWy5 : Wy4.alloc (.cells #[.slice none 0 0, .int .i64 0, .bool false, .bool false, .bool false] 34) = Wy5 at *
              clear hWy5
              have hne9 : Wy4.heap.size ≠ wy1.heap.size := by first | assumption | (apply Ne.symm; assumption)
              have hne8 : ¬ Wy4.heap.size = wy1.heap.size := hne9
              have hne7 : ¬ wy1.heap.size = Wy4.heap.size := fun e => hne9 e.symm
              obtain ⟨j0, j1, j2, j3, j4, r0, r1, r2, r3, r4, jt⟩ := tk_facts hzy5
              have HM := keepd (midy (V := V7) hzy5 hzy5_14 hne9 hby5 hvy5 hvy4 hxy5 hsy5 (l := l1) (n := n1) (A := Ay) (c := cy) (z := (t1 : Int)) (ov := ov1) (li := li1) (h := h1) (ks := ks) (B := By) (m := mk) (d := dy) (sg := (sg : Int)) (bell := bell))
              have hb5S : Below V7.heap.size V7 (set5 Wy5 Wy4.heap.size (.slice Ay n1 cy) (.int .i64 (t1 : Int)) (.bool ov1) (.bool li1) (.bool h1)) := set5_below hby5 hvy5
              have hyS : SR 41 (set5 Wy5 Wy4.heap.size (.slice Ay n1 cy) (.int .i64 (t1 : Int)) (.bool ov1) (.bool li1) (.bool h1)) (wy1.heap.size) [.slice none 0 0, .int .i64 0, .bool false] := set5_far hzy5_14 hne7
              refine wpAnyH_ready (rs := [15]) (by kernel_rfl) (by simp) ?_
              refine AllReadyH.cons (o := { dst := none, op := Op.store 34 (Operand.tmp 12) (Operand.tmp 56), type := 0, pos := "law.go:111", after := #[{ on := 13, ground := Ground.data }, { on := 11, ground := Ground.data }, { on := 9, ground := Ground.chain }, { on := 0, ground := Ground.phase }, { on := 1, ground := Ground.phase }, { on := 2, ground := Ground.phase }, { on := 3, ground := Ground.phase }, { on := 4, ground := Ground.phase }, { on := 5, ground := Ground.phase }, { on := 6, ground := Ground.phase }, { on := 7, ground := Ground.phase }, { on := 8, ground := Ground.phase }, { on := 9, ground := Ground.phase }, { on := 10, ground := Ground.phase }, { on := 11, ground := Ground.phase }, { on := 12, ground := Ground.textOnly Departure.lateStores }, { on := 13, ground := Ground.phase }, { on := 14, ground := Ground.phase }], guard := none }) rfl (fun K hK => ?_) AllReadyH.nil
              go_simp
              refine hK.out _ (set5 Wy5 Wy4.heap.size (.slice Ay n1 cy) (.int .i64 (t1 : Int)) (.bool ov1) (.bool li1) (.bool h1)) (sDkT FD9.out FT9.out FU9.out hb5S) (fun hHeld2 => ?_)
              clear hK K hHeld
              have hHeld := hHeld2
              clear hHeld2
              try simp only [Act.put, List.setIfInBounds_toArray, List.set_cons_zero, List.set_cons_succ]
              clear j0 j1 j2 j3 j4 r0 r1 r2 r3 r4 jt
              obtain ⟨j0, j1, j2, r0, r1, r2, jt⟩ := ty_facts hyS
              refine wpAnyH_ready (rs := [16]) (by kernel_rfl) (by simp) ?_
              refine AllReadyH.cons (o := { dst := none, op := Op.store 41 (Operand.tmp 13) (Operand.tmp 57), type := 0, pos := "law.go:111", after := #[{ on := 14, ground := Ground.data }, { on := 12, ground := Ground.data }, { on := 15, ground := Ground.chain }, { on := 0, ground := Ground.phase }, { on := 1, ground := Ground.phase }, { on := 2, ground := Ground.phase }, { on := 3, ground := Ground.phase }, { on := 4, ground := Ground.phase }, { on := 5, ground := Ground.phase }, { on := 6, ground := Ground.phase }, { on := 7, ground := Ground.phase }, { on := 8, ground := Ground.phase }, { on := 9, ground := Ground.phase }, { on := 10, ground := Ground.phase }, { on := 11, ground := Ground.phase }, { on := 12, ground := Ground.phase }, { on := 13, ground := Ground.phase }, { on := 14, ground := Ground.phase }, { on := 15, ground := Ground.phase }], guard := none }) rfl (fun K hK => ?_) AllReadyH.nil
              go_simp
              refine hK.out _ (set3 (set5 Wy5 Wy4.heap.size (.slice Ay n1 cy) (.int .i64 (t1 : Int)) (.bool ov1) (.bool li1) (.bool h1)) wy1.heap.size (.slice By mk dy) (.int .i64 (sg : Int)) (.bool bell)) (sDkT FD9.out FT9.out FU9.out HM.out.2.2.2.2.1) (fun hHeld2 => ?_)
              clear hK K hHeld
              have hHeld := hHeld2
              clear hHeld2
              try simp only [Act.put, List.setIfInBounds_toArray, List.set_cons_zero, List.set_cons_succ]
              refine wpAnyH_done (by kernel_rfl) ?_ _
              go_wp2_with fail
              go_meet
              exact ⟨_, _, _, _, _, _, rfl, rfl, HM⟩
          · go_simp
            have hby6 : Below V7.heap.size V7 ((V7.alloc (.cells #[.slice none 0 0, .int .i64 0, .bool false, .bool false, .bool false] 34)).drew) := bAlloc (Below.refl V7.heap.size V7).drew (.cells #[.slice none 0 0, .int .i64 0, .bool false, .bool false, .bool false] 34)
            have hzy6 : SR 34 ((V7.alloc (.cells #[.slice none 0 0, .int .i64 0, .bool false, .bool false, .bool false] 34)).drew) (V7.heap.size) [.slice none 0 0, .int .i64 0, .bool false, .bool false, .bool false] := SR.new 34 (V7) [.slice none 0 0, .int .i64 0, .bool false, .bool false, .bool false]
            have hvy6 : V7.heap.size ≤ V7.heap.size := by have h0 := Below.size (Below.refl V7.heap.size V7).drew; exact h0
            refine hK.out _ _ (sDkT FD9.out FT9.out FU9.out hby6) (fun hHeld2 => ?_)
            clear hK K hHeld
            have hHeld := hHeld2
            clear hHeld2
            try simp only [Act.put, List.setIfInBounds_toArray, List.set_cons_zero, List.set_cons_succ]
            generalize hWy6 : (V7.alloc (.cells #[.slice none 0 0, .int .i64 0, .bool false, .bool false, .bool false] 34)).drew = Wy6 at *
            clear hWy6
            refine wpAnyH_ready (rs := [9, 14]) (by kernel_rfl) (by simp) ?_
            refine AllReadyH.cons (o := { dst := some 55, op := Op.call { callee := Callee.value (Operand.func 11), args := #[Operand.tmp 47, Operand.tmp 49, Operand.tmp 50, Operand.tmp 54, Operand.const (Value.bool true), Operand.const (Value.bool false)], argTypes := #[25, 3, 34, 5, 4, 4] }, type := 42, pos := "law.go:111", after := #[{ on := 1, ground := Ground.data }, { on := 3, ground := Ground.data }, { on := 4, ground := Ground.data }, { on := 8, ground := Ground.data }], guard := none }) rfl (fun K hK => ?_) (AllReadyH.cons (o := { dst := some 13, op := Op.alloc 41, type := 0, pos := "law.go:111", after := #[], guard := none }) rfl (fun K hK => ?_) AllReadyH.nil)
            · go_simp
              with_reducible refine (CT.out Wy6 hby6).mono ?_
              rintro e wy7 ⟨Ay, cy, By, dy, rfl, hxy7, hsy7, hcy7⟩
              have hby7 : Below V7.heap.size V7 wy7 := bCall hby6 hcy7
              have hzy7_13 := SR.call hzy6 hcy7 (hzy6).lt
              go_wp2_with fail
              refine hK.out _ _ (sDkT FD9.out FT9.out FU9.out hby7) (fun hHeld2 => ?_)
              clear hK K hHeld
              have hHeld := hHeld2
              clear hHeld2
              try simp only [Act.put, List.setIfInBounds_toArray, List.set_cons_zero, List.set_cons_succ]
              refine wpAnyH_take (i := 10) (oi := { dst := some 45, op := Op.move (Operand.tmp 55), type := 42, pos := "law.go:111", after := #[{ on := 9, ground := Ground.data }], guard := none }) (v := .tuple #[.agg #[.slice Ay n1 cy, .int .i64 (t1 : Int), .bool ov1, .bool li1, .bool h1], .agg #[.slice By mk dy, .int .i64 (sg : Int), .bool bell]]) rfl (by kernel_rfl) (by kernel_rfl) (by kernel_rfl) (fun _ _ _ h => h) (Or.inl ⟨by rfl, fun W hW => ?_⟩) hHeld ?_
              · obtain ⟨q0, q1, q2, q3, q4, q5, q6, q7, q8, q9⟩ := hW
                go_simp
              simp only [Act.put, List.setIfInBounds_toArray, List.set_cons_zero, List.set_cons_succ]
              refine wpAnyH_take (i := 11) (oi := { dst := some 56, op := Op.extract (Operand.tmp 45) 0, type := 34, pos := "law.go:111", after := #[{ on := 10, ground := Ground.data }], guard := none }) (v := .agg #[.slice Ay n1 cy, .int .i64 (t1 : Int), .bool ov1, .bool li1, .bool h1]) rfl (by kernel_rfl) (by kernel_rfl) (by kernel_rfl) (fun _ _ _ h => h) (Or.inl ⟨by rfl, fun W hW => ?_⟩) hHeld ?_
              · obtain ⟨q0, q1, q2, q3, q4, q5, q6, q7, q8, q9⟩ := hW
                go_simp
              simp only [Act.put, List.setIfInBounds_toArray, List.set_cons_zero, List.set_cons_succ]
              refine wpAnyH_take (i := 12) (oi := { dst := some 57, op := Op.extract (Operand.tmp 45) 1, type := 41, pos := "law.go:111", after := #[{ on := 10, ground := Ground.data }, { on := 15, ground := Ground.gcOnly Departure.lateStores }], guard := none }) (v := .agg #[.slice By mk dy, .int .i64 (sg : Int), .bool bell]) rfl (by kernel_rfl) (by kernel_rfl) (by kernel_rfl) (fun _ _ _ h => h) (Or.inl ⟨by rfl, fun W hW => ?_⟩) hHeld ?_
              · obtain ⟨q0, q1, q2, q3, q4, q5, q6, q7, q8, q9⟩ := hW
                go_simp
              simp only [Act.put, List.setIfInBounds_toArray, List.set_cons_zero, List.set_cons_succ]
              refine wpAnyH_ready (rs := [14]) (by kernel_rfl) (by simp) ?_
              refine AllReadyH.cons (o := { dst := some 13, op := Op.alloc 41, type := 0, pos := "law.go:111", after := #[], guard := none }) rfl (fun K hK => ?_) AllReadyH.nil
              go_simp
              have hby8 : Below V7.heap.size V7 (wy7.alloc (.cells #[.slice none 0 0, .int .i64 0, .bool false] 41)) := bAlloc hby7 (.cells #[.slice none 0 0, .int .i64 0, .bool false] 41)
              have hzy8 : SR 41 (wy7.alloc (.cells #[.slice none 0 0, .int .i64 0, .bool false] 41)) (wy7.heap.size) [.slice none 0 0, .int .i64 0, .bool false] := SR.new 41 (wy7) [.slice none 0 0, .int .i64 0, .bool false]
              have hvy8 : V7.heap.size ≤ wy7.heap.size := by have h0 := Below.size hby7; exact h0
              have hzy8_13 := SR.alloc hzy7_13 (.cells #[.slice none 0 0, .int .i64 0, .bool false] 41)
              have hny8_13 : V7.heap.size ≠ wy7.heap.size := by have h0 := SR.lt hzy7_13; exact Nat.ne_of_lt h0
              have hxy8 := (hxy7).at_ (bAlloc (Below.refl _ _) (.cells #[.slice none 0 0, .int .i64 0, .bool false] 41))
              have hsy8 := (hsy7).at_ (bAlloc (Below.refl _ _) (.cells #[.slice none 0 0, .int .i64 0, .bool false] 41))
              refine hK.out _ _ (sDkT FD9.out FT9.out FU9.out hby8) (fun hHeld2 => ?_)
              clear hK K hHeld
              have hHeld := hHeld2
              clear hHeld2
              try simp only [Act.put, List.setIfInBounds_toArray, List.set_cons_zero, List.set_cons_succ]
              generalize hWy8 : wy7.alloc (.cells #[.slice none 0 0, .int .i64 0, .bool false] 41) = Wy8 at *
              clear hWy8
              have hne9 : V7.heap.size ≠ wy7.heap.size := by first | assumption | (apply Ne.symm; assumption)
              have hne8 : ¬ V7.heap.size = wy7.heap.size := hne9
              have hne7 : ¬ wy7.heap.size = V7.heap.size := fun e => hne9 e.symm
              obtain ⟨j0, j1, j2, j3, j4, r0, r1, r2, r3, r4, jt⟩ := tk_facts hzy8_13
              have HM := keepd (midy (V := V7) hzy8_13 hzy8 hne9 hby8 hvy6 hvy8 hxy8 hsy8 (l := l1) (n := n1) (A := Ay) (c := cy) (z := (t1 : Int)) (ov := ov1) (li := li1) (h := h1) (ks := ks) (B := By) (m := mk) (d := dy) (sg := (sg : Int)) (bell := bell))
              have hb5S : Below V7.heap.size V7 (set5 Wy8 V7.heap.size (.slice Ay n1 cy) (.int .i64 (t1 : Int)) (.bool ov1) (.bool li1) (.bool h1)) := set5_below hby8 hvy6
              have hyS : SR 41 (set5 Wy8 V7.heap.size (.slice Ay n1 cy) (.int .i64 (t1 : Int)) (.bool ov1) (.bool li1) (.bool h1)) (wy7.heap.size) [.slice none 0 0, .int .i64 0, .bool false] := set5_far hzy8 hne7
              refine wpAnyH_ready (rs := [15]) (by kernel_rfl) (by simp) ?_
              refine AllReadyH.cons (o := { dst := none, op := Op.store 34 (Operand.tmp 12) (Operand.tmp 56), type := 0, pos := "law.go:111", after := #[{ on := 13, ground := Ground.data }, { on := 11, ground := Ground.data }, { on := 9, ground := Ground.chain }, { on := 0, ground := Ground.phase }, { on := 1, ground := Ground.phase }, { on := 2, ground := Ground.phase }, { on := 3, ground := Ground.phase }, { on := 4, ground := Ground.phase }, { on := 5, ground := Ground.phase }, { on := 6, ground := Ground.phase }, { on := 7, ground := Ground.phase }, { on := 8, ground := Ground.phase }, { on := 9, ground := Ground.phase }, { on := 10, ground := Ground.phase }, { on := 11, ground := Ground.phase }, { on := 12, ground := Ground.textOnly Departure.lateStores }, { on := 13, ground := Ground.phase }, { on := 14, ground := Ground.phase }], guard := none }) rfl (fun K hK => ?_) AllReadyH.nil
              go_simp
              refine hK.out _ (set5 Wy8 V7.heap.size (.slice Ay n1 cy) (.int .i64 (t1 : Int)) (.bool ov1) (.bool li1) (.bool h1)) (sDkT FD9.out FT9.out FU9.out hb5S) (fun hHeld2 => ?_)
              clear hK K hHeld
              have hHeld := hHeld2
              clear hHeld2
              try simp only [Act.put, List.setIfInBounds_toArray, List.set_cons_zero, List.set_cons_succ]
              clear j0 j1 j2 j3 j4 r0 r1 r2 r3 r4 jt
              obtain ⟨j0, j1, j2, r0, r1, r2, jt⟩ := ty_facts hyS
              refine wpAnyH_ready (rs := [16]) (by kernel_rfl) (by simp) ?_
              refine AllReadyH.cons (o := { dst := none, op := Op.store 41 (Operand.tmp 13) (Operand.tmp 57), type := 0, pos := "law.go:111", after := #[{ on := 14, ground := Ground.data }, { on := 12, ground := Ground.data }, { on := 15, ground := Ground.chain }, { on := 0, ground := Ground.phase }, { on := 1, ground := Ground.phase }, { on := 2, ground := Ground.phase }, { on := 3, ground := Ground.phase }, { on := 4, ground := Ground.phase }, { on := 5, ground := Ground.phase }, { on := 6, ground := Ground.phase }, { on := 7, ground := Ground.phase }, { on := 8, ground := Ground.phase }, { on := 9, ground := Ground.phase }, { on := 10, ground := Ground.phase }, { on := 11, ground := Ground.phase }, { on := 12, ground := Ground.phase }, { on := 13, ground := Ground.phase }, { on := 14, ground := Ground.phase }, { on := 15, ground := Ground.phase }], guard := none }) rfl (fun K hK => ?_) AllReadyH.nil
              go_simp
              refine hK.out _ (set3 (set5 Wy8 V7.heap.size (.slice Ay n1 cy) (.int .i64 (t1 : Int)) (.bool ov1) (.bool li1) (.bool h1)) wy7.heap.size (.slice By mk dy) (.int .i64 (sg : Int)) (.bool bell)) (sDkT FD9.out FT9.out FU9.out HM.out.2.2.2.2.1) (fun hHeld2 => ?_)
              clear hK K hHeld
              have hHeld := hHeld2
              clear hHeld2
              try simp only [Act.put, List.setIfInBounds_toArray, List.set_cons_zero, List.set_cons_succ]
              refine wpAnyH_done (by kernel_rfl) ?_ _
              go_wp2_with fail
              go_meet
              exact ⟨_, _, _, _, _, _, rfl, rfl, HM⟩
            · go_simp
              have hby9 : Below V7.heap.size V7 (Wy6.alloc (.cells #[.slice none 0 0, .int .i64 0, .bool false] 41)) := bAlloc hby6 (.cells #[.slice none 0 0, .int .i64 0, .bool false] 41)
              have hzy9 : SR 41 (Wy6.alloc (.cells #[.slice none 0 0, .int .i64 0, .bool false] 41)) (Wy6.heap.size) [.slice none 0 0, .int .i64 0, .bool false] := SR.new 41 (Wy6) [.slice none 0 0, .int .i64 0, .bool false]
              have hvy9 : V7.heap.size ≤ Wy6.heap.size := by have h0 := Below.size hby6; exact h0
              have hzy9_13 := SR.alloc hzy6 (.cells #[.slice none 0 0, .int .i64 0, .bool false] 41)
              have hny9_13 : V7.heap.size ≠ Wy6.heap.size := by have h0 := SR.lt hzy6; exact Nat.ne_of_lt h0
              refine hK.out _ _ (sDkT FD9.out FT9.out FU9.out hby9) (fun hHeld2 => ?_)
              clear hK K hHeld
              have hHeld := hHeld2
              clear hHeld2
              try simp only [Act.put, List.setIfInBounds_toArray, List.set_cons_zero, List.set_cons_succ]
              generalize hWy9 : Wy6.alloc (.cells #[.slice none 0 0, .int .i64 0, .bool false] 41) = Wy9 at *
              clear hWy9
              refine wpAnyH_ready (rs := [9]) (by kernel_rfl) (by simp) ?_
              refine AllReadyH.cons (o := { dst := some 55, op := Op.call { callee := Callee.value (Operand.func 11), args := #[Operand.tmp 47, Operand.tmp 49, Operand.tmp 50, Operand.tmp 54, Operand.const (Value.bool true), Operand.const (Value.bool false)], argTypes := #[25, 3, 34, 5, 4, 4] }, type := 42, pos := "law.go:111", after := #[{ on := 1, ground := Ground.data }, { on := 3, ground := Ground.data }, { on := 4, ground := Ground.data }, { on := 8, ground := Ground.data }], guard := none }) rfl (fun K hK => ?_) AllReadyH.nil
              go_simp
              with_reducible refine (CT.out Wy9 hby9).mono ?_
              rintro e wy10 ⟨Ay, cy, By, dy, rfl, hxy10, hsy10, hcy10⟩
              have hby10 : Below V7.heap.size V7 wy10 := bCall hby9 hcy10
              have hzy10_13 := SR.call hzy9_13 hcy10 (hzy9_13).lt
              have hzy10_14 := SR.call hzy9 hcy10 (hzy9).lt
              go_wp2_with fail
              refine hK.out _ _ (sDkT FD9.out FT9.out FU9.out hby10) (fun hHeld2 => ?_)
              clear hK K hHeld
              have hHeld := hHeld2
              clear hHeld2
              try simp only [Act.put, List.setIfInBounds_toArray, List.set_cons_zero, List.set_cons_succ]
              refine wpAnyH_take (i := 10) (oi := { dst := some 45, op := Op.move (Operand.tmp 55), type := 42, pos := "law.go:111", after := #[{ on := 9, ground := Ground.data }], guard := none }) (v := .tuple #[.agg #[.slice Ay n1 cy, .int .i64 (t1 : Int), .bool ov1, .bool li1, .bool h1], .agg #[.slice By mk dy, .int .i64 (sg : Int), .bool bell]]) rfl (by kernel_rfl) (by kernel_rfl) (by kernel_rfl) (fun _ _ _ h => h) (Or.inl ⟨by rfl, fun W hW => ?_⟩) hHeld ?_
              · obtain ⟨q0, q1, q2, q3, q4, q5, q6, q7, q8, q9⟩ := hW
                go_simp
              simp only [Act.put, List.setIfInBounds_toArray, List.set_cons_zero, List.set_cons_succ]
              refine wpAnyH_take (i := 11) (oi := { dst := some 56, op := Op.extract (Operand.tmp 45) 0, type := 34, pos := "law.go:111", after := #[{ on := 10, ground := Ground.data }], guard := none }) (v := .agg #[.slice Ay n1 cy, .int .i64 (t1 : Int), .bool ov1, .bool li1, .bool h1]) rfl (by kernel_rfl) (by kernel_rfl) (by kernel_rfl) (fun _ _ _ h => h) (Or.inl ⟨by rfl, fun W hW => ?_⟩) hHeld ?_
              · obtain ⟨q0, q1, q2, q3, q4, q5, q6, q7, q8, q9⟩ := hW
                go_simp
              simp only [Act.put, List.setIfInBounds_toArray, List.set_cons_zero, List.set_cons_succ]
              refine wpAnyH_take (i := 12) (oi := { dst := some 57, op := Op.extract (Operand.tmp 45) 1, type := 41, pos := "law.go:111", after := #[{ on := 10, ground := Ground.data }, { on := 15, ground := Ground.gcOnly Departure.lateStores }], guard := none }) (v := .agg #[.slice By mk dy, .int .i64 (sg : Int), .bool bell]) rfl (by kernel_rfl) (by kernel_rfl) (by kernel_rfl) (fun _ _ _ h => h) (Or.inl ⟨by rfl, fun W hW => ?_⟩) hHeld ?_
              · obtain ⟨q0, q1, q2, q3, q4, q5, q6, q7, q8, q9⟩ := hW
                go_simp
              simp only [Act.put, List.setIfInBounds_toArray, List.set_cons_zero, List.set_cons_succ]
              have hne9 : V7.heap.size ≠ Wy6.heap.size := by first | assumption | (apply Ne.symm; assumption)
              have hne8 : ¬ V7.heap.size = Wy6.heap.size := hne9
              have hne7 : ¬ Wy6.heap.size = V7.heap.size := fun e => hne9 e.symm
              obtain ⟨j0, j1, j2, j3, j4, r0, r1, r2, r3, r4, jt⟩ := tk_facts hzy10_13
              have HM := keepd (midy (V := V7) hzy10_13 hzy10_14 hne9 hby10 hvy6 hvy9 hxy10 hsy10 (l := l1) (n := n1) (A := Ay) (c := cy) (z := (t1 : Int)) (ov := ov1) (li := li1) (h := h1) (ks := ks) (B := By) (m := mk) (d := dy) (sg := (sg : Int)) (bell := bell))
              have hb5S : Below V7.heap.size V7 (set5 wy10 V7.heap.size (.slice Ay n1 cy) (.int .i64 (t1 : Int)) (.bool ov1) (.bool li1) (.bool h1)) := set5_below hby10 hvy6
              have hyS : SR 41 (set5 wy10 V7.heap.size (.slice Ay n1 cy) (.int .i64 (t1 : Int)) (.bool ov1) (.bool li1) (.bool h1)) (Wy6.heap.size) [.slice none 0 0, .int .i64 0, .bool false] := set5_far hzy10_14 hne7
              refine wpAnyH_ready (rs := [15]) (by kernel_rfl) (by simp) ?_
              refine AllReadyH.cons (o := { dst := none, op := Op.store 34 (Operand.tmp 12) (Operand.tmp 56), type := 0, pos := "law.go:111", after := #[{ on := 13, ground := Ground.data }, { on := 11, ground := Ground.data }, { on := 9, ground := Ground.chain }, { on := 0, ground := Ground.phase }, { on := 1, ground := Ground.phase }, { on := 2, ground := Ground.phase }, { on := 3, ground := Ground.phase }, { on := 4, ground := Ground.phase }, { on := 5, ground := Ground.phase }, { on := 6, ground := Ground.phase }, { on := 7, ground := Ground.phase }, { on := 8, ground := Ground.phase }, { on := 9, ground := Ground.phase }, { on := 10, ground := Ground.phase }, { on := 11, ground := Ground.phase }, { on := 12, ground := Ground.textOnly Departure.lateStores }, { on := 13, ground := Ground.phase }, { on := 14, ground := Ground.phase }], guard := none }) rfl (fun K hK => ?_) AllReadyH.nil
              go_simp
              refine hK.out _ (set5 wy10 V7.heap.size (.slice Ay n1 cy) (.int .i64 (t1 : Int)) (.bool ov1) (.bool li1) (.bool h1)) (sDkT FD9.out FT9.out FU9.out hb5S) (fun hHeld2 => ?_)
              clear hK K hHeld
              have hHeld := hHeld2
              clear hHeld2
              try simp only [Act.put, List.setIfInBounds_toArray, List.set_cons_zero, List.set_cons_succ]
              clear j0 j1 j2 j3 j4 r0 r1 r2 r3 r4 jt
              obtain ⟨j0, j1, j2, r0, r1, r2, jt⟩ := ty_facts hyS
              refine wpAnyH_ready (rs := [16]) (by kernel_rfl) (by simp) ?_
              refine AllReadyH.cons (o := { dst := none, op := Op.store 41 (Operand.tmp 13) (Operand.tmp 57), type := 0, pos := "law.go:111", after := #[{ on := 14, ground := Ground.data }, { on := 12, ground := Ground.data }, { on := 15, ground := Ground.chain }, { on := 0, ground := Ground.phase }, { on := 1, ground := Ground.phase }, { on := 2, ground := Ground.phase }, { on := 3, ground := Ground.phase }, { on := 4, ground := Ground.phase }, { on := 5, ground := Ground.phase }, { on := 6, ground := Ground.phase }, { on := 7, ground := Ground.phase }, { on := 8, ground := Ground.phase }, { on := 9, ground := Ground.phase }, { on := 10, ground := Ground.phase }, { on := 11, ground := Ground.phase }, { on := 12, ground := Ground.phase }, { on := 13, ground := Ground.phase }, { on := 14, ground := Ground.phase }, { on := 15, ground := Ground.phase }], guard := none }) rfl (fun K hK => ?_) AllReadyH.nil
              go_simp
              refine hK.out _ (set3 (set5 wy10 V7.heap.size (.slice Ay n1 cy) (.int .i64 (t1 : Int)) (.bool ov1) (.bool li1) (.bool h1)) Wy6.heap.size (.slice By mk dy) (.int .i64 (sg : Int)) (.bool bell)) (sDkT FD9.out FT9.out FU9.out HM.out.2.2.2.2.1) (fun hHeld2 => ?_)
              clear hK K hHeld
              have hHeld := hHeld2
              clear hHeld2
              try simp only [Act.put, List.setIfInBounds_toArray, List.set_cons_zero, List.set_cons_succ]
              refine wpAnyH_done (by kernel_rfl) ?_ _
              go_wp2_with fail
              go_meet
              exact ⟨_, _, _, _, _, _, rfl, rfl, HM⟩
          · go_simp
            have hby11 : Below V7.heap.size V7 ((V7.alloc (.cells #[.slice none 0 0, .int .i64 0, .bool false] 41)).drew) := bAlloc (Below.refl V7.heap.size V7).drew (.cells #[.slice none 0 0, .int .i64 0, .bool false] 41)
            have hzy11 : SR 41 ((V7.alloc (.cells #[.slice none 0 0, .int .i64 0, .bool false] 41)).drew) (V7.heap.size) [.slice none 0 0, .int .i64 0, .bool false] := SR.new 41 (V7) [.slice none 0 0, .int .i64 0, .bool false]
            have hvy11 : V7.heap.size ≤ V7.heap.size := by have h0 := Below.size (Below.refl V7.heap.size V7).drew; exact h0
            refine hK.out _ _ (sDkT FD9.out FT9.out FU9.out hby11) (fun hHeld2 => ?_)
            clear hK K hHeld
            have hHeld := hHeld2
            clear hHeld2
            try simp only [Act.put, List.setIfInBounds_toArray, List.set_cons_zero, List.set_cons_succ]
            generalize hWy11 : (V7.alloc (.cells #[.slice none 0 0, .int .i64 0, .bool false] 41)).drew = Wy11 at *
            clear hWy11
            refine wpAnyH_ready (rs := [9, 13]) (by kernel_rfl) (by simp) ?_
            refine AllReadyH.cons (o := { dst := some 55, op := Op.call { callee := Callee.value (Operand.func 11), args := #[Operand.tmp 47, Operand.tmp 49, Operand.tmp 50, Operand.tmp 54, Operand.const (Value.bool true), Operand.const (Value.bool false)], argTypes := #[25, 3, 34, 5, 4, 4] }, type := 42, pos := "law.go:111", after := #[{ on := 1, ground := Ground.data }, { on := 3, ground := Ground.data }, { on := 4, ground := Ground.data }, { on := 8, ground := Ground.data }], guard := none }) rfl (fun K hK => ?_) (AllReadyH.cons (o := { dst := some 12, op := Op.alloc 34, type := 0, pos := "law.go:111", after := #[], guard := none }) rfl (fun K hK => ?_) AllReadyH.nil)
            · go_simp
              with_reducible refine (CT.out Wy11 hby11).mono ?_
              rintro e wy12 ⟨Ay, cy, By, dy, rfl, hxy12, hsy12, hcy12⟩
              have hby12 : Below V7.heap.size V7 wy12 := bCall hby11 hcy12
              have hzy12_14 := SR.call hzy11 hcy12 (hzy11).lt
              go_wp2_with fail
              refine hK.out _ _ (sDkT FD9.out FT9.out FU9.out hby12) (fun hHeld2 => ?_)
              clear hK K hHeld
              have hHeld := hHeld2
              clear hHeld2
              try simp only [Act.put, List.setIfInBounds_toArray, List.set_cons_zero, List.set_cons_succ]
              refine wpAnyH_take (i := 10) (oi := { dst := some 45, op := Op.move (Operand.tmp 55), type := 42, pos := "law.go:111", after := #[{ on := 9, ground := Ground.data }], guard := none }) (v := .tuple #[.agg #[.slice Ay n1 cy, .int .i64 (t1 : Int), .bool ov1, .bool li1, .bool h1], .agg #[.slice By mk dy, .int .i64 (sg : Int), .bool bell]]) rfl (by kernel_rfl) (by kernel_rfl) (by kernel_rfl) (fun _ _ _ h => h) (Or.inl ⟨by rfl, fun W hW => ?_⟩) hHeld ?_
              · obtain ⟨q0, q1, q2, q3, q4, q5, q6, q7, q8, q9⟩ := hW
                go_simp
              simp only [Act.put, List.setIfInBounds_toArray, List.set_cons_zero, List.set_cons_succ]
              refine wpAnyH_take (i := 11) (oi := { dst := some 56, op := Op.extract (Operand.tmp 45) 0, type := 34, pos := "law.go:111", after := #[{ on := 10, ground := Ground.data }], guard := none }) (v := .agg #[.slice Ay n1 cy, .int .i64 (t1 : Int), .bool ov1, .bool li1, .bool h1]) rfl (by kernel_rfl) (by kernel_rfl) (by kernel_rfl) (fun _ _ _ h => h) (Or.inl ⟨by rfl, fun W hW => ?_⟩) hHeld ?_
              · obtain ⟨q0, q1, q2, q3, q4, q5, q6, q7, q8, q9⟩ := hW
                go_simp
              simp only [Act.put, List.setIfInBounds_toArray, List.set_cons_zero, List.set_cons_succ]
              refine wpAnyH_take (i := 12) (oi := { dst := some 57, op := Op.extract (Operand.tmp 45) 1, type := 41, pos := "law.go:111", after := #[{ on := 10, ground := Ground.data }, { on := 15, ground := Ground.gcOnly Departure.lateStores }], guard := none }) (v := .agg #[.slice By mk dy, .int .i64 (sg : Int), .bool bell]) rfl (by kernel_rfl) (by kernel_rfl) (by kernel_rfl) (fun _ _ _ h => h) (Or.inl ⟨by rfl, fun W hW => ?_⟩) hHeld ?_
              · obtain ⟨q0, q1, q2, q3, q4, q5, q6, q7, q8, q9⟩ := hW
                go_simp
              simp only [Act.put, List.setIfInBounds_toArray, List.set_cons_zero, List.set_cons_succ]
              refine wpAnyH_ready (rs := [13]) (by kernel_rfl) (by simp) ?_
              refine AllReadyH.cons (o := { dst := some 12, op := Op.alloc 34, type := 0, pos := "law.go:111", after := #[], guard := none }) rfl (fun K hK => ?_) AllReadyH.nil
              go_simp
              have hby13 : Below V7.heap.size V7 (wy12.alloc (.cells #[.slice none 0 0, .int .i64 0, .bool false, .bool false, .bool false] 34)) := bAlloc hby12 (.cells #[.slice none 0 0, .int .i64 0, .bool false, .bool false, .bool false] 34)
              have hzy13 : SR 34 (wy12.alloc (.cells #[.slice none 0 0, .int .i64 0, .bool false, .bool false, .bool false] 34)) (wy12.heap.size) [.slice none 0 0, .int .i64 0, .bool false, .bool false, .bool false] := SR.new 34 (wy12) [.slice none 0 0, .int .i64 0, .bool false, .bool false, .bool false]
              have hvy13 : V7.heap.size ≤ wy12.heap.size := by have h0 := Below.size hby12; exact h0
              have hzy13_14 := SR.alloc hzy12_14 (.cells #[.slice none 0 0, .int .i64 0, .bool false, .bool false, .bool false] 34)
              have hny13_14 : V7.heap.size ≠ wy12.heap.size := by have h0 := SR.lt hzy12_14; exact Nat.ne_of_lt h0
              have hxy13 := (hxy12).at_ (bAlloc (Below.refl _ _) (.cells #[.slice none 0 0, .int .i64 0, .bool false, .bool false, .bool false] 34))
              have hsy13 := (hsy12).at_ (bAlloc (Below.refl _ _) (.cells #[.slice none 0 0, .int .i64 0, .bool false, .bool false, .bool false] 34))
              refine hK.out _ _ (sDkT FD9.out FT9.out FU9.out hby13) (fun hHeld2 => ?_)
              clear hK K hHeld
              have hHeld := hHeld2
              clear hHeld2
              try simp only [Act.put, List.setIfInBounds_toArray, List.set_cons_zero, List.set_cons_succ]
              generalize hWy13 : wy12.alloc (.cells #[.slice none 0 0, .int .i64 0, .bool false, .bool false, .bool false] 34) = Wy13 at *
              clear hWy13
              have hne9 : wy12.heap.size ≠ V7.heap.size := by first | assumption | (apply Ne.symm; assumption)
              have hne8 : ¬ wy12.heap.size = V7.heap.size := hne9
              have hne7 : ¬ V7.heap.size = wy12.heap.size := fun e => hne9 e.symm
              obtain ⟨j0, j1, j2, j3, j4, r0, r1, r2, r3, r4, jt⟩ := tk_facts hzy13
              have HM := keepd (midy (V := V7) hzy13 hzy13_14 hne9 hby13 hvy13 hvy11 hxy13 hsy13 (l := l1) (n := n1) (A := Ay) (c := cy) (z := (t1 : Int)) (ov := ov1) (li := li1) (h := h1) (ks := ks) (B := By) (m := mk) (d := dy) (sg := (sg : Int)) (bell := bell))
              have hb5S : Below V7.heap.size V7 (set5 Wy13 wy12.heap.size (.slice Ay n1 cy) (.int .i64 (t1 : Int)) (.bool ov1) (.bool li1) (.bool h1)) := set5_below hby13 hvy13
              have hyS : SR 41 (set5 Wy13 wy12.heap.size (.slice Ay n1 cy) (.int .i64 (t1 : Int)) (.bool ov1) (.bool li1) (.bool h1)) (V7.heap.size) [.slice none 0 0, .int .i64 0, .bool false] := set5_far hzy13_14 hne7
              refine wpAnyH_ready (rs := [15]) (by kernel_rfl) (by simp) ?_
              refine AllReadyH.cons (o := { dst := none, op := Op.store 34 (Operand.tmp 12) (Operand.tmp 56), type := 0, pos := "law.go:111", after := #[{ on := 13, ground := Ground.data }, { on := 11, ground := Ground.data }, { on := 9, ground := Ground.chain }, { on := 0, ground := Ground.phase }, { on := 1, ground := Ground.phase }, { on := 2, ground := Ground.phase }, { on := 3, ground := Ground.phase }, { on := 4, ground := Ground.phase }, { on := 5, ground := Ground.phase }, { on := 6, ground := Ground.phase }, { on := 7, ground := Ground.phase }, { on := 8, ground := Ground.phase }, { on := 9, ground := Ground.phase }, { on := 10, ground := Ground.phase }, { on := 11, ground := Ground.phase }, { on := 12, ground := Ground.textOnly Departure.lateStores }, { on := 13, ground := Ground.phase }, { on := 14, ground := Ground.phase }], guard := none }) rfl (fun K hK => ?_) AllReadyH.nil
              go_simp
              refine hK.out _ (set5 Wy13 wy12.heap.size (.slice Ay n1 cy) (.int .i64 (t1 : Int)) (.bool ov1) (.bool li1) (.bool h1)) (sDkT FD9.out FT9.out FU9.out hb5S) (fun hHeld2 => ?_)
              clear hK K hHeld
              have hHeld := hHeld2
              clear hHeld2
              try simp only [Act.put, List.setIfInBounds_toArray, List.set_cons_zero, List.set_cons_succ]
              clear j0 j1 j2 j3 j4 r0 r1 r2 r3 r4 jt
              obtain ⟨j0, j1, j2, r0, r1, r2, jt⟩ := ty_facts hyS
              refine wpAnyH_ready (rs := [16]) (by kernel_rfl) (by simp) ?_
              refine AllReadyH.cons (o := { dst := none, op := Op.store 41 (Operand.tmp 13) (Operand.tmp 57), type := 0, pos := "law.go:111", after := #[{ on := 14, ground := Ground.data }, { on := 12, ground := Ground.data }, { on := 15, ground := Ground.chain }, { on := 0, ground := Ground.phase }, { on := 1, ground := Ground.phase }, { on := 2, ground := Ground.phase }, { on := 3, ground := Ground.phase }, { on := 4, ground := Ground.phase }, { on := 5, ground := Ground.phase }, { on := 6, ground := Ground.phase }, { on := 7, ground := Ground.phase }, { on := 8, ground := Ground.phase }, { on := 9, ground := Ground.phase }, { on := 10, ground := Ground.phase }, { on := 11, ground := Ground.phase }, { on := 12, ground := Ground.phase }, { on := 13, ground := Ground.phase }, { on := 14, ground := Ground.phase }, { on := 15, ground := Ground.phase }], guard := none }) rfl (fun K hK => ?_) AllReadyH.nil
              go_simp
              refine hK.out _ (set3 (set5 Wy13 wy12.heap.size (.slice Ay n1 cy) (.int .i64 (t1 : Int)) (.bool ov1) (.bool li1) (.bool h1)) V7.heap.size (.slice By mk dy) (.int .i64 (sg : Int)) (.bool bell)) (sDkT FD9.out FT9.out FU9.out HM.out.2.2.2.2.1) (fun hHeld2 => ?_)
              clear hK K hHeld
              have hHeld := hHeld2
              clear hHeld2
              try simp only [Act.put, List.setIfInBounds_toArray, List.set_cons_zero, List.set_cons_succ]
              refine wpAnyH_done (by kernel_rfl) ?_ _
              go_wp2_with fail
              go_meet
              exact ⟨_, _, _, _, _, _, rfl, rfl, HM⟩
            · go_simp
              have hby14 : Below V7.heap.size V7 (Wy11.alloc (.cells #[.slice none 0 0, .int .i64 0, .bool false, .bool false, .bool false] 34)) := bAlloc hby11 (.cells #[.slice none 0 0, .int .i64 0, .bool false, .bool false, .bool false] 34)
              have hzy14 : SR 34 (Wy11.alloc (.cells #[.slice none 0 0, .int .i64 0, .bool false, .bool false, .bool false] 34)) (Wy11.heap.size) [.slice none 0 0, .int .i64 0, .bool false, .bool false, .bool false] := SR.new 34 (Wy11) [.slice none 0 0, .int .i64 0, .bool false, .bool false, .bool false]
              have hvy14 : V7.heap.size ≤ Wy11.heap.size := by have h0 := Below.size hby11; exact h0
              have hzy14_14 := SR.alloc hzy11 (.cells #[.slice none 0 0, .int .i64 0, .bool false, .bool false, .bool false] 34)
              have hny14_14 : V7.heap.size ≠ Wy11.heap.size := by have h0 := SR.lt hzy11; exact Nat.ne_of_lt h0
              refine hK.out _ _ (sDkT FD9.out FT9.out FU9.out hby14) (fun hHeld2 => ?_)
              clear hK K hHeld
              have hHeld := hHeld2
              clear hHeld2
              try simp only [Act.put, List.setIfInBounds_toArray, List.set_cons_zero, List.set_cons_succ]
              generalize hWy14 : Wy11.alloc (.cells #[.slice none 0 0, .int .i64 0, .bool false, .bool false, .bool false] 34) = Wy14 at *
              clear hWy14
              refine wpAnyH_ready (rs := [9]) (by kernel_rfl) (by simp) ?_
              refine AllReadyH.cons (o := { dst := some 55, op := Op.call { callee := Callee.value (Operand.func 11), args := #[Operand.tmp 47, Operand.tmp 49, Operand.tmp 50, Operand.tmp 54, Operand.const (Value.bool true), Operand.const (Value.bool false)], argTypes := #[25, 3, 34, 5, 4, 4] }, type := 42, pos := "law.go:111", after := #[{ on := 1, ground := Ground.data }, { on := 3, ground := Ground.data }, { on := 4, ground := Ground.data }, { on := 8, ground := Ground.data }], guard := none }) rfl (fun K hK => ?_) AllReadyH.nil
              go_simp
              with_reducible refine (CT.out Wy14 hby14).mono ?_
              rintro e wy15 ⟨Ay, cy, By, dy, rfl, hxy15, hsy15, hcy15⟩
              have hby15 : Below V7.heap.size V7 wy15 := bCall hby14 hcy15
              have hzy15_14 := SR.call hzy14_14 hcy15 (hzy14_14).lt
              have hzy15_13 := SR.call hzy14 hcy15 (hzy14).lt
              go_wp2_with fail
              refine hK.out _ _ (sDkT FD9.out FT9.out FU9.out hby15) (fun hHeld2 => ?_)
              clear hK K hHeld
              have hHeld := hHeld2
              clear hHeld2
              try simp only [Act.put, List.setIfInBounds_toArray, List.set_cons_zero, List.set_cons_succ]
              refine wpAnyH_take (i := 10) (oi := { dst := some 45, op := Op.move (Operand.tmp 55), type := 42, pos := "law.go:111", after := #[{ on := 9, ground := Ground.data }], guard := none }) (v := .tuple #[.agg #[.slice Ay n1 cy, .int .i64 (t1 : Int), .bool ov1, .bool li1, .bool h1], .agg #[.slice By mk dy, .int .i64 (sg : Int), .bool bell]]) rfl (by kernel_rfl) (by kernel_rfl) (by kernel_rfl) (fun _ _ _ h => h) (Or.inl ⟨by rfl, fun W hW => ?_⟩) hHeld ?_
              · obtain ⟨q0, q1, q2, q3, q4, q5, q6, q7, q8, q9⟩ := hW
                go_simp
              simp only [Act.put, List.setIfInBounds_toArray, List.set_cons_zero, List.set_cons_succ]
              refine wpAnyH_take (i := 11) (oi := { dst := some 56, op := Op.extract (Operand.tmp 45) 0, type := 34, pos := "law.go:111", after := #[{ on := 10, ground := Ground.data }], guard := none }) (v := .agg #[.slice Ay n1 cy, .int .i64 (t1 : Int), .bool ov1, .bool li1, .bool h1]) rfl (by kernel_rfl) (by kernel_rfl) (by kernel_rfl) (fun _ _ _ h => h) (Or.inl ⟨by rfl, fun W hW => ?_⟩) hHeld ?_
              · obtain ⟨q0, q1, q2, q3, q4, q5, q6, q7, q8, q9⟩ := hW
                go_simp
              simp only [Act.put, List.setIfInBounds_toArray, List.set_cons_zero, List.set_cons_succ]
              refine wpAnyH_take (i := 12) (oi := { dst := some 57, op := Op.extract (Operand.tmp 45) 1, type := 41, pos := "law.go:111", after := #[{ on := 10, ground := Ground.data }, { on := 15, ground := Ground.gcOnly Departure.lateStores }], guard := none }) (v := .agg #[.slice By mk dy, .int .i64 (sg : Int), .bool bell]) rfl (by kernel_rfl) (by kernel_rfl) (by kernel_rfl) (fun _ _ _ h => h) (Or.inl ⟨by rfl, fun W hW => ?_⟩) hHeld ?_
              · obtain ⟨q0, q1, q2, q3, q4, q5, q6, q7, q8, q9⟩ := hW
                go_simp
              simp only [Act.put, List.setIfInBounds_toArray, List.set_cons_zero, List.set_cons_succ]
              have hne9 : Wy11.heap.size ≠ V7.heap.size := by first | assumption | (apply Ne.symm; assumption)
              have hne8 : ¬ Wy11.heap.size = V7.heap.size := hne9
              have hne7 : ¬ V7.heap.size = Wy11.heap.size := fun e => hne9 e.symm
              obtain ⟨j0, j1, j2, j3, j4, r0, r1, r2, r3, r4, jt⟩ := tk_facts hzy15_13
              have HM := keepd (midy (V := V7) hzy15_13 hzy15_14 hne9 hby15 hvy14 hvy11 hxy15 hsy15 (l := l1) (n := n1) (A := Ay) (c := cy) (z := (t1 : Int)) (ov := ov1) (li := li1) (h := h1) (ks := ks) (B := By) (m := mk) (d := dy) (sg := (sg : Int)) (bell := bell))
              have hb5S : Below V7.heap.size V7 (set5 wy15 Wy11.heap.size (.slice Ay n1 cy) (.int .i64 (t1 : Int)) (.bool ov1) (.bool li1) (.bool h1)) := set5_below hby15 hvy14
              have hyS : SR 41 (set5 wy15 Wy11.heap.size (.slice Ay n1 cy) (.int .i64 (t1 : Int)) (.bool ov1) (.bool li1) (.bool h1)) (V7.heap.size) [.slice none 0 0, .int .i64 0, .bool false] := set5_far hzy15_14 hne7
              refine wpAnyH_ready (rs := [15]) (by kernel_rfl) (by simp) ?_
              refine AllReadyH.cons (o := { dst := none, op := Op.store 34 (Operand.tmp 12) (Operand.tmp 56), type := 0, pos := "law.go:111", after := #[{ on := 13, ground := Ground.data }, { on := 11, ground := Ground.data }, { on := 9, ground := Ground.chain }, { on := 0, ground := Ground.phase }, { on := 1, ground := Ground.phase }, { on := 2, ground := Ground.phase }, { on := 3, ground := Ground.phase }, { on := 4, ground := Ground.phase }, { on := 5, ground := Ground.phase }, { on := 6, ground := Ground.phase }, { on := 7, ground := Ground.phase }, { on := 8, ground := Ground.phase }, { on := 9, ground := Ground.phase }, { on := 10, ground := Ground.phase }, { on := 11, ground := Ground.phase }, { on := 12, ground := Ground.textOnly Departure.lateStores }, { on := 13, ground := Ground.phase }, { on := 14, ground := Ground.phase }], guard := none }) rfl (fun K hK => ?_) AllReadyH.nil
              go_simp
              refine hK.out _ (set5 wy15 Wy11.heap.size (.slice Ay n1 cy) (.int .i64 (t1 : Int)) (.bool ov1) (.bool li1) (.bool h1)) (sDkT FD9.out FT9.out FU9.out hb5S) (fun hHeld2 => ?_)
              clear hK K hHeld
              have hHeld := hHeld2
              clear hHeld2
              try simp only [Act.put, List.setIfInBounds_toArray, List.set_cons_zero, List.set_cons_succ]
              clear j0 j1 j2 j3 j4 r0 r1 r2 r3 r4 jt
              obtain ⟨j0, j1, j2, r0, r1, r2, jt⟩ := ty_facts hyS
              refine wpAnyH_ready (rs := [16]) (by kernel_rfl) (by simp) ?_
              refine AllReadyH.cons (o := { dst := none, op := Op.store 41 (Operand.tmp 13) (Operand.tmp 57), type := 0, pos := "law.go:111", after := #[{ on := 14, ground := Ground.data }, { on := 12, ground := Ground.data }, { on := 15, ground := Ground.chain }, { on := 0, ground := Ground.phase }, { on := 1, ground := Ground.phase }, { on := 2, ground := Ground.phase }, { on := 3, ground := Ground.phase }, { on := 4, ground := Ground.phase }, { on := 5, ground := Ground.phase }, { on := 6, ground := Ground.phase }, { on := 7, ground := Ground.phase }, { on := 8, ground := Ground.phase }, { on := 9, ground := Ground.phase }, { on := 10, ground := Ground.phase }, { on := 11, ground := Ground.phase }, { on := 12, ground := Ground.phase }, { on := 13, ground := Ground.phase }, { on := 14, ground := Ground.phase }, { on := 15, ground := Ground.phase }], guard := none }) rfl (fun K hK => ?_) AllReadyH.nil
              go_simp
              refine hK.out _ (set3 (set5 wy15 Wy11.heap.size (.slice Ay n1 cy) (.int .i64 (t1 : Int)) (.bool ov1) (.bool li1) (.bool h1)) V7.heap.size (.slice By mk dy) (.int .i64 (sg : Int)) (.bool bell)) (sDkT FD9.out FT9.out FU9.out HM.out.2.2.2.2.1) (fun hHeld2 => ?_)
              clear hK K hHeld
              have hHeld := hHeld2
              clear hHeld2
              try simp only [Act.put, List.setIfInBounds_toArray, List.set_cons_zero, List.set_cons_succ]
              refine wpAnyH_done (by kernel_rfl) ?_ _
              go_wp2_with fail
              go_meet
              exact ⟨_, _, _, _, _, _, rfl, rfl, HM⟩
        case rest =>
          obtain ⟨b, y, Ay, cy, By, dy, rfl, rfl, HM9⟩ := hcut
          obtain ⟨V9, hV9⟩ : ∃ V9, V9 = wc := ⟨_, rfl⟩
          subst hV9
          obtain ⟨m1, m2, m3, _, m5, m6, m7⟩ := HM9.out
          have l0 := HK57.out.lt
          have l1' := HK67.out.lt
          have HK59 := keepd (SR.call HK57.out m5 l0)
          have HK69 := keepd (SR.call HK67.out m5 l1')
          have HR69 := keepd (HR67.out.at_ m5)
          have HBV9 := keepd (bCall HBV7.out m5)
          have HS9 := keepd (HS7.out.at_ m5)
          have HM1 := keepd m1
          have HM2 := keepd m2
          have HM3 := keepd m3
          have hbA9 : bA < V9.heap.size := Nat.lt_of_lt_of_le hbA7 m5.size
          have FU10 : Hid (V9.cell? ⟨bA, offA + i, none⟩ = some (.int .u8 (u.toNat : Int)) ∧ bA < V9.heap.size) := ⟨(m5.cell (p := ⟨bA, offA + i, none⟩) hbA7).trans FU9.out.1, hbA9⟩
          have y1 : V0.heap.size ≠ y := by omega
          have y2 : V0.heap.size + 1 ≠ y := by omega
          have HY1 := keepd y1
          have HY2 := keepd y2
          have lbA : bA < V0.heap.size := hbA0
          clear m1 m2 m3 m5 m6 m7 HM9 CT CTx FD9 FT9 FU9 HK57 HK67 HR57 HR67 HBV7 HS7 hbA7 l0 l1' y1 y2
          obtain ⟨k0, k1, k2, k3, k4, _, _, _, _, _, kt⟩ := tk_facts HM1.out
          obtain ⟨j0, j1, j2, j3, j4, r0, r1, r2, r3, r4, jt⟩ := tk_facts HK59.out
          go_upto_region 11 with fail
          generalize hV : ((((V9.setCell ⟨V0.heap.size, 0, none⟩ (.slice Ay n1 cy)).setCell ⟨V0.heap.size, 1, none⟩ (.int .i64 (t1 : Int))).setCell ⟨V0.heap.size, 2, none⟩ (.bool ov1)).setCell ⟨V0.heap.size, 3, none⟩ (.bool li1)).setCell ⟨V0.heap.size, 4, none⟩ (.bool h1) = V10
          have hv : V10 = set5 V9 V0.heap.size (.slice Ay n1 cy) (.int .i64 (t1 : Int)) (.bool ov1) (.bool li1) (.bool h1) := hV.symm
          have E := set5_end HK59.out HBV9.out (Nat.le_refl _) (.slice Ay n1 cy) (.int .i64 (t1 : Int)) (.bool ov1) (.bool li1) (.bool h1)
          rw [← hv] at E
          have HK510 : Hid (SR 34 V10 V0.heap.size [.slice Ay n1 cy, .int .i64 (t1 : Int), .bool ov1, .bool li1, .bool h1]) := by rw [hv]; exact set5_sr HK59.out
          have HK610 : Hid (SR 34 V10 (V0.heap.size + 1) [.slice A6 n c6, .int .i64 (t : Int), .bool ov, .bool li, .bool false]) := by rw [hv]; exact set5_far HK69.out (by omega)
          have HM210 : Hid (SR 41 V10 y [.slice By mk dy, .int .i64 (sg : Int), .bool bell]) := by rw [hv]; exact set5_far HM2.out (fun e => HY1.out e.symm)
          have HR510 := keepd (E.1 _ _ _ HM3.out)
          have HR610 := keepd (E.1 _ _ _ HR69.out)
          have HS10 := keepd (E.1 _ _ _ HS9.out)
          have HBV10 := keepd E.2
          have hs10 : V10.heap.size = V9.heap.size := by rw [hv, set5_size]
          have FU11 : Hid (V10.cell? ⟨bA, offA + i, none⟩ = some (.int .u8 (u.toNat : Int)) ∧ bA < V10.heap.size) := ⟨by rw [World.cell?_of_block (w := V9) (a := ⟨bA, offA + i, none⟩) (by rw [hv]; exact set5_heap _ _ _ _ _ _ _ (Nat.ne_of_lt lbA))]; exact FU10.out.1, by rw [hs10]; exact hbA9⟩
          have FD11 : Hid (DK V10 w.heap.size X room) := SR.call HD.out HBV10.out (SR.lt HD.out)
          have FT11 := keepd HK610.out
          clear hV hv E hs10 k0 k1 k2 k3 k4 kt j0 j1 j2 j3 j4 r0 r1 r2 r3 r4 jt HK59 HK69 HR69 HBV9 HS9 HM1 HM2 HM3 FU10 HY1
          have CR := keepd fun (W : World) (hb : Below V10.heap.size V10 W) => CRx.out W (HR610.out.at_ hb)
          go_cut [14, 15] from 59 to 74 (fun s14 s15 wx => ∃ (b2 y3 : Nat) (Ay : Option Addr) (cy : Nat) (By : Option Addr) (dy : Nat), s14 = .pointer (some ⟨b2, 0, none⟩) ∧ s15 = .pointer (some ⟨y3, 0, none⟩) ∧ Hid (MidY V10 b2 y3 l1 Ay n1 cy (t1 : Int) ov1 li1 false [u] By 1 dy (sg2 : Int) bell wx))
          case first =>
            have hfb1 : (((i : Int).tmod 2) == 0) = fb := HFB.out
            refine wp_region_held_drew (S := fun W => rowOf W w.heap.size = (dk X room).toArray ∧ isRow W 27 w.heap.size 63 = true ∧ W.cell? ⟨w.heap.size, 62, none⟩ = some (.int .i64 room) ∧ W.cell? ⟨V0.heap.size + 1, 0, none⟩ = some (.slice A6 n c6) ∧ W.cell? ⟨V0.heap.size + 1, 1, none⟩ = some (.int .i64 (t : Int)) ∧ W.cell? ⟨V0.heap.size + 1, 2, none⟩ = some (.bool ov) ∧ W.cell? ⟨V0.heap.size + 1, 3, none⟩ = some (.bool li) ∧ W.cell? ⟨V0.heap.size + 1, 4, none⟩ = some (.bool false) ∧ W.cell? ⟨bA, offA + i, none⟩ = some (.int .u8 (u.toNat : Int)) ∧ Below V10.heap.size V10 W) (by kernel_rfl) (sDkT FD11.out FT11.out FU11.out (Below.refl V10.heap.size V10).drew) (fun hHeld => ?_)
            refine wpAnyH_take (i := 0) (oi := { dst := some 60, op := Op.fieldAddr 27 (Operand.tmp 2) 0, type := 0, pos := "law.go:113", after := #[], guard := none }) (v := .pointer (some ⟨w.heap.size, 0, none⟩)) rfl (by kernel_rfl) (by kernel_rfl) (by kernel_rfl) (fun _ _ _ h => h) (Or.inl ⟨by rfl, fun W hW => ?_⟩) hHeld ?_
            · obtain ⟨q0, q1, q2, q3, q4, q5, q6, q7, q8, q9⟩ := hW
              go_simp
            simp only [Act.put, List.setIfInBounds_toArray, List.set_cons_zero, List.set_cons_succ]
            refine wpAnyH_take (i := 1) (oi := { dst := some 61, op := Op.load 25 (Operand.tmp 60), type := 25, pos := "law.go:113", after := #[{ on := 0, ground := Ground.data }], guard := none }) (v := tv X) rfl (by kernel_rfl) (by kernel_rfl) (by kernel_rfl) (fun _ _ _ h => h) (Or.inl ⟨by rfl, fun W hW => ?_⟩) hHeld ?_
            · obtain ⟨q0, q1, q2, q3, q4, q5, q6, q7, q8, q9⟩ := hW
              go_simp
            simp only [Act.put, List.setIfInBounds_toArray, List.set_cons_zero, List.set_cons_succ]
            refine wpAnyH_take (i := 2) (oi := { dst := some 62, op := Op.fieldAddr 27 (Operand.tmp 2) 1, type := 0, pos := "law.go:113", after := #[], guard := none }) (v := .pointer (some ⟨w.heap.size, 62, none⟩)) rfl (by kernel_rfl) (by kernel_rfl) (by kernel_rfl) (fun _ _ _ h => h) (Or.inl ⟨by rfl, fun W hW => ?_⟩) hHeld ?_
            · obtain ⟨q0, q1, q2, q3, q4, q5, q6, q7, q8, q9⟩ := hW
              go_simp
            simp only [Act.put, List.setIfInBounds_toArray, List.set_cons_zero, List.set_cons_succ]
            refine wpAnyH_take (i := 3) (oi := { dst := some 63, op := Op.load 3 (Operand.tmp 62), type := 3, pos := "law.go:113", after := #[{ on := 2, ground := Ground.data }], guard := none }) (v := .int .i64 room) rfl (by kernel_rfl) (by kernel_rfl) (by kernel_rfl) (fun _ _ _ h => h) (Or.inl ⟨by rfl, fun W hW => ?_⟩) hHeld ?_
            · obtain ⟨q0, q1, q2, q3, q4, q5, q6, q7, q8, q9⟩ := hW
              go_simp
            simp only [Act.put, List.setIfInBounds_toArray, List.set_cons_zero, List.set_cons_succ]
            refine wpAnyH_take (i := 4) (oi := { dst := some 64, op := Op.load 34 (Operand.tmp 6), type := 34, pos := "law.go:113", after := #[], guard := none }) (v := .agg #[.slice A6 n c6, .int .i64 (t : Int), .bool ov, .bool li, .bool false]) rfl (by kernel_rfl) (by kernel_rfl) (by kernel_rfl) (fun _ _ _ h => h) (Or.inl ⟨by rfl, fun W hW => ?_⟩) hHeld ?_
            · obtain ⟨q0, q1, q2, q3, q4, q5, q6, q7, q8, q9⟩ := hW
              go_simp
            simp only [Act.put, List.setIfInBounds_toArray, List.set_cons_zero, List.set_cons_succ]
            refine wpAnyH_take (i := 5) (oi := { dst := some 65, op := Op.move (Operand.tmp 1), type := 28, pos := "law.go:113", after := #[], guard := none }) (v := .slice (some ⟨bA, offA, none⟩) m c) rfl (by kernel_rfl) (by kernel_rfl) (by kernel_rfl) (fun _ _ _ h => h) (Or.inl ⟨by rfl, fun W hW => ?_⟩) hHeld ?_
            · obtain ⟨q0, q1, q2, q3, q4, q5, q6, q7, q8, q9⟩ := hW
              go_simp
            simp only [Act.put, List.setIfInBounds_toArray, List.set_cons_zero, List.set_cons_succ]
            refine wpAnyH_take (i := 6) (oi := { dst := some 66, op := Op.move (Operand.tmp 8), type := 3, pos := "law.go:113", after := #[], guard := none }) (v := .int .i64 (i : Int)) rfl (by kernel_rfl) (by kernel_rfl) (by kernel_rfl) (fun _ _ _ h => h) (Or.inl ⟨by rfl, fun W hW => ?_⟩) hHeld ?_
            · obtain ⟨q0, q1, q2, q3, q4, q5, q6, q7, q8, q9⟩ := hW
              go_simp
            simp only [Act.put, List.setIfInBounds_toArray, List.set_cons_zero, List.set_cons_succ]
            refine wpAnyH_take (i := 7) (oi := { dst := some 67, op := Op.indexAddr 28 (Operand.tmp 65) (Operand.tmp 66), type := 0, pos := "law.go:113", after := #[{ on := 5, ground := Ground.data }, { on := 6, ground := Ground.data }], guard := none }) (v := .pointer (some ⟨bA, offA + i, none⟩)) rfl (by kernel_rfl) (by kernel_rfl) (by kernel_rfl) (fun _ _ _ h => h) (Or.inl ⟨by rfl, fun W hW => ?_⟩) hHeld ?_
            · obtain ⟨q0, q1, q2, q3, q4, q5, q6, q7, q8, q9⟩ := hW
              go_simp
            simp only [Act.put, List.setIfInBounds_toArray, List.set_cons_zero, List.set_cons_succ]
            refine wpAnyH_take (i := 8) (oi := { dst := some 68, op := Op.load 5 (Operand.tmp 67), type := 5, pos := "law.go:113", after := #[{ on := 7, ground := Ground.data }], guard := none }) (v := .int .u8 (u.toNat : Int)) rfl (by kernel_rfl) (by kernel_rfl) (by kernel_rfl) (fun _ _ _ h => h) (Or.inl ⟨by rfl, fun W hW => ?_⟩) hHeld ?_
            · obtain ⟨q0, q1, q2, q3, q4, q5, q6, q7, q8, q9⟩ := hW
              go_simp
            simp only [Act.put, List.setIfInBounds_toArray, List.set_cons_zero, List.set_cons_succ]
            refine wpAnyH_take (i := 9) (oi := { dst := some 69, op := Op.move (Operand.tmp 8), type := 3, pos := "law.go:113", after := #[], guard := none }) (v := .int .i64 (i : Int)) rfl (by kernel_rfl) (by kernel_rfl) (by kernel_rfl) (fun _ _ _ h => h) (Or.inl ⟨by rfl, fun W hW => ?_⟩) hHeld ?_
            · obtain ⟨q0, q1, q2, q3, q4, q5, q6, q7, q8, q9⟩ := hW
              go_simp
            simp only [Act.put, List.setIfInBounds_toArray, List.set_cons_zero, List.set_cons_succ]
            refine wpAnyH_take (i := 10) (oi := { dst := some 70, op := Op.binOp BinOp.rem 3 (Operand.tmp 69) (Operand.const (Value.int IntKind.i64 2)) 3, type := 3, pos := "law.go:113", after := #[{ on := 9, ground := Ground.data }], guard := none }) (v := .int .i64 ((i : Int).tmod 2)) rfl (by kernel_rfl) (by kernel_rfl) (by kernel_rfl) (fun _ _ _ h => h) (Or.inl ⟨by rfl, fun W hW => ?_⟩) hHeld ?_
            · obtain ⟨q0, q1, q2, q3, q4, q5, q6, q7, q8, q9⟩ := hW
              go_simp
            simp only [Act.put, List.setIfInBounds_toArray, List.set_cons_zero, List.set_cons_succ]
            refine wpAnyH_take (i := 11) (oi := { dst := some 71, op := Op.binOp BinOp.eql 3 (Operand.tmp 70) (Operand.const (Value.int IntKind.i64 0)) 3, type := 4, pos := "law.go:113", after := #[{ on := 10, ground := Ground.data }], guard := none }) (v := .bool fb) rfl (by kernel_rfl) (by kernel_rfl) (by kernel_rfl) (fun _ _ _ h => h) (Or.inl ⟨by rfl, fun W hW => ?_⟩) hHeld ?_
            · obtain ⟨q0, q1, q2, q3, q4, q5, q6, q7, q8, q9⟩ := hW
              go_simp
            simp only [Act.put, List.setIfInBounds_toArray, List.set_cons_zero, List.set_cons_succ]
            refine wpAnyH_ready (rs := [12, 16, 17]) (by kernel_rfl) (by simp) ?_
            refine AllReadyH.cons (o := { dst := some 72, op := Op.call { callee := Callee.value (Operand.func 11), args := #[Operand.tmp 61, Operand.tmp 63, Operand.tmp 64, Operand.tmp 68, Operand.const (Value.bool false), Operand.tmp 71], argTypes := #[25, 3, 34, 5, 4, 4] }, type := 42, pos := "law.go:113", after := #[{ on := 1, ground := Ground.data }, { on := 3, ground := Ground.data }, { on := 4, ground := Ground.data }, { on := 8, ground := Ground.data }, { on := 11, ground := Ground.data }], guard := none }) rfl (fun K hK => ?_) (AllReadyH.cons (o := { dst := some 14, op := Op.alloc 34, type := 0, pos := "law.go:113", after := #[], guard := none }) rfl (fun K hK => ?_) (AllReadyH.cons (o := { dst := some 15, op := Op.alloc 41, type := 0, pos := "law.go:113", after := #[], guard := none }) rfl (fun K hK => ?_) AllReadyH.nil))
            · go_simp
              with_reducible refine (CR.out (V10).drew (Below.refl V10.heap.size V10).drew).mono ?_
              rintro e wz1 ⟨Ay, cy, By, dy, rfl, hxz1, hsz1, hcz1⟩
              have hbz1 : Below V10.heap.size V10 wz1 := bCall (Below.refl V10.heap.size V10).drew hcz1
              go_wp2_with fail
              refine hK.out _ _ (sDkT FD11.out FT11.out FU11.out hbz1) (fun hHeld2 => ?_)
              clear hK K hHeld
              have hHeld := hHeld2
              clear hHeld2
              try simp only [Act.put, List.setIfInBounds_toArray, List.set_cons_zero, List.set_cons_succ]
              refine wpAnyH_take (i := 13) (oi := { dst := some 59, op := Op.move (Operand.tmp 72), type := 42, pos := "law.go:113", after := #[{ on := 12, ground := Ground.data }], guard := none }) (v := .tuple #[.agg #[.slice Ay n1 cy, .int .i64 (t1 : Int), .bool ov1, .bool li1, .bool false], .agg #[.slice By 1 dy, .int .i64 (sg2 : Int), .bool bell]]) rfl (by kernel_rfl) (by kernel_rfl) (by kernel_rfl) (fun _ _ _ h => h) (Or.inl ⟨by rfl, fun W hW => ?_⟩) hHeld ?_
              · obtain ⟨q0, q1, q2, q3, q4, q5, q6, q7, q8, q9⟩ := hW
                go_simp
              simp only [Act.put, List.setIfInBounds_toArray, List.set_cons_zero, List.set_cons_succ]
              refine wpAnyH_take (i := 14) (oi := { dst := some 73, op := Op.extract (Operand.tmp 59) 0, type := 34, pos := "law.go:113", after := #[{ on := 13, ground := Ground.data }], guard := none }) (v := .agg #[.slice Ay n1 cy, .int .i64 (t1 : Int), .bool ov1, .bool li1, .bool false]) rfl (by kernel_rfl) (by kernel_rfl) (by kernel_rfl) (fun _ _ _ h => h) (Or.inl ⟨by rfl, fun W hW => ?_⟩) hHeld ?_
              · obtain ⟨q0, q1, q2, q3, q4, q5, q6, q7, q8, q9⟩ := hW
                go_simp
              simp only [Act.put, List.setIfInBounds_toArray, List.set_cons_zero, List.set_cons_succ]
              refine wpAnyH_take (i := 15) (oi := { dst := some 74, op := Op.extract (Operand.tmp 59) 1, type := 41, pos := "law.go:113", after := #[{ on := 13, ground := Ground.data }, { on := 18, ground := Ground.gcOnly Departure.lateStores }], guard := none }) (v := .agg #[.slice By 1 dy, .int .i64 (sg2 : Int), .bool bell]) rfl (by kernel_rfl) (by kernel_rfl) (by kernel_rfl) (fun _ _ _ h => h) (Or.inl ⟨by rfl, fun W hW => ?_⟩) hHeld ?_
              · obtain ⟨q0, q1, q2, q3, q4, q5, q6, q7, q8, q9⟩ := hW
                go_simp
              simp only [Act.put, List.setIfInBounds_toArray, List.set_cons_zero, List.set_cons_succ]
              refine wpAnyH_ready (rs := [16, 17]) (by kernel_rfl) (by simp) ?_
              refine AllReadyH.cons (o := { dst := some 14, op := Op.alloc 34, type := 0, pos := "law.go:113", after := #[], guard := none }) rfl (fun K hK => ?_) (AllReadyH.cons (o := { dst := some 15, op := Op.alloc 41, type := 0, pos := "law.go:113", after := #[], guard := none }) rfl (fun K hK => ?_) AllReadyH.nil)
              · go_simp
                have hbz2 : Below V10.heap.size V10 (wz1.alloc (.cells #[.slice none 0 0, .int .i64 0, .bool false, .bool false, .bool false] 34)) := bAlloc hbz1 (.cells #[.slice none 0 0, .int .i64 0, .bool false, .bool false, .bool false] 34)
                have hzz2 : SR 34 (wz1.alloc (.cells #[.slice none 0 0, .int .i64 0, .bool false, .bool false, .bool false] 34)) (wz1.heap.size) [.slice none 0 0, .int .i64 0, .bool false, .bool false, .bool false] := SR.new 34 (wz1) [.slice none 0 0, .int .i64 0, .bool false, .bool false, .bool false]
                have hvz2 : V10.heap.size ≤ wz1.heap.size := by have h0 := Below.size hbz1; exact h0
                have hxz2 := (hxz1).at_ (bAlloc (Below.refl _ _) (.cells #[.slice none 0 0, .int .i64 0, .bool false, .bool false, .bool false] 34))
                have hsz2 := (hsz1).at_ (bAlloc (Below.refl _ _) (.cells #[.slice none 0 0, .int .i64 0, .bool false, .bool false, .bool false] 34))
                refine hK.out _ _ (sDkT FD11.out FT11.out FU11.out hbz2) (fun hHeld2 => ?_)
                clear hK K hHeld
                have hHeld := hHeld2
                clear hHeld2
                try simp only [Act.put, List.setIfInBounds_toArray, List.set_cons_zero, List.set_cons_succ]
                generalize hWz2 : wz1.alloc (.cells #[.slice none 0 0, .int .i64 0, .bool false, .bool false, .bool false] 34) = Wz2 at *
                clear hWz2
                refine wpAnyH_ready (rs := [17]) (by kernel_rfl) (by simp) ?_
                refine AllReadyH.cons (o := { dst := some 15, op := Op.alloc 41, type := 0, pos := "law.go:113", after := #[], guard := none }) rfl (fun K hK => ?_) AllReadyH.nil
                go_simp
                have hbz3 : Below V10.heap.size V10 (Wz2.alloc (.cells #[.slice none 0 0, .int .i64 0, .bool false] 41)) := bAlloc hbz2 (.cells #[.slice none 0 0, .int .i64 0, .bool false] 41)
                have hzz3 : SR 41 (Wz2.alloc (.cells #[.slice none 0 0, .int .i64 0, .bool false] 41)) (Wz2.heap.size) [.slice none 0 0, .int .i64 0, .bool false] := SR.new 41 (Wz2) [.slice none 0 0, .int .i64 0, .bool false]
                have hvz3 : V10.heap.size ≤ Wz2.heap.size := by have h0 := Below.size hbz2; exact h0
                have hzz3_16 := SR.alloc hzz2 (.cells #[.slice none 0 0, .int .i64 0, .bool false] 41)
                have hnz3_16 : wz1.heap.size ≠ Wz2.heap.size := by have h0 := SR.lt hzz2; exact Nat.ne_of_lt h0
                have hxz3 := (hxz2).at_ (bAlloc (Below.refl _ _) (.cells #[.slice none 0 0, .int .i64 0, .bool false] 41))
                have hsz3 := (hsz2).at_ (bAlloc (Below.refl _ _) (.cells #[.slice none 0 0, .int .i64 0, .bool false] 41))
                refine hK.out _ _ (sDkT FD11.out FT11.out FU11.out hbz3) (fun hHeld2 => ?_)
                clear hK K hHeld
                have hHeld := hHeld2
                clear hHeld2
                try simp only [Act.put, List.setIfInBounds_toArray, List.set_cons_zero, List.set_cons_succ]
                generalize hWz3 : Wz2.alloc (.cells #[.slice none 0 0, .int .i64 0, .bool false] 41) = Wz3 at *
                clear hWz3
                have hne9 : wz1.heap.size ≠ Wz2.heap.size := by first | assumption | (apply Ne.symm; assumption)
                have hne8 : ¬ wz1.heap.size = Wz2.heap.size := hne9
                have hne7 : ¬ Wz2.heap.size = wz1.heap.size := fun e => hne9 e.symm
                obtain ⟨j0, j1, j2, j3, j4, r0, r1, r2, r3, r4, jt⟩ := tk_facts hzz3_16
                have HM := keepd (midy (V := V10) hzz3_16 hzz3 hne9 hbz3 hvz2 hvz3 hxz3 hsz3 (l := l1) (n := n1) (A := Ay) (c := cy) (z := (t1 : Int)) (ov := ov1) (li := li1) (h := false) (ks := [u]) (B := By) (m := 1) (d := dy) (sg := (sg2 : Int)) (bell := bell))
                have hb5S : Below V10.heap.size V10 (set5 Wz3 wz1.heap.size (.slice Ay n1 cy) (.int .i64 (t1 : Int)) (.bool ov1) (.bool li1) (.bool false)) := set5_below hbz3 hvz2
                have hyS : SR 41 (set5 Wz3 wz1.heap.size (.slice Ay n1 cy) (.int .i64 (t1 : Int)) (.bool ov1) (.bool li1) (.bool false)) (Wz2.heap.size) [.slice none 0 0, .int .i64 0, .bool false] := set5_far hzz3 hne7
                refine wpAnyH_ready (rs := [18]) (by kernel_rfl) (by simp) ?_
                refine AllReadyH.cons (o := { dst := none, op := Op.store 34 (Operand.tmp 14) (Operand.tmp 73), type := 0, pos := "law.go:113", after := #[{ on := 16, ground := Ground.data }, { on := 14, ground := Ground.data }, { on := 12, ground := Ground.chain }, { on := 0, ground := Ground.phase }, { on := 1, ground := Ground.phase }, { on := 2, ground := Ground.phase }, { on := 3, ground := Ground.phase }, { on := 4, ground := Ground.phase }, { on := 5, ground := Ground.phase }, { on := 6, ground := Ground.phase }, { on := 7, ground := Ground.phase }, { on := 8, ground := Ground.phase }, { on := 9, ground := Ground.phase }, { on := 10, ground := Ground.phase }, { on := 11, ground := Ground.phase }, { on := 12, ground := Ground.phase }, { on := 13, ground := Ground.phase }, { on := 14, ground := Ground.phase }, { on := 15, ground := Ground.textOnly Departure.lateStores }, { on := 16, ground := Ground.phase }, { on := 17, ground := Ground.phase }], guard := none }) rfl (fun K hK => ?_) AllReadyH.nil
                go_simp
                refine hK.out _ (set5 Wz3 wz1.heap.size (.slice Ay n1 cy) (.int .i64 (t1 : Int)) (.bool ov1) (.bool li1) (.bool false)) (sDkT FD11.out FT11.out FU11.out hb5S) (fun hHeld2 => ?_)
                clear hK K hHeld
                have hHeld := hHeld2
                clear hHeld2
                try simp only [Act.put, List.setIfInBounds_toArray, List.set_cons_zero, List.set_cons_succ]
                clear j0 j1 j2 j3 j4 r0 r1 r2 r3 r4 jt
                obtain ⟨j0, j1, j2, r0, r1, r2, jt⟩ := ty_facts hyS
                refine wpAnyH_ready (rs := [19]) (by kernel_rfl) (by simp) ?_
                refine AllReadyH.cons (o := { dst := none, op := Op.store 41 (Operand.tmp 15) (Operand.tmp 74), type := 0, pos := "law.go:113", after := #[{ on := 17, ground := Ground.data }, { on := 15, ground := Ground.data }, { on := 18, ground := Ground.chain }, { on := 0, ground := Ground.phase }, { on := 1, ground := Ground.phase }, { on := 2, ground := Ground.phase }, { on := 3, ground := Ground.phase }, { on := 4, ground := Ground.phase }, { on := 5, ground := Ground.phase }, { on := 6, ground := Ground.phase }, { on := 7, ground := Ground.phase }, { on := 8, ground := Ground.phase }, { on := 9, ground := Ground.phase }, { on := 10, ground := Ground.phase }, { on := 11, ground := Ground.phase }, { on := 12, ground := Ground.phase }, { on := 13, ground := Ground.phase }, { on := 14, ground := Ground.phase }, { on := 15, ground := Ground.phase }, { on := 16, ground := Ground.phase }, { on := 17, ground := Ground.phase }, { on := 18, ground := Ground.phase }], guard := none }) rfl (fun K hK => ?_) AllReadyH.nil
                go_simp
                refine hK.out _ (set3 (set5 Wz3 wz1.heap.size (.slice Ay n1 cy) (.int .i64 (t1 : Int)) (.bool ov1) (.bool li1) (.bool false)) Wz2.heap.size (.slice By 1 dy) (.int .i64 (sg2 : Int)) (.bool bell)) (sDkT FD11.out FT11.out FU11.out HM.out.2.2.2.2.1) (fun hHeld2 => ?_)
                clear hK K hHeld
                have hHeld := hHeld2
                clear hHeld2
                try simp only [Act.put, List.setIfInBounds_toArray, List.set_cons_zero, List.set_cons_succ]
                refine wpAnyH_done (by kernel_rfl) ?_ _
                go_wp2_with fail
                go_meet
                exact ⟨_, _, _, _, _, _, rfl, rfl, HM⟩
              · go_simp
                have hbz4 : Below V10.heap.size V10 (wz1.alloc (.cells #[.slice none 0 0, .int .i64 0, .bool false] 41)) := bAlloc hbz1 (.cells #[.slice none 0 0, .int .i64 0, .bool false] 41)
                have hzz4 : SR 41 (wz1.alloc (.cells #[.slice none 0 0, .int .i64 0, .bool false] 41)) (wz1.heap.size) [.slice none 0 0, .int .i64 0, .bool false] := SR.new 41 (wz1) [.slice none 0 0, .int .i64 0, .bool false]
                have hvz4 : V10.heap.size ≤ wz1.heap.size := by have h0 := Below.size hbz1; exact h0
                have hxz4 := (hxz1).at_ (bAlloc (Below.refl _ _) (.cells #[.slice none 0 0, .int .i64 0, .bool false] 41))
                have hsz4 := (hsz1).at_ (bAlloc (Below.refl _ _) (.cells #[.slice none 0 0, .int .i64 0, .bool false] 41))
                refine hK.out _ _ (sDkT FD11.out FT11.out FU11.out hbz4) (fun hHeld2 => ?_)
                clear hK K hHeld
                have hHeld := hHeld2
                clear hHeld2
                try simp only [Act.put, List.setIfInBounds_toArray, List.set_cons_zero, List.set_cons_succ]
                generalize hWz4 : wz1.alloc (.cells #[.slice none 0 0, .int .i64 0, .bool false] 41) = Wz4 at *
                clear hWz4
                refine wpAnyH_ready (rs := [16]) (by kernel_rfl) (by simp) ?_
                refine AllReadyH.cons (o := { dst := some 14, op := Op.alloc 34, type := 0, pos := "law.go:113", after := #[], guard := none }) rfl (fun K hK => ?_) AllReadyH.nil
                go_simp
                have hbz5 : Below V10.heap.size V10 (Wz4.alloc (.cells #[.slice none 0 0, .int .i64 0, .bool false, .bool false, .bool false] 34)) := bAlloc hbz4 (.cells #[.slice none 0 0, .int .i64 0, .bool false, .bool false, .bool false] 34)
                have hzz5 : SR 34 (Wz4.alloc (.cells #[.slice none 0 0, .int .i64 0, .bool false, .bool false, .bool false] 34)) (Wz4.heap.size) [.slice none 0 0, .int .i64 0, .bool false, .bool false, .bool false] := SR.new 34 (Wz4) [.slice none 0 0, .int .i64 0, .bool false, .bool false, .bool false]
                have hvz5 : V10.heap.size ≤ Wz4.heap.size := by have h0 := Below.size hbz4; exact h0
                have hzz5_17 := SR.alloc hzz4 (.cells #[.slice none 0 0, .int .i64 0, .bool false, .bool false, .bool false] 34)
                have hnz5_17 : wz1.heap.size ≠ Wz4.heap.size := by have h0 := SR.lt hzz4; exact Nat.ne_of_lt h0
                have hxz5 := (hxz4).at_ (bAlloc (Below.refl _ _) (.cells #[.slice none 0 0, .int .i64 0, .bool false, .bool false, .bool false] 34))
                have hsz5 := (hsz4).at_ (bAlloc (Below.refl _ _) (.cells #[.slice none 0 0, .int .i64 0, .bool false, .bool false, .bool false] 34))
                refine hK.out _ _ (sDkT FD11.out FT11.out FU11.out hbz5) (fun hHeld2 => ?_)
                clear hK K hHeld
                have hHeld := hHeld2
                clear hHeld2
                try simp only [Act.put, List.setIfInBounds_toArray, List.set_cons_zero, List.set_cons_succ]
                generalize hWz5 : Wz4.alloc (.cells #[.slice none 0 0, .int .i64 0, .bool false, .bool false, .bool false] 34) = Wz5 at *
                clear hWz5
                have hne9 : Wz4.heap.size ≠ wz1.heap.size := by first | assumption | (apply Ne.symm; assumption)
                have hne8 : ¬ Wz4.heap.size = wz1.heap.size := hne9
                have hne7 : ¬ wz1.heap.size = Wz4.heap.size := fun e => hne9 e.symm
                obtain ⟨j0, j1, j2, j3, j4, r0, r1, r2, r3, r4, jt⟩ := tk_facts hzz5
                have HM := keepd (midy (V := V10) hzz5 hzz5_17 hne9 hbz5 hvz5 hvz4 hxz5 hsz5 (l := l1) (n := n1) (A := Ay) (c := cy) (z := (t1 : Int)) (ov := ov1) (li := li1) (h := false) (ks := [u]) (B := By) (m := 1) (d := dy) (sg := (sg2 : Int)) (bell := bell))
                have hb5S : Below V10.heap.size V10 (set5 Wz5 Wz4.heap.size (.slice Ay n1 cy) (.int .i64 (t1 : Int)) (.bool ov1) (.bool li1) (.bool false)) := set5_below hbz5 hvz5
                have hyS : SR 41 (set5 Wz5 Wz4.heap.size (.slice Ay n1 cy) (.int .i64 (t1 : Int)) (.bool ov1) (.bool li1) (.bool false)) (wz1.heap.size) [.slice none 0 0, .int .i64 0, .bool false] := set5_far hzz5_17 hne7
                refine wpAnyH_ready (rs := [18]) (by kernel_rfl) (by simp) ?_
                refine AllReadyH.cons (o := { dst := none, op := Op.store 34 (Operand.tmp 14) (Operand.tmp 73), type := 0, pos := "law.go:113", after := #[{ on := 16, ground := Ground.data }, { on := 14, ground := Ground.data }, { on := 12, ground := Ground.chain }, { on := 0, ground := Ground.phase }, { on := 1, ground := Ground.phase }, { on := 2, ground := Ground.phase }, { on := 3, ground := Ground.phase }, { on := 4, ground := Ground.phase }, { on := 5, ground := Ground.phase }, { on := 6, ground := Ground.phase }, { on := 7, ground := Ground.phase }, { on := 8, ground := Ground.phase }, { on := 9, ground := Ground.phase }, { on := 10, ground := Ground.phase }, { on := 11, ground := Ground.phase }, { on := 12, ground := Ground.phase }, { on := 13, ground := Ground.phase }, { on := 14, ground := Ground.phase }, { on := 15, ground := Ground.textOnly Departure.lateStores }, { on := 16, ground := Ground.phase }, { on := 17, ground := Ground.phase }], guard := none }) rfl (fun K hK => ?_) AllReadyH.nil
                go_simp
                refine hK.out _ (set5 Wz5 Wz4.heap.size (.slice Ay n1 cy) (.int .i64 (t1 : Int)) (.bool ov1) (.bool li1) (.bool false)) (sDkT FD11.out FT11.out FU11.out hb5S) (fun hHeld2 => ?_)
                clear hK K hHeld
                have hHeld := hHeld2
                clear hHeld2
                try simp only [Act.put, List.setIfInBounds_toArray, List.set_cons_zero, List.set_cons_succ]
                clear j0 j1 j2 j3 j4 r0 r1 r2 r3 r4 jt
                obtain ⟨j0, j1, j2, r0, r1, r2, jt⟩ := ty_facts hyS
                refine wpAnyH_ready (rs := [19]) (by kernel_rfl) (by simp) ?_
                refine AllReadyH.cons (o := { dst := none, op := Op.store 41 (Operand.tmp 15) (Operand.tmp 74), type := 0, pos := "law.go:113", after := #[{ on := 17, ground := Ground.data }, { on := 15, ground := Ground.data }, { on := 18, ground := Ground.chain }, { on := 0, ground := Ground.phase }, { on := 1, ground := Ground.phase }, { on := 2, ground := Ground.phase }, { on := 3, ground := Ground.phase }, { on := 4, ground := Ground.phase }, { on := 5, ground := Ground.phase }, { on := 6, ground := Ground.phase }, { on := 7, ground := Ground.phase }, { on := 8, ground := Ground.phase }, { on := 9, ground := Ground.phase }, { on := 10, ground := Ground.phase }, { on := 11, ground := Ground.phase }, { on := 12, ground := Ground.phase }, { on := 13, ground := Ground.phase }, { on := 14, ground := Ground.phase }, { on := 15, ground := Ground.phase }, { on := 16, ground := Ground.phase }, { on := 17, ground := Ground.phase }, { on := 18, ground := Ground.phase }], guard := none }) rfl (fun K hK => ?_) AllReadyH.nil
                go_simp
                refine hK.out _ (set3 (set5 Wz5 Wz4.heap.size (.slice Ay n1 cy) (.int .i64 (t1 : Int)) (.bool ov1) (.bool li1) (.bool false)) wz1.heap.size (.slice By 1 dy) (.int .i64 (sg2 : Int)) (.bool bell)) (sDkT FD11.out FT11.out FU11.out HM.out.2.2.2.2.1) (fun hHeld2 => ?_)
                clear hK K hHeld
                have hHeld := hHeld2
                clear hHeld2
                try simp only [Act.put, List.setIfInBounds_toArray, List.set_cons_zero, List.set_cons_succ]
                refine wpAnyH_done (by kernel_rfl) ?_ _
                go_wp2_with fail
                go_meet
                exact ⟨_, _, _, _, _, _, rfl, rfl, HM⟩
            · go_simp
              have hbz6 : Below V10.heap.size V10 ((V10.alloc (.cells #[.slice none 0 0, .int .i64 0, .bool false, .bool false, .bool false] 34)).drew) := bAlloc (Below.refl V10.heap.size V10).drew (.cells #[.slice none 0 0, .int .i64 0, .bool false, .bool false, .bool false] 34)
              have hzz6 : SR 34 ((V10.alloc (.cells #[.slice none 0 0, .int .i64 0, .bool false, .bool false, .bool false] 34)).drew) (V10.heap.size) [.slice none 0 0, .int .i64 0, .bool false, .bool false, .bool false] := SR.new 34 (V10) [.slice none 0 0, .int .i64 0, .bool false, .bool false, .bool false]
              have hvz6 : V10.heap.size ≤ V10.heap.size := by have h0 := Below.size (Below.refl V10.heap.size V10).drew; exact h0
              refine hK.out _ _ (sDkT FD11.out FT11.out FU11.out hbz6) (fun hHeld2 => ?_)
              clear hK K hHeld
              have hHeld := hHeld2
              clear hHeld2
              try simp only [Act.put, List.setIfInBounds_toArray, List.set_cons_zero, List.set_cons_succ]
              generalize hWz6 : (V10.alloc (.cells #[.slice none 0 0, .int .i64 0, .bool false, .bool false, .bool false] 34)).drew = Wz6 at *
              clear hWz6
              refine wpAnyH_ready (rs := [12, 17]) (by kernel_rfl) (by simp) ?_
              refine AllReadyH.cons (o := { dst := some 72, op := Op.call { callee := Callee.value (Operand.func 11), args := #[Operand.tmp 61, Operand.tmp 63, Operand.tmp 64, Operand.tmp 68, Operand.const (Value.bool false), Operand.tmp 71], argTypes := #[25, 3, 34, 5, 4, 4] }, type := 42, pos := "law.go:113", after := #[{ on := 1, ground := Ground.data }, { on := 3, ground := Ground.data }, { on := 4, ground := Ground.data }, { on := 8, ground := Ground.data }, { on := 11, ground := Ground.data }], guard := none }) rfl (fun K hK => ?_) (AllReadyH.cons (o := { dst := some 15, op := Op.alloc 41, type := 0, pos := "law.go:113", after := #[], guard := none }) rfl (fun K hK => ?_) AllReadyH.nil)
              · go_simp
                with_reducible refine (CR.out Wz6 hbz6).mono ?_
                rintro e wz7 ⟨Ay, cy, By, dy, rfl, hxz7, hsz7, hcz7⟩
                have hbz7 : Below V10.heap.size V10 wz7 := bCall hbz6 hcz7
                have hzz7_16 := SR.call hzz6 hcz7 (hzz6).lt
                go_wp2_with fail
                refine hK.out _ _ (sDkT FD11.out FT11.out FU11.out hbz7) (fun hHeld2 => ?_)
                clear hK K hHeld
                have hHeld := hHeld2
                clear hHeld2
                try simp only [Act.put, List.setIfInBounds_toArray, List.set_cons_zero, List.set_cons_succ]
                refine wpAnyH_take (i := 13) (oi := { dst := some 59, op := Op.move (Operand.tmp 72), type := 42, pos := "law.go:113", after := #[{ on := 12, ground := Ground.data }], guard := none }) (v := .tuple #[.agg #[.slice Ay n1 cy, .int .i64 (t1 : Int), .bool ov1, .bool li1, .bool false], .agg #[.slice By 1 dy, .int .i64 (sg2 : Int), .bool bell]]) rfl (by kernel_rfl) (by kernel_rfl) (by kernel_rfl) (fun _ _ _ h => h) (Or.inl ⟨by rfl, fun W hW => ?_⟩) hHeld ?_
                · obtain ⟨q0, q1, q2, q3, q4, q5, q6, q7, q8, q9⟩ := hW
                  go_simp
                simp only [Act.put, List.setIfInBounds_toArray, List.set_cons_zero, List.set_cons_succ]
                refine wpAnyH_take (i := 14) (oi := { dst := some 73, op := Op.extract (Operand.tmp 59) 0, type := 34, pos := "law.go:113", after := #[{ on := 13, ground := Ground.data }], guard := none }) (v := .agg #[.slice Ay n1 cy, .int .i64 (t1 : Int), .bool ov1, .bool li1, .bool false]) rfl (by kernel_rfl) (by kernel_rfl) (by kernel_rfl) (fun _ _ _ h => h) (Or.inl ⟨by rfl, fun W hW => ?_⟩) hHeld ?_
                · obtain ⟨q0, q1, q2, q3, q4, q5, q6, q7, q8, q9⟩ := hW
                  go_simp
                simp only [Act.put, List.setIfInBounds_toArray, List.set_cons_zero, List.set_cons_succ]
                refine wpAnyH_take (i := 15) (oi := { dst := some 74, op := Op.extract (Operand.tmp 59) 1, type := 41, pos := "law.go:113", after := #[{ on := 13, ground := Ground.data }, { on := 18, ground := Ground.gcOnly Departure.lateStores }], guard := none }) (v := .agg #[.slice By 1 dy, .int .i64 (sg2 : Int), .bool bell]) rfl (by kernel_rfl) (by kernel_rfl) (by kernel_rfl) (fun _ _ _ h => h) (Or.inl ⟨by rfl, fun W hW => ?_⟩) hHeld ?_
                · obtain ⟨q0, q1, q2, q3, q4, q5, q6, q7, q8, q9⟩ := hW
                  go_simp
                simp only [Act.put, List.setIfInBounds_toArray, List.set_cons_zero, List.set_cons_succ]
                refine wpAnyH_ready (rs := [17]) (by kernel_rfl) (by simp) ?_
                refine AllReadyH.cons (o := { dst := some 15, op := Op.alloc 41, type := 0, pos := "law.go:113", after := #[], guard := none }) rfl (fun K hK => ?_) AllReadyH.nil
                go_simp
                have hbz8 : Below V10.heap.size V10 (wz7.alloc (.cells #[.slice none 0 0, .int .i64 0, .bool false] 41)) := bAlloc hbz7 (.cells #[.slice none 0 0, .int .i64 0, .bool false] 41)
                have hzz8 : SR 41 (wz7.alloc (.cells #[.slice none 0 0, .int .i64 0, .bool false] 41)) (wz7.heap.size) [.slice none 0 0, .int .i64 0, .bool false] := SR.new 41 (wz7) [.slice none 0 0, .int .i64 0, .bool false]
                have hvz8 : V10.heap.size ≤ wz7.heap.size := by have h0 := Below.size hbz7; exact h0
                have hzz8_16 := SR.alloc hzz7_16 (.cells #[.slice none 0 0, .int .i64 0, .bool false] 41)
                have hnz8_16 : V10.heap.size ≠ wz7.heap.size := by have h0 := SR.lt hzz7_16; exact Nat.ne_of_lt h0
                have hxz8 := (hxz7).at_ (bAlloc (Below.refl _ _) (.cells #[.slice none 0 0, .int .i64 0, .bool false] 41))
                have hsz8 := (hsz7).at_ (bAlloc (Below.refl _ _) (.cells #[.slice none 0 0, .int .i64 0, .bool false] 41))
                refine hK.out _ _ (sDkT FD11.out FT11.out FU11.out hbz8) (fun hHeld2 => ?_)
                clear hK K hHeld
                have hHeld := hHeld2
                clear hHeld2
                try simp only [Act.put, List.setIfInBounds_toArray, List.set_cons_zero, List.set_cons_succ]
                generalize hWz8 : wz7.alloc (.cells #[.slice none 0 0, .int .i64 0, .bool false] 41) = Wz8 at *
                clear hWz8
                have hne9 : V10.heap.size ≠ wz7.heap.size := by first | assumption | (apply Ne.symm; assumption)
                have hne8 : ¬ V10.heap.size = wz7.heap.size := hne9
                have hne7 : ¬ wz7.heap.size = V10.heap.size := fun e => hne9 e.symm
                obtain ⟨j0, j1, j2, j3, j4, r0, r1, r2, r3, r4, jt⟩ := tk_facts hzz8_16
                have HM := keepd (midy (V := V10) hzz8_16 hzz8 hne9 hbz8 hvz6 hvz8 hxz8 hsz8 (l := l1) (n := n1) (A := Ay) (c := cy) (z := (t1 : Int)) (ov := ov1) (li := li1) (h := false) (ks := [u]) (B := By) (m := 1) (d := dy) (sg := (sg2 : Int)) (bell := bell))
                have hb5S : Below V10.heap.size V10 (set5 Wz8 V10.heap.size (.slice Ay n1 cy) (.int .i64 (t1 : Int)) (.bool ov1) (.bool li1) (.bool false)) := set5_below hbz8 hvz6
                have hyS : SR 41 (set5 Wz8 V10.heap.size (.slice Ay n1 cy) (.int .i64 (t1 : Int)) (.bool ov1) (.bool li1) (.bool false)) (wz7.heap.size) [.slice none 0 0, .int .i64 0, .bool false] := set5_far hzz8 hne7
                refine wpAnyH_ready (rs := [18]) (by kernel_rfl) (by simp) ?_
                refine AllReadyH.cons (o := { dst := none, op := Op.store 34 (Operand.tmp 14) (Operand.tmp 73), type := 0, pos := "law.go:113", after := #[{ on := 16, ground := Ground.data }, { on := 14, ground := Ground.data }, { on := 12, ground := Ground.chain }, { on := 0, ground := Ground.phase }, { on := 1, ground := Ground.phase }, { on := 2, ground := Ground.phase }, { on := 3, ground := Ground.phase }, { on := 4, ground := Ground.phase }, { on := 5, ground := Ground.phase }, { on := 6, ground := Ground.phase }, { on := 7, ground := Ground.phase }, { on := 8, ground := Ground.phase }, { on := 9, ground := Ground.phase }, { on := 10, ground := Ground.phase }, { on := 11, ground := Ground.phase }, { on := 12, ground := Ground.phase }, { on := 13, ground := Ground.phase }, { on := 14, ground := Ground.phase }, { on := 15, ground := Ground.textOnly Departure.lateStores }, { on := 16, ground := Ground.phase }, { on := 17, ground := Ground.phase }], guard := none }) rfl (fun K hK => ?_) AllReadyH.nil
                go_simp
                refine hK.out _ (set5 Wz8 V10.heap.size (.slice Ay n1 cy) (.int .i64 (t1 : Int)) (.bool ov1) (.bool li1) (.bool false)) (sDkT FD11.out FT11.out FU11.out hb5S) (fun hHeld2 => ?_)
                clear hK K hHeld
                have hHeld := hHeld2
                clear hHeld2
                try simp only [Act.put, List.setIfInBounds_toArray, List.set_cons_zero, List.set_cons_succ]
                clear j0 j1 j2 j3 j4 r0 r1 r2 r3 r4 jt
                obtain ⟨j0, j1, j2, r0, r1, r2, jt⟩ := ty_facts hyS
                refine wpAnyH_ready (rs := [19]) (by kernel_rfl) (by simp) ?_
                refine AllReadyH.cons (o := { dst := none, op := Op.store 41 (Operand.tmp 15) (Operand.tmp 74), type := 0, pos := "law.go:113", after := #[{ on := 17, ground := Ground.data }, { on := 15, ground := Ground.data }, { on := 18, ground := Ground.chain }, { on := 0, ground := Ground.phase }, { on := 1, ground := Ground.phase }, { on := 2, ground := Ground.phase }, { on := 3, ground := Ground.phase }, { on := 4, ground := Ground.phase }, { on := 5, ground := Ground.phase }, { on := 6, ground := Ground.phase }, { on := 7, ground := Ground.phase }, { on := 8, ground := Ground.phase }, { on := 9, ground := Ground.phase }, { on := 10, ground := Ground.phase }, { on := 11, ground := Ground.phase }, { on := 12, ground := Ground.phase }, { on := 13, ground := Ground.phase }, { on := 14, ground := Ground.phase }, { on := 15, ground := Ground.phase }, { on := 16, ground := Ground.phase }, { on := 17, ground := Ground.phase }, { on := 18, ground := Ground.phase }], guard := none }) rfl (fun K hK => ?_) AllReadyH.nil
                go_simp
                refine hK.out _ (set3 (set5 Wz8 V10.heap.size (.slice Ay n1 cy) (.int .i64 (t1 : Int)) (.bool ov1) (.bool li1) (.bool false)) wz7.heap.size (.slice By 1 dy) (.int .i64 (sg2 : Int)) (.bool bell)) (sDkT FD11.out FT11.out FU11.out HM.out.2.2.2.2.1) (fun hHeld2 => ?_)
                clear hK K hHeld
                have hHeld := hHeld2
                clear hHeld2
                try simp only [Act.put, List.setIfInBounds_toArray, List.set_cons_zero, List.set_cons_succ]
                refine wpAnyH_done (by kernel_rfl) ?_ _
                go_wp2_with fail
                go_meet
                exact ⟨_, _, _, _, _, _, rfl, rfl, HM⟩
              · go_simp
                have hbz9 : Below V10.heap.size V10 (Wz6.alloc (.cells #[.slice none 0 0, .int .i64 0, .bool false] 41)) := bAlloc hbz6 (.cells #[.slice none 0 0, .int .i64 0, .bool false] 41)
                have hzz9 : SR 41 (Wz6.alloc (.cells #[.slice none 0 0, .int .i64 0, .bool false] 41)) (Wz6.heap.size) [.slice none 0 0, .int .i64 0, .bool false] := SR.new 41 (Wz6) [.slice none 0 0, .int .i64 0, .bool false]
                have hvz9 : V10.heap.size ≤ Wz6.heap.size := by have h0 := Below.size hbz6; exact h0
                have hzz9_16 := SR.alloc hzz6 (.cells #[.slice none 0 0, .int .i64 0, .bool false] 41)
                have hnz9_16 : V10.heap.size ≠ Wz6.heap.size := by have h0 := SR.lt hzz6; exact Nat.ne_of_lt h0
                refine hK.out _ _ (sDkT FD11.out FT11.out FU11.out hbz9) (fun hHeld2 => ?_)
                clear hK K hHeld
                have hHeld := hHeld2
                clear hHeld2
                try simp only [Act.put, List.setIfInBounds_toArray, List.set_cons_zero, List.set_cons_succ]
                generalize hWz9 : Wz6.alloc (.cells #[.slice none 0 0, .int .i64 0, .bool false] 41) = Wz9 at *
                clear hWz9
                refine wpAnyH_ready (rs := [12]) (by kernel_rfl) (by simp) ?_
                refine AllReadyH.cons (o := { dst := some 72, op := Op.call { callee := Callee.value (Operand.func 11), args := #[Operand.tmp 61, Operand.tmp 63, Operand.tmp 64, Operand.tmp 68, Operand.const (Value.bool false), Operand.tmp 71], argTypes := #[25, 3, 34, 5, 4, 4] }, type := 42, pos := "law.go:113", after := #[{ on := 1, ground := Ground.data }, { on := 3, ground := Ground.data }, { on := 4, ground := Ground.data }, { on := 8, ground := Ground.data }, { on := 11, ground := Ground.data }], guard := none }) rfl (fun K hK => ?_) AllReadyH.nil
                go_simp
                with_reducible refine (CR.out Wz9 hbz9).mono ?_
                rintro e wz10 ⟨Ay, cy, By, dy, rfl, hxz10, hsz10, hcz10⟩
                have hbz10 : Below V10.heap.size V10 wz10 := bCall hbz9 hcz10
                have hzz10_16 := SR.call hzz9_16 hcz10 (hzz9_16).lt
                have hzz10_17 := SR.call hzz9 hcz10 (hzz9).lt
                go_wp2_with fail
                refine hK.out _ _ (sDkT FD11.out FT11.out FU11.out hbz10) (fun hHeld2 => ?_)
                clear hK K hHeld
                have hHeld := hHeld2
                clear hHeld2
                try simp only [Act.put, List.setIfInBounds_toArray, List.set_cons_zero, List.set_cons_succ]
                refine wpAnyH_take (i := 13) (oi := { dst := some 59, op := Op.move (Operand.tmp 72), type := 42, pos := "law.go:113", after := #[{ on := 12, ground := Ground.data }], guard := none }) (v := .tuple #[.agg #[.slice Ay n1 cy, .int .i64 (t1 : Int), .bool ov1, .bool li1, .bool false], .agg #[.slice By 1 dy, .int .i64 (sg2 : Int), .bool bell]]) rfl (by kernel_rfl) (by kernel_rfl) (by kernel_rfl) (fun _ _ _ h => h) (Or.inl ⟨by rfl, fun W hW => ?_⟩) hHeld ?_
                · obtain ⟨q0, q1, q2, q3, q4, q5, q6, q7, q8, q9⟩ := hW
                  go_simp
                simp only [Act.put, List.setIfInBounds_toArray, List.set_cons_zero, List.set_cons_succ]
                refine wpAnyH_take (i := 14) (oi := { dst := some 73, op := Op.extract (Operand.tmp 59) 0, type := 34, pos := "law.go:113", after := #[{ on := 13, ground := Ground.data }], guard := none }) (v := .agg #[.slice Ay n1 cy, .int .i64 (t1 : Int), .bool ov1, .bool li1, .bool false]) rfl (by kernel_rfl) (by kernel_rfl) (by kernel_rfl) (fun _ _ _ h => h) (Or.inl ⟨by rfl, fun W hW => ?_⟩) hHeld ?_
                · obtain ⟨q0, q1, q2, q3, q4, q5, q6, q7, q8, q9⟩ := hW
                  go_simp
                simp only [Act.put, List.setIfInBounds_toArray, List.set_cons_zero, List.set_cons_succ]
                refine wpAnyH_take (i := 15) (oi := { dst := some 74, op := Op.extract (Operand.tmp 59) 1, type := 41, pos := "law.go:113", after := #[{ on := 13, ground := Ground.data }, { on := 18, ground := Ground.gcOnly Departure.lateStores }], guard := none }) (v := .agg #[.slice By 1 dy, .int .i64 (sg2 : Int), .bool bell]) rfl (by kernel_rfl) (by kernel_rfl) (by kernel_rfl) (fun _ _ _ h => h) (Or.inl ⟨by rfl, fun W hW => ?_⟩) hHeld ?_
                · obtain ⟨q0, q1, q2, q3, q4, q5, q6, q7, q8, q9⟩ := hW
                  go_simp
                simp only [Act.put, List.setIfInBounds_toArray, List.set_cons_zero, List.set_cons_succ]
                have hne9 : V10.heap.size ≠ Wz6.heap.size := by first | assumption | (apply Ne.symm; assumption)
                have hne8 : ¬ V10.heap.size = Wz6.heap.size := hne9
                have hne7 : ¬ Wz6.heap.size = V10.heap.size := fun e => hne9 e.symm
                obtain ⟨j0, j1, j2, j3, j4, r0, r1, r2, r3, r4, jt⟩ := tk_facts hzz10_16
                have HM := keepd (midy (V := V10) hzz10_16 hzz10_17 hne9 hbz10 hvz6 hvz9 hxz10 hsz10 (l := l1) (n := n1) (A := Ay) (c := cy) (z := (t1 : Int)) (ov := ov1) (li := li1) (h := false) (ks := [u]) (B := By) (m := 1) (d := dy) (sg := (sg2 : Int)) (bell := bell))
                have hb5S : Below V10.heap.size V10 (set5 wz10 V10.heap.size (.slice Ay n1 cy) (.int .i64 (t1 : Int)) (.bool ov1) (.bool li1) (.bool false)) := set5_below hbz10 hvz6
                have hyS : SR 41 (set5 wz10 V10.heap.size (.slice Ay n1 cy) (.int .i64 (t1 : Int)) (.bool ov1) (.bool li1) (.bool false)) (Wz6.heap.size) [.slice none 0 0, .int .i64 0, .bool false] := set5_far hzz10_17 hne7
                refine wpAnyH_ready (rs := [18]) (by kernel_rfl) (by simp) ?_
                refine AllReadyH.cons (o := { dst := none, op := Op.store 34 (Operand.tmp 14) (Operand.tmp 73), type := 0, pos := "law.go:113", after := #[{ on := 16, ground := Ground.data }, { on := 14, ground := Ground.data }, { on := 12, ground := Ground.chain }, { on := 0, ground := Ground.phase }, { on := 1, ground := Ground.phase }, { on := 2, ground := Ground.phase }, { on := 3, ground := Ground.phase }, { on := 4, ground := Ground.phase }, { on := 5, ground := Ground.phase }, { on := 6, ground := Ground.phase }, { on := 7, ground := Ground.phase }, { on := 8, ground := Ground.phase }, { on := 9, ground := Ground.phase }, { on := 10, ground := Ground.phase }, { on := 11, ground := Ground.phase }, { on := 12, ground := Ground.phase }, { on := 13, ground := Ground.phase }, { on := 14, ground := Ground.phase }, { on := 15, ground := Ground.textOnly Departure.lateStores }, { on := 16, ground := Ground.phase }, { on := 17, ground := Ground.phase }], guard := none }) rfl (fun K hK => ?_) AllReadyH.nil
                go_simp
                refine hK.out _ (set5 wz10 V10.heap.size (.slice Ay n1 cy) (.int .i64 (t1 : Int)) (.bool ov1) (.bool li1) (.bool false)) (sDkT FD11.out FT11.out FU11.out hb5S) (fun hHeld2 => ?_)
                clear hK K hHeld
                have hHeld := hHeld2
                clear hHeld2
                try simp only [Act.put, List.setIfInBounds_toArray, List.set_cons_zero, List.set_cons_succ]
                clear j0 j1 j2 j3 j4 r0 r1 r2 r3 r4 jt
                obtain ⟨j0, j1, j2, r0, r1, r2, jt⟩ := ty_facts hyS
                refine wpAnyH_ready (rs := [19]) (by kernel_rfl) (by simp) ?_
                refine AllReadyH.cons (o := { dst := none, op := Op.store 41 (Operand.tmp 15) (Operand.tmp 74), type := 0, pos := "law.go:113", after := #[{ on := 17, ground := Ground.data }, { on := 15, ground := Ground.data }, { on := 18, ground := Ground.chain }, { on := 0, ground := Ground.phase }, { on := 1, ground := Ground.phase }, { on := 2, ground := Ground.phase }, { on := 3, ground := Ground.phase }, { on := 4, ground := Ground.phase }, { on := 5, ground := Ground.phase }, { on := 6, ground := Ground.phase }, { on := 7, ground := Ground.phase }, { on := 8, ground := Ground.phase }, { on := 9, ground := Ground.phase }, { on := 10, ground := Ground.phase }, { on := 11, ground := Ground.phase }, { on := 12, ground := Ground.phase }, { on := 13, ground := Ground.phase }, { on := 14, ground := Ground.phase }, { on := 15, ground := Ground.phase }, { on := 16, ground := Ground.phase }, { on := 17, ground := Ground.phase }, { on := 18, ground := Ground.phase }], guard := none }) rfl (fun K hK => ?_) AllReadyH.nil
                go_simp
                refine hK.out _ (set3 (set5 wz10 V10.heap.size (.slice Ay n1 cy) (.int .i64 (t1 : Int)) (.bool ov1) (.bool li1) (.bool false)) Wz6.heap.size (.slice By 1 dy) (.int .i64 (sg2 : Int)) (.bool bell)) (sDkT FD11.out FT11.out FU11.out HM.out.2.2.2.2.1) (fun hHeld2 => ?_)
                clear hK K hHeld
                have hHeld := hHeld2
                clear hHeld2
                try simp only [Act.put, List.setIfInBounds_toArray, List.set_cons_zero, List.set_cons_succ]
                refine wpAnyH_done (by kernel_rfl) ?_ _
                go_wp2_with fail
                go_meet
                exact ⟨_, _, _, _, _, _, rfl, rfl, HM⟩
            · go_simp
              have hbz11 : Below V10.heap.size V10 ((V10.alloc (.cells #[.slice none 0 0, .int .i64 0, .bool false] 41)).drew) := bAlloc (Below.refl V10.heap.size V10).drew (.cells #[.slice none 0 0, .int .i64 0, .bool false] 41)
              have hzz11 : SR 41 ((V10.alloc (.cells #[.slice none 0 0, .int .i64 0, .bool false] 41)).drew) (V10.heap.size) [.slice none 0 0, .int .i64 0, .bool false] := SR.new 41 (V10) [.slice none 0 0, .int .i64 0, .bool false]
              have hvz11 : V10.heap.size ≤ V10.heap.size := by have h0 := Below.size (Below.refl V10.heap.size V10).drew; exact h0
              refine hK.out _ _ (sDkT FD11.out FT11.out FU11.out hbz11) (fun hHeld2 => ?_)
              clear hK K hHeld
              have hHeld := hHeld2
              clear hHeld2
              try simp only [Act.put, List.setIfInBounds_toArray, List.set_cons_zero, List.set_cons_succ]
              generalize hWz11 : (V10.alloc (.cells #[.slice none 0 0, .int .i64 0, .bool false] 41)).drew = Wz11 at *
              clear hWz11
              refine wpAnyH_ready (rs := [12, 16]) (by kernel_rfl) (by simp) ?_
              refine AllReadyH.cons (o := { dst := some 72, op := Op.call { callee := Callee.value (Operand.func 11), args := #[Operand.tmp 61, Operand.tmp 63, Operand.tmp 64, Operand.tmp 68, Operand.const (Value.bool false), Operand.tmp 71], argTypes := #[25, 3, 34, 5, 4, 4] }, type := 42, pos := "law.go:113", after := #[{ on := 1, ground := Ground.data }, { on := 3, ground := Ground.data }, { on := 4, ground := Ground.data }, { on := 8, ground := Ground.data }, { on := 11, ground := Ground.data }], guard := none }) rfl (fun K hK => ?_) (AllReadyH.cons (o := { dst := some 14, op := Op.alloc 34, type := 0, pos := "law.go:113", after := #[], guard := none }) rfl (fun K hK => ?_) AllReadyH.nil)
              · go_simp
                with_reducible refine (CR.out Wz11 hbz11).mono ?_
                rintro e wz12 ⟨Ay, cy, By, dy, rfl, hxz12, hsz12, hcz12⟩
                have hbz12 : Below V10.heap.size V10 wz12 := bCall hbz11 hcz12
                have hzz12_17 := SR.call hzz11 hcz12 (hzz11).lt
                go_wp2_with fail
                refine hK.out _ _ (sDkT FD11.out FT11.out FU11.out hbz12) (fun hHeld2 => ?_)
                clear hK K hHeld
                have hHeld := hHeld2
                clear hHeld2
                try simp only [Act.put, List.setIfInBounds_toArray, List.set_cons_zero, List.set_cons_succ]
                refine wpAnyH_take (i := 13) (oi := { dst := some 59, op := Op.move (Operand.tmp 72), type := 42, pos := "law.go:113", after := #[{ on := 12, ground := Ground.data }], guard := none }) (v := .tuple #[.agg #[.slice Ay n1 cy, .int .i64 (t1 : Int), .bool ov1, .bool li1, .bool false], .agg #[.slice By 1 dy, .int .i64 (sg2 : Int), .bool bell]]) rfl (by kernel_rfl) (by kernel_rfl) (by kernel_rfl) (fun _ _ _ h => h) (Or.inl ⟨by rfl, fun W hW => ?_⟩) hHeld ?_
                · obtain ⟨q0, q1, q2, q3, q4, q5, q6, q7, q8, q9⟩ := hW
                  go_simp
                simp only [Act.put, List.setIfInBounds_toArray, List.set_cons_zero, List.set_cons_succ]
                refine wpAnyH_take (i := 14) (oi := { dst := some 73, op := Op.extract (Operand.tmp 59) 0, type := 34, pos := "law.go:113", after := #[{ on := 13, ground := Ground.data }], guard := none }) (v := .agg #[.slice Ay n1 cy, .int .i64 (t1 : Int), .bool ov1, .bool li1, .bool false]) rfl (by kernel_rfl) (by kernel_rfl) (by kernel_rfl) (fun _ _ _ h => h) (Or.inl ⟨by rfl, fun W hW => ?_⟩) hHeld ?_
                · obtain ⟨q0, q1, q2, q3, q4, q5, q6, q7, q8, q9⟩ := hW
                  go_simp
                simp only [Act.put, List.setIfInBounds_toArray, List.set_cons_zero, List.set_cons_succ]
                refine wpAnyH_take (i := 15) (oi := { dst := some 74, op := Op.extract (Operand.tmp 59) 1, type := 41, pos := "law.go:113", after := #[{ on := 13, ground := Ground.data }, { on := 18, ground := Ground.gcOnly Departure.lateStores }], guard := none }) (v := .agg #[.slice By 1 dy, .int .i64 (sg2 : Int), .bool bell]) rfl (by kernel_rfl) (by kernel_rfl) (by kernel_rfl) (fun _ _ _ h => h) (Or.inl ⟨by rfl, fun W hW => ?_⟩) hHeld ?_
                · obtain ⟨q0, q1, q2, q3, q4, q5, q6, q7, q8, q9⟩ := hW
                  go_simp
                simp only [Act.put, List.setIfInBounds_toArray, List.set_cons_zero, List.set_cons_succ]
                refine wpAnyH_ready (rs := [16]) (by kernel_rfl) (by simp) ?_
                refine AllReadyH.cons (o := { dst := some 14, op := Op.alloc 34, type := 0, pos := "law.go:113", after := #[], guard := none }) rfl (fun K hK => ?_) AllReadyH.nil
                go_simp
                have hbz13 : Below V10.heap.size V10 (wz12.alloc (.cells #[.slice none 0 0, .int .i64 0, .bool false, .bool false, .bool false] 34)) := bAlloc hbz12 (.cells #[.slice none 0 0, .int .i64 0, .bool false, .bool false, .bool false] 34)
                have hzz13 : SR 34 (wz12.alloc (.cells #[.slice none 0 0, .int .i64 0, .bool false, .bool false, .bool false] 34)) (wz12.heap.size) [.slice none 0 0, .int .i64 0, .bool false, .bool false, .bool false] := SR.new 34 (wz12) [.slice none 0 0, .int .i64 0, .bool false, .bool false, .bool false]
                have hvz13 : V10.heap.size ≤ wz12.heap.size := by have h0 := Below.size hbz12; exact h0
                have hzz13_17 := SR.alloc hzz12_17 (.cells #[.slice none 0 0, .int .i64 0, .bool false, .bool false, .bool false] 34)
                have hnz13_17 : V10.heap.size ≠ wz12.heap.size := by have h0 := SR.lt hzz12_17; exact Nat.ne_of_lt h0
                have hxz13 := (hxz12).at_ (bAlloc (Below.refl _ _) (.cells #[.slice none 0 0, .int .i64 0, .bool false, .bool false, .bool false] 34))
                have hsz13 := (hsz12).at_ (bAlloc (Below.refl _ _) (.cells #[.slice none 0 0, .int .i64 0, .bool false, .bool false, .bool false] 34))
                refine hK.out _ _ (sDkT FD11.out FT11.out FU11.out hbz13) (fun hHeld2 => ?_)
                clear hK K hHeld
                have hHeld := hHeld2
                clear hHeld2
                try simp only [Act.put, List.setIfInBounds_toArray, List.set_cons_zero, List.set_cons_succ]
                generalize hWz13 : wz12.alloc (.cells #[.slice none 0 0, .int .i64 0, .bool false, .bool false, .bool false] 34) = Wz13 at *
                clear hWz13
                have hne9 : wz12.heap.size ≠ V10.heap.size := by first | assumption | (apply Ne.symm; assumption)
                have hne8 : ¬ wz12.heap.size = V10.heap.size := hne9
                have hne7 : ¬ V10.heap.size = wz12.heap.size := fun e => hne9 e.symm
                obtain ⟨j0, j1, j2, j3, j4, r0, r1, r2, r3, r4, jt⟩ := tk_facts hzz13
                have HM := keepd (midy (V := V10) hzz13 hzz13_17 hne9 hbz13 hvz13 hvz11 hxz13 hsz13 (l := l1) (n := n1) (A := Ay) (c := cy) (z := (t1 : Int)) (ov := ov1) (li := li1) (h := false) (ks := [u]) (B := By) (m := 1) (d := dy) (sg := (sg2 : Int)) (bell := bell))
                have hb5S : Below V10.heap.size V10 (set5 Wz13 wz12.heap.size (.slice Ay n1 cy) (.int .i64 (t1 : Int)) (.bool ov1) (.bool li1) (.bool false)) := set5_below hbz13 hvz13
                have hyS : SR 41 (set5 Wz13 wz12.heap.size (.slice Ay n1 cy) (.int .i64 (t1 : Int)) (.bool ov1) (.bool li1) (.bool false)) (V10.heap.size) [.slice none 0 0, .int .i64 0, .bool false] := set5_far hzz13_17 hne7
                refine wpAnyH_ready (rs := [18]) (by kernel_rfl) (by simp) ?_
                refine AllReadyH.cons (o := { dst := none, op := Op.store 34 (Operand.tmp 14) (Operand.tmp 73), type := 0, pos := "law.go:113", after := #[{ on := 16, ground := Ground.data }, { on := 14, ground := Ground.data }, { on := 12, ground := Ground.chain }, { on := 0, ground := Ground.phase }, { on := 1, ground := Ground.phase }, { on := 2, ground := Ground.phase }, { on := 3, ground := Ground.phase }, { on := 4, ground := Ground.phase }, { on := 5, ground := Ground.phase }, { on := 6, ground := Ground.phase }, { on := 7, ground := Ground.phase }, { on := 8, ground := Ground.phase }, { on := 9, ground := Ground.phase }, { on := 10, ground := Ground.phase }, { on := 11, ground := Ground.phase }, { on := 12, ground := Ground.phase }, { on := 13, ground := Ground.phase }, { on := 14, ground := Ground.phase }, { on := 15, ground := Ground.textOnly Departure.lateStores }, { on := 16, ground := Ground.phase }, { on := 17, ground := Ground.phase }], guard := none }) rfl (fun K hK => ?_) AllReadyH.nil
                go_simp
                refine hK.out _ (set5 Wz13 wz12.heap.size (.slice Ay n1 cy) (.int .i64 (t1 : Int)) (.bool ov1) (.bool li1) (.bool false)) (sDkT FD11.out FT11.out FU11.out hb5S) (fun hHeld2 => ?_)
                clear hK K hHeld
                have hHeld := hHeld2
                clear hHeld2
                try simp only [Act.put, List.setIfInBounds_toArray, List.set_cons_zero, List.set_cons_succ]
                clear j0 j1 j2 j3 j4 r0 r1 r2 r3 r4 jt
                obtain ⟨j0, j1, j2, r0, r1, r2, jt⟩ := ty_facts hyS
                refine wpAnyH_ready (rs := [19]) (by kernel_rfl) (by simp) ?_
                refine AllReadyH.cons (o := { dst := none, op := Op.store 41 (Operand.tmp 15) (Operand.tmp 74), type := 0, pos := "law.go:113", after := #[{ on := 17, ground := Ground.data }, { on := 15, ground := Ground.data }, { on := 18, ground := Ground.chain }, { on := 0, ground := Ground.phase }, { on := 1, ground := Ground.phase }, { on := 2, ground := Ground.phase }, { on := 3, ground := Ground.phase }, { on := 4, ground := Ground.phase }, { on := 5, ground := Ground.phase }, { on := 6, ground := Ground.phase }, { on := 7, ground := Ground.phase }, { on := 8, ground := Ground.phase }, { on := 9, ground := Ground.phase }, { on := 10, ground := Ground.phase }, { on := 11, ground := Ground.phase }, { on := 12, ground := Ground.phase }, { on := 13, ground := Ground.phase }, { on := 14, ground := Ground.phase }, { on := 15, ground := Ground.phase }, { on := 16, ground := Ground.phase }, { on := 17, ground := Ground.phase }, { on := 18, ground := Ground.phase }], guard := none }) rfl (fun K hK => ?_) AllReadyH.nil
                go_simp
                refine hK.out _ (set3 (set5 Wz13 wz12.heap.size (.slice Ay n1 cy) (.int .i64 (t1 : Int)) (.bool ov1) (.bool li1) (.bool false)) V10.heap.size (.slice By 1 dy) (.int .i64 (sg2 : Int)) (.bool bell)) (sDkT FD11.out FT11.out FU11.out HM.out.2.2.2.2.1) (fun hHeld2 => ?_)
                clear hK K hHeld
                have hHeld := hHeld2
                clear hHeld2
                try simp only [Act.put, List.setIfInBounds_toArray, List.set_cons_zero, List.set_cons_succ]
                refine wpAnyH_done (by kernel_rfl) ?_ _
                go_wp2_with fail
                go_meet
                exact ⟨_, _, _, _, _, _, rfl, rfl, HM⟩
              · go_simp
                have hbz14 : Below V10.heap.size V10 (Wz11.alloc (.cells #[.slice none 0 0, .int .i64 0, .bool false, .bool false, .bool false] 34)) := bAlloc hbz11 (.cells #[.slice none 0 0, .int .i64 0, .bool false, .bool false, .bool false] 34)
                have hzz14 : SR 34 (Wz11.alloc (.cells #[.slice none 0 0, .int .i64 0, .bool false, .bool false, .bool false] 34)) (Wz11.heap.size) [.slice none 0 0, .int .i64 0, .bool false, .bool false, .bool false] := SR.new 34 (Wz11) [.slice none 0 0, .int .i64 0, .bool false, .bool false, .bool false]
                have hvz14 : V10.heap.size ≤ Wz11.heap.size := by have h0 := Below.size hbz11; exact h0
                have hzz14_17 := SR.alloc hzz11 (.cells #[.slice none 0 0, .int .i64 0, .bool false, .bool false, .bool false] 34)
                have hnz14_17 : V10.heap.size ≠ Wz11.heap.size := by have h0 := SR.lt hzz11; exact Nat.ne_of_lt h0
                refine hK.out _ _ (sDkT FD11.out FT11.out FU11.out hbz14) (fun hHeld2 => ?_)
                clear hK K hHeld
                have hHeld := hHeld2
                clear hHeld2
                try simp only [Act.put, List.setIfInBounds_toArray, List.set_cons_zero, List.set_cons_succ]
                generalize hWz14 : Wz11.alloc (.cells #[.slice none 0 0, .int .i64 0, .bool false, .bool false, .bool false] 34) = Wz14 at *
                clear hWz14
                refine wpAnyH_ready (rs := [12]) (by kernel_rfl) (by simp) ?_
                refine AllReadyH.cons (o := { dst := some 72, op := Op.call { callee := Callee.value (Operand.func 11), args := #[Operand.tmp 61, Operand.tmp 63, Operand.tmp 64, Operand.tmp 68, Operand.const (Value.bool false), Operand.tmp 71], argTypes := #[25, 3, 34, 5, 4, 4] }, type := 42, pos := "law.go:113", after := #[{ on := 1, ground := Ground.data }, { on := 3, ground := Ground.data }, { on := 4, ground := Ground.data }, { on := 8, ground := Ground.data }, { on := 11, ground := Ground.data }], guard := none }) rfl (fun K hK => ?_) AllReadyH.nil
                go_simp
                with_reducible refine (CR.out Wz14 hbz14).mono ?_
                rintro e wz15 ⟨Ay, cy, By, dy, rfl, hxz15, hsz15, hcz15⟩
                have hbz15 : Below V10.heap.size V10 wz15 := bCall hbz14 hcz15
                have hzz15_17 := SR.call hzz14_17 hcz15 (hzz14_17).lt
                have hzz15_16 := SR.call hzz14 hcz15 (hzz14).lt
                go_wp2_with fail
                refine hK.out _ _ (sDkT FD11.out FT11.out FU11.out hbz15) (fun hHeld2 => ?_)
                clear hK K hHeld
                have hHeld := hHeld2
                clear hHeld2
                try simp only [Act.put, List.setIfInBounds_toArray, List.set_cons_zero, List.set_cons_succ]
                refine wpAnyH_take (i := 13) (oi := { dst := some 59, op := Op.move (Operand.tmp 72), type := 42, pos := "law.go:113", after := #[{ on := 12, ground := Ground.data }], guard := none }) (v := .tuple #[.agg #[.slice Ay n1 cy, .int .i64 (t1 : Int), .bool ov1, .bool li1, .bool false], .agg #[.slice By 1 dy, .int .i64 (sg2 : Int), .bool bell]]) rfl (by kernel_rfl) (by kernel_rfl) (by kernel_rfl) (fun _ _ _ h => h) (Or.inl ⟨by rfl, fun W hW => ?_⟩) hHeld ?_
                · obtain ⟨q0, q1, q2, q3, q4, q5, q6, q7, q8, q9⟩ := hW
                  go_simp
                simp only [Act.put, List.setIfInBounds_toArray, List.set_cons_zero, List.set_cons_succ]
                refine wpAnyH_take (i := 14) (oi := { dst := some 73, op := Op.extract (Operand.tmp 59) 0, type := 34, pos := "law.go:113", after := #[{ on := 13, ground := Ground.data }], guard := none }) (v := .agg #[.slice Ay n1 cy, .int .i64 (t1 : Int), .bool ov1, .bool li1, .bool false]) rfl (by kernel_rfl) (by kernel_rfl) (by kernel_rfl) (fun _ _ _ h => h) (Or.inl ⟨by rfl, fun W hW => ?_⟩) hHeld ?_
                · obtain ⟨q0, q1, q2, q3, q4, q5, q6, q7, q8, q9⟩ := hW
                  go_simp
                simp only [Act.put, List.setIfInBounds_toArray, List.set_cons_zero, List.set_cons_succ]
                refine wpAnyH_take (i := 15) (oi := { dst := some 74, op := Op.extract (Operand.tmp 59) 1, type := 41, pos := "law.go:113", after := #[{ on := 13, ground := Ground.data }, { on := 18, ground := Ground.gcOnly Departure.lateStores }], guard := none }) (v := .agg #[.slice By 1 dy, .int .i64 (sg2 : Int), .bool bell]) rfl (by kernel_rfl) (by kernel_rfl) (by kernel_rfl) (fun _ _ _ h => h) (Or.inl ⟨by rfl, fun W hW => ?_⟩) hHeld ?_
                · obtain ⟨q0, q1, q2, q3, q4, q5, q6, q7, q8, q9⟩ := hW
                  go_simp
                simp only [Act.put, List.setIfInBounds_toArray, List.set_cons_zero, List.set_cons_succ]
                have hne9 : Wz11.heap.size ≠ V10.heap.size := by first | assumption | (apply Ne.symm; assumption)
                have hne8 : ¬ Wz11.heap.size = V10.heap.size := hne9
                have hne7 : ¬ V10.heap.size = Wz11.heap.size := fun e => hne9 e.symm
                obtain ⟨j0, j1, j2, j3, j4, r0, r1, r2, r3, r4, jt⟩ := tk_facts hzz15_16
                have HM := keepd (midy (V := V10) hzz15_16 hzz15_17 hne9 hbz15 hvz14 hvz11 hxz15 hsz15 (l := l1) (n := n1) (A := Ay) (c := cy) (z := (t1 : Int)) (ov := ov1) (li := li1) (h := false) (ks := [u]) (B := By) (m := 1) (d := dy) (sg := (sg2 : Int)) (bell := bell))
                have hb5S : Below V10.heap.size V10 (set5 wz15 Wz11.heap.size (.slice Ay n1 cy) (.int .i64 (t1 : Int)) (.bool ov1) (.bool li1) (.bool false)) := set5_below hbz15 hvz14
                have hyS : SR 41 (set5 wz15 Wz11.heap.size (.slice Ay n1 cy) (.int .i64 (t1 : Int)) (.bool ov1) (.bool li1) (.bool false)) (V10.heap.size) [.slice none 0 0, .int .i64 0, .bool false] := set5_far hzz15_17 hne7
                refine wpAnyH_ready (rs := [18]) (by kernel_rfl) (by simp) ?_
                refine AllReadyH.cons (o := { dst := none, op := Op.store 34 (Operand.tmp 14) (Operand.tmp 73), type := 0, pos := "law.go:113", after := #[{ on := 16, ground := Ground.data }, { on := 14, ground := Ground.data }, { on := 12, ground := Ground.chain }, { on := 0, ground := Ground.phase }, { on := 1, ground := Ground.phase }, { on := 2, ground := Ground.phase }, { on := 3, ground := Ground.phase }, { on := 4, ground := Ground.phase }, { on := 5, ground := Ground.phase }, { on := 6, ground := Ground.phase }, { on := 7, ground := Ground.phase }, { on := 8, ground := Ground.phase }, { on := 9, ground := Ground.phase }, { on := 10, ground := Ground.phase }, { on := 11, ground := Ground.phase }, { on := 12, ground := Ground.phase }, { on := 13, ground := Ground.phase }, { on := 14, ground := Ground.phase }, { on := 15, ground := Ground.textOnly Departure.lateStores }, { on := 16, ground := Ground.phase }, { on := 17, ground := Ground.phase }], guard := none }) rfl (fun K hK => ?_) AllReadyH.nil
                go_simp
                refine hK.out _ (set5 wz15 Wz11.heap.size (.slice Ay n1 cy) (.int .i64 (t1 : Int)) (.bool ov1) (.bool li1) (.bool false)) (sDkT FD11.out FT11.out FU11.out hb5S) (fun hHeld2 => ?_)
                clear hK K hHeld
                have hHeld := hHeld2
                clear hHeld2
                try simp only [Act.put, List.setIfInBounds_toArray, List.set_cons_zero, List.set_cons_succ]
                clear j0 j1 j2 j3 j4 r0 r1 r2 r3 r4 jt
                obtain ⟨j0, j1, j2, r0, r1, r2, jt⟩ := ty_facts hyS
                refine wpAnyH_ready (rs := [19]) (by kernel_rfl) (by simp) ?_
                refine AllReadyH.cons (o := { dst := none, op := Op.store 41 (Operand.tmp 15) (Operand.tmp 74), type := 0, pos := "law.go:113", after := #[{ on := 17, ground := Ground.data }, { on := 15, ground := Ground.data }, { on := 18, ground := Ground.chain }, { on := 0, ground := Ground.phase }, { on := 1, ground := Ground.phase }, { on := 2, ground := Ground.phase }, { on := 3, ground := Ground.phase }, { on := 4, ground := Ground.phase }, { on := 5, ground := Ground.phase }, { on := 6, ground := Ground.phase }, { on := 7, ground := Ground.phase }, { on := 8, ground := Ground.phase }, { on := 9, ground := Ground.phase }, { on := 10, ground := Ground.phase }, { on := 11, ground := Ground.phase }, { on := 12, ground := Ground.phase }, { on := 13, ground := Ground.phase }, { on := 14, ground := Ground.phase }, { on := 15, ground := Ground.phase }, { on := 16, ground := Ground.phase }, { on := 17, ground := Ground.phase }, { on := 18, ground := Ground.phase }], guard := none }) rfl (fun K hK => ?_) AllReadyH.nil
                go_simp
                refine hK.out _ (set3 (set5 wz15 Wz11.heap.size (.slice Ay n1 cy) (.int .i64 (t1 : Int)) (.bool ov1) (.bool li1) (.bool false)) V10.heap.size (.slice By 1 dy) (.int .i64 (sg2 : Int)) (.bool bell)) (sDkT FD11.out FT11.out FU11.out HM.out.2.2.2.2.1) (fun hHeld2 => ?_)
                clear hK K hHeld
                have hHeld := hHeld2
                clear hHeld2
                try simp only [Act.put, List.setIfInBounds_toArray, List.set_cons_zero, List.set_cons_succ]
                refine wpAnyH_done (by kernel_rfl) ?_ _
                go_wp2_with fail
                go_meet
                exact ⟨_, _, _, _, _, _, rfl, rfl, HM⟩
          case rest =>
            obtain ⟨b2, y3, Ar, cr, Br, dr, rfl, rfl, HM11⟩ := hcut
            obtain ⟨V11, hV11⟩ : ∃ V11, V11 = wc := ⟨_, rfl⟩
            subst hV11
            obtain ⟨m1, m2, m3, m4, m5, m6, m7⟩ := HM11.out
            have HK511 := keepd (SR.call HK510.out m5 HK510.out.lt)
            have HK611 := keepd (SR.call HK610.out m5 HK610.out.lt)
            have HM211 := keepd (SR.call HM210.out m5 HM210.out.lt)
            have HR511 := keepd (HR510.out.at_ m5)
            have HS11 := keepd (HS10.out.at_ m5)
            have HBV11 := keepd (bCall HBV10.out m5)
            have hne3 : y3 ≠ V0.heap.size + 1 := by have h0 := HK610.out.lt; omega
            have HM1 := keepd m1
            have HM2 := keepd m2
            have HM3 := keepd m3
            have HM4 := keepd m4
            clear m1 m2 m3 m4 m5 m6 m7 HM11 CR CRx FD11 FT11 FU11 HK510 HK610 HM210 HR510 HR610 HS10 HBV10
            obtain ⟨k0, k1, k2, k3, k4, _, _, _, _, _, kt⟩ := tk_facts HM1.out
            obtain ⟨j0, j1, j2, j3, j4, r0, r1, r2, r3, r4, jt⟩ := tk_facts HK611.out
            go_upto_region 13 with fail
            generalize hV : ((((V11.setCell ⟨V0.heap.size + 1, 0, none⟩ (.slice Ar n1 cr)).setCell ⟨V0.heap.size + 1, 1, none⟩ (.int .i64 (t1 : Int))).setCell ⟨V0.heap.size + 1, 2, none⟩ (.bool ov1)).setCell ⟨V0.heap.size + 1, 3, none⟩ (.bool li1)).setCell ⟨V0.heap.size + 1, 4, none⟩ (.bool false) = V12
            have hv : V12 = set5 V11 (V0.heap.size + 1) (.slice Ar n1 cr) (.int .i64 (t1 : Int)) (.bool ov1) (.bool li1) (.bool false) := hV.symm
            have E := set5_end HK611.out HBV11.out (Nat.le_succ _) (.slice Ar n1 cr) (.int .i64 (t1 : Int)) (.bool ov1) (.bool li1) (.bool false)
            rw [← hv] at E
            have HK612 : Hid (SR 34 V12 (V0.heap.size + 1) [.slice Ar n1 cr, .int .i64 (t1 : Int), .bool ov1, .bool li1, .bool false]) := by rw [hv]; exact set5_sr HK611.out
            have HK512 : Hid (SR 34 V12 V0.heap.size [.slice Ay n1 cy, .int .i64 (t1 : Int), .bool ov1, .bool li1, .bool h1]) := by rw [hv]; exact set5_far HK511.out (by omega)
            have HM212 : Hid (SR 41 V12 y [.slice By mk dy, .int .i64 (sg : Int), .bool bell]) := by rw [hv]; exact set5_far HM211.out (fun e => HY2.out e.symm)
            have HM312 : Hid (SR 41 V12 y3 [.slice Br 1 dr, .int .i64 (sg2 : Int), .bool bell]) := by rw [hv]; exact set5_far HM2.out hne3
            have HR512 := keepd (E.1 _ _ _ HR511.out)
            have HR612 := keepd (E.1 _ _ _ HM3.out)
            have hx1 := E.1 _ _ _ HM4.out
            have hx2 := E.1 _ _ _ HS11.out
            have HBV12 := keepd E.2
            obtain ⟨sB, hsB⟩ : ∃ sB : ByteArray, (⟨[u].toArray⟩ : ByteArray) = sB := ⟨_, rfl⟩
            have d1 : ∀ k, (convert 28 9 (.slice Br 1 dr)).run Tryd.prog (V12.drewN k) = .ok (.string sB) (V12.drewN k) := fun k => by rw [← hsB]; exact conv_str (l := [u]) (hx1.drewN k)
            have d2 : ∀ k, (convert 28 9 (.slice As 1 ds)).run Tryd.prog (V12.drewN k) = .ok (.string sB) (V12.drewN k) := fun k => by rw [← hsB]; exact conv_str (l := [u]) (hx2.drewN k)
            have d3 : ∀ W, (Instr.sliceAt 28 (.slice (some ⟨bA, offA, none⟩) m c) (some (.int .i64 (i : Int))) (some (.int .i64 ((i : Int) + 1))) none).run Tryd.prog W = .ok (.slice As 1 ds) W := HSL.out
            clear hsB hx1 hx2 hV hv E k0 k1 k2 k3 k4 kt j0 j1 j2 j3 j4 r0 r1 r2 r3 r4 jt HK511 HK611 HM211 HR511 HS11 HBV11 HM1 HM2 HM3 HM4 HY2 hne3
            obtain ⟨j0, j1, j2, j3, j4, _, _, _, _, _, jt⟩ := tk_facts HK612.out
            obtain ⟨k0, k1, k2, k3, k4, _, _, _, _, _, kt⟩ := tk_facts HK512.out
            obtain ⟨e0, e1, e2, _, _, _, et⟩ := ty_facts HM212.out
            obtain ⟨f0, f1, f2, _, _, _, ft⟩ := ty_facts HM312.out
            have HREL : Hid (∀ nq, ∃ (i' : Nat) (q : Bool) (l : List UInt8) (n t : Nat) (ov li h : Bool) (A5 A6 : Option Addr) (c5 c6 : Nat), i' ≤ m ∧ Value.bool q1 = .bool q ∧ Value.int .i64 ((i : Int) + 1) = .int .i64 i' ∧ Hid (Ed.ok ⟨l, t, ov, li⟩ ∧ l.length = n ∧ (q = true → h = true ∨ (⟨l, t, ov, li⟩ : Ed) = zE)) ∧ Hid (QI V0 l n (t : Int) ov li h A5 A6 c5 c6 (V12.drewN nq))) := fun nq =>
              ⟨i + 1, q1, l1, n1, t1, ov1, li1, h1, Ay, Ar, cy, cr, by omega, rfl, rfl, ⟨HI1.out.1, HI1.out.2, fun h0 => .inl (HQU.out h0).1⟩, QI.drewN ⟨HK512.out, HK612.out, HR512.out, HR612.out, HBV12.out⟩ nq⟩
            have i2 : (i : Int) + 1 ≤ (m : Int) := by omega
            cases q1
            case false =>
              go_quiet (fail)
              go_wp2_with fail
              go_roundw
              case rel => exact HREL.out _
              case measure => simp [intOf]; omega
            case true =>
              obtain ⟨rfl, rfl⟩ := HQU.out rfl
              go_quiet (fail)
              go_wp2_with fail
              go_roundw
              case rel => exact HREL.out _
              case measure => simp [intOf]; omega

end Go.Proofs.YtlfmbfecajhffaaDoor
