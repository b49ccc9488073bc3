/-
  TalkLines walked. No conditions beyond those each theorem states.
-/
import Derived.Test.YtlfmbfecajhffaaDoorK9
import Derived.BigQuiet
namespace Go.Proofs.YtlfmbfecajhffaaDoor
open Go.RowKit
set_option maxRecDepth 100000

attribute [local go_sem ↓] ex_ld25 ex_st25 ex_al25 ex_bu25 ex_ix25 ex_eq25 ex_ne25 ex_eq23 ex_ne23 ex_ld25o ex_st65 ex_al65 ex_bu65 ex_bu65s ex_ld25d
attribute [local go_sem] ptrB_at okPtr_at aggC_at agg62 agg69 isC_at isT_at eqV_t eqV_c isRow_new isRow_new65 World.setRow_alloc_new ptr4_at okPtr4_at cutT_at isI_at isS_at bW_at bWs_at ptrD_at okPtrD_at cutD_at

/-- What the talk holds at a round's beginning. -/
def LI (V0 : World) (l : List UInt8) (n : Nat) (z : Int) (ov li h : Bool) (A5 : Option Addr) (c5 : Nat) (wr : World) : Prop :=
  SR 34 wr V0.heap.size [.slice A5 n c5, .int .i64 z, .bool ov, .bool li, .bool h] ∧ Rd wr wr.heap.size A5 l c5 ∧ Below V0.heap.size V0 wr
set_option maxHeartbeats 16000000 in
theorem lines_law (X : Tb) (hX : TbO X) (room : Int) (A : Option Addr) (us0 : List UInt8) (c : Nat) (w : World) (hL : Laid w) (hr : Rd w w.heap.size A us0 c) :
    Calls Tryd.prog 7 #[.agg (dk X room).toArray, .slice A us0.length c] w fun e w' => e = .returned (.bool true) ∧ Below w.heap.size w w' := by
  obtain ⟨n0, hn0⟩ : ∃ n0, n0 = us0.length := ⟨_, rfl⟩
  rw [← hn0]
  obtain ⟨m, hm⟩ : ∃ m, (fewK us0).length = m := ⟨_, rfl⟩
  have CKy := keepd fun W => keys_any A us0 n0 c m W hn0 (by rw [hn0]; exact hr.1) hm
  have HX := keepd hX
  have HLD := keepd hL
  have HRa : Rd w w.heap.size A (fewK us0) c := hr.take 200
  have hmc : m ≤ c := by rw [← hm]; exact HRa.1
  have hcm := HRa.2.1
  unfold maxLen at hcm
  have HR0 := keepd HRa
  have hm2 : m ≤ 200 := by rw [← hm]; exact fewK_le us0
  clear hX hL hr hn0 HRa
  generalize fewK us0 = us at *
  have HM0 := keepd hm
  clear hm
  go_enter Tryd.func7, Tryd.ntmps7
  go_upto_region 1 with fail
  generalize hV : w.alloc (.cells (dk X room).toArray 27) = V0
  obtain ⟨HD, HB0⟩ := desk_new _ _ _ hV
  obtain ⟨⟨p0, p1⟩, p2⟩ := DK.facts HD.out
  clear hV
  go_wp2_with fail
  with_reducible refine (CKy.out _).mono ?_
  rintro e w1 ⟨rfl, hw1⟩
  rw [hw1]
  clear CKy hw1
  go_upto_region 3 with fail
  generalize hV : V0.alloc (.cells #[.slice none 0 0, .int .i64 0, .bool false, .bool false, .bool false] 34) = V2
  obtain ⟨HK2, HBV2⟩ := tk_new _ _ _ _ _ _ _ hV
  have HLI : Hid (LI V0 [] 0 0 false false false none 0 V2) := ⟨HK2.out, Rd.nil _ _, HBV2.out⟩
  clear hV HK2 HBV2 p0 p1 p2
  go_wp2_with fail
  go_loopw [6] (fun v6 wr => ∃ (i : Nat) (l : List UInt8) (n t : Nat) (ov li h : Bool) (A5 : Option Addr) (c5 : Nat), i ≤ m ∧ v6 = .int .i64 i ∧ Hid (Ed.ok ⟨l, t, ov, li⟩ ∧ l.length = n) ∧ Hid (LI V0 l n (t : Int) ov li h A5 c5 wr)) (fun v6 _ => m - (intOf v6).toNat)
  case atStart => exact ⟨0, [], 0, 0, false, false, false, none, 0, by omega, rfl, ⟨zE_ok, rfl⟩, HLI⟩
  case round =>
    obtain ⟨i, l, n, t, ov, li, h, A5, c5, him, rfl, HI, HQ⟩ := hrel
    obtain ⟨V, hV⟩ : ∃ V, V = wr := ⟨_, rfl⟩
    subst hV
    obtain ⟨g1, g3, g5⟩ := HQ.out
    have HK5 := keepd g1
    have HR5 := keepd g3
    have HBV := keepd g5
    clear g1 g3 g5 HQ HLI
    by_cases hlt : i < m
    case neg =>
      obtain rfl : i = m := by omega
      have HB3 := keepd (bCall HB0.out HBV.out)
      have CW := keepd (awake_any V (HLD.out.below HB3.out))
      go_wp2_with fail
      with_reducible refine CW.out.mono ?_
      rintro e w4 ⟨rfl, hb4⟩
      have HB4 := keepd (bCall HB3.out hb4)
      clear hb4 CW
      go_wp2_with fail
      go_ret
      exact ⟨rfl, HB4.out⟩
    have hil : i < us.length := by rw [HM0.out]; exact hlt
    obtain ⟨bA, offA, hA, hbA⟩ := HR0.out.addr (by omega)
    subst hA
    have hce := (HR0.out.at_ (bCall HB0.out HBV.out)).cellk hil
    have hu0 : us.getD i 0 = us[i] := getD_at hil
    rw [hu0] at hce
    generalize us[i] = u at *
    have hbA2 : bA < V.heap.size := Nat.lt_of_lt_of_le hbA (bCall HB0.out HBV.out).size
    have lbA : bA < V0.heap.size := Nat.lt_of_lt_of_le hbA HB0.out.size
    have i0 : (0 : Int) ≤ (i : Int) := by omega
    have i1 : (i : Int) < (m : Int) := by omega
    clear hil hu0
    obtain ⟨⟨⟨l1, t1, ov1, li1⟩, es, be⟩, hkey⟩ : ∃ r, keyE X room ⟨l, t, ov, li⟩ u = r := ⟨_, rfl⟩
    obtain ⟨n1, hn1⟩ : ∃ n1, l1.length = n1 := ⟨_, rfl⟩
    obtain ⟨me, hme⟩ : ∃ me, es.length = me := ⟨_, rfl⟩
    obtain ⟨bell, hbell⟩ : ∃ bell, decide (0 < be) = bell := ⟨_, rfl⟩
    have hn := HI.out.2
    have ht1 : t ≤ n := by have h0 := HI.out.1.1; rw [← hn]; exact h0
    have ht2 : n ≤ 4096 := by have h0 := HI.out.1.2; rw [← hn]; exact h0
    have hok1 : Ed.ok ⟨l1, t1, ov1, li1⟩ := by have h0 := keyE_ok HI.out.1 X room u; rw [hkey] at h0; exact h0
    obtain ⟨h1, ks, sg, htyp⟩ := typeT_ex (k := ⟨⟨l, t, ov, li⟩, h⟩) true false hkey
    obtain ⟨mk, hmk⟩ : ∃ mk, ks.length = mk := ⟨_, rfl⟩
    have hed := typeT_edit X room ⟨⟨l, t, ov, li⟩, h⟩ u
    rw [htyp, hkey] at hed
    simp only [hn] at hed
    have hfew := (keyE_few X room ⟨l, t, ov, li⟩ u).1
    rw [hkey] at hfew
    simp only [hme] at hfew
    have hzer : ∀ x, es = [x] → x.k ≠ 3 → sameS l1 (t1 : Int) ov1 li1 [] 0 false false = true := by
      intro x hx hk3
      have h0 := keyE_zero (X := X) (room := room) (s := ⟨l, t, ov, li⟩) (u := u) (e := x) (by rw [hkey]; exact hx) hk3
      rw [hkey] at h0
      rw [← isZ_same]
      exact isZ_iff.2 h0
    obtain ⟨qz, hqz⟩ : ∃ qz, sameS l1 (t1 : Int) ov1 li1 [] 0 false false = qz := ⟨_, rfl⟩
    rw [hqz] at hzer
    have CKx := keepd fun (W : World) (hr : Rd W W.heap.size A5 l c5) => key_good X room A5 l n c5 t ov li u W hn.symm hr ht1 ht2 l1 n1 t1 ov1 li1 es me be bell hkey hn1 hme hbell
    have CT := keepd fun (W : World) (hb : Below V.heap.size V W) => type_good X HX.out room A5 l n c5 t ov li h u true false W hn.symm (HR5.out.at_ hb) ht1 ht2 l1 n1 t1 ov1 li1 h1 ks mk sg be bell htyp hn1 hmk hbell
    have CZx := keepd fun (W : World) (Ay : Option Addr) (cy : Nat) (hr : Rd W W.heap.size Ay l1 cy) => esame_any Ay none l1 [] n1 0 cy 0 (t1 : Int) 0 ov1 false li1 false qz W hn1.symm rfl hr (Rd.nil _ _) hqz
    have HI1 : Hid (Ed.ok ⟨l1, t1, ov1, li1⟩ ∧ l1.length = n1) := ⟨hok1, hn1⟩
    have HED := keepd hed
    have HZER := keepd hzer
    have HFEW := keepd hfew
    have HMK := keepd hmk
    have HME := keepd hme
    have HNN := keepd ht2
    clear hkey hn1 hme hbell hn ht1 ht2 hok1 htyp hmk hed hzer hfew hqz HI
    have FD : Hid (DK V w.heap.size X room) := SR.call HD.out HBV.out (SR.lt HD.out)
    have FT := keepd HK5.out
    have FU := keepd (And.intro hce hbA2)
    go_upto_region 6 with fail
    go_cut [7, 8] from 21 to 33 (fun s7 s8 wx => ∃ (b y : Nat) (Ay : Option Addr) (cy : Nat) (By : Option Addr) (dy : Nat), s7 = .pointer (some ⟨b, 0, none⟩) ∧ s8 = .pointer (some ⟨y, 0, none⟩) ∧ Hid (MidY V b y l1 Ay n1 cy (t1 : Int) ov1 li1 h1 ks By mk dy (sg : Int) bell wx))
    case first =>
      refine wp_region_held_drew (S := fun W => rowOf W w.heap.size = (dk X room).toArray ∧ isRow W 27 w.heap.size 63 = true ∧ W.cell? ⟨w.heap.size, 62, none⟩ = some (.int .i64 room) ∧ W.cell? ⟨V0.heap.size, 0, none⟩ = some (.slice A5 n c5) ∧ W.cell? ⟨V0.heap.size, 1, none⟩ = some (.int .i64 (t : Int)) ∧ W.cell? ⟨V0.heap.size, 2, none⟩ = some (.bool ov) ∧ W.cell? ⟨V0.heap.size, 3, none⟩ = some (.bool li) ∧ W.cell? ⟨V0.heap.size, 4, none⟩ = some (.bool h) ∧ W.cell? ⟨bA, offA + i, none⟩ = some (.int .u8 (u.toNat : Int)) ∧ Below V.heap.size V W) (by kernel_rfl) (sDkT FD.out FT.out FU.out (Below.refl V.heap.size V).drew) (fun hHeld => ?_)
      refine wpAnyH_take (i := 0) (oi := { dst := some 22, op := Op.fieldAddr 27 (Operand.tmp 2) 0, type := 0, pos := "law.go:127", after := #[], guard := none }) (v := .pointer (some ⟨w.heap.size, 0, none⟩)) rfl (by kernel_rfl) (by kernel_rfl) (by kernel_rfl) (fun _ _ _ h => h) (Or.inl ⟨by rfl, fun W hW => ?_⟩) hHeld ?_
      · obtain ⟨q0, q1, q2, q3, q4, q5, q6, q7, q8, q9⟩ := hW
        go_simp
      simp only [Act.put, List.setIfInBounds_toArray, List.set_cons_zero, List.set_cons_succ]
      refine wpAnyH_take (i := 1) (oi := { dst := some 23, op := Op.load 25 (Operand.tmp 22), type := 25, pos := "law.go:127", after := #[{ on := 0, ground := Ground.data }], guard := none }) (v := tv X) rfl (by kernel_rfl) (by kernel_rfl) (by kernel_rfl) (fun _ _ _ h => h) (Or.inl ⟨by rfl, fun W hW => ?_⟩) hHeld ?_
      · obtain ⟨q0, q1, q2, q3, q4, q5, q6, q7, q8, q9⟩ := hW
        go_simp
      simp only [Act.put, List.setIfInBounds_toArray, List.set_cons_zero, List.set_cons_succ]
      refine wpAnyH_take (i := 2) (oi := { dst := some 24, op := Op.fieldAddr 27 (Operand.tmp 2) 1, type := 0, pos := "law.go:127", after := #[], guard := none }) (v := .pointer (some ⟨w.heap.size, 62, none⟩)) rfl (by kernel_rfl) (by kernel_rfl) (by kernel_rfl) (fun _ _ _ h => h) (Or.inl ⟨by rfl, fun W hW => ?_⟩) hHeld ?_
      · obtain ⟨q0, q1, q2, q3, q4, q5, q6, q7, q8, q9⟩ := hW
        go_simp
      simp only [Act.put, List.setIfInBounds_toArray, List.set_cons_zero, List.set_cons_succ]
      refine wpAnyH_take (i := 3) (oi := { dst := some 25, op := Op.load 3 (Operand.tmp 24), type := 3, pos := "law.go:127", after := #[{ on := 2, ground := Ground.data }], guard := none }) (v := .int .i64 room) rfl (by kernel_rfl) (by kernel_rfl) (by kernel_rfl) (fun _ _ _ h => h) (Or.inl ⟨by rfl, fun W hW => ?_⟩) hHeld ?_
      · obtain ⟨q0, q1, q2, q3, q4, q5, q6, q7, q8, q9⟩ := hW
        go_simp
      simp only [Act.put, List.setIfInBounds_toArray, List.set_cons_zero, List.set_cons_succ]
      refine wpAnyH_take (i := 4) (oi := { dst := some 26, op := Op.load 34 (Operand.tmp 5), type := 34, pos := "law.go:127", after := #[], guard := none }) (v := .agg #[.slice A5 n c5, .int .i64 (t : Int), .bool ov, .bool li, .bool h]) rfl (by kernel_rfl) (by kernel_rfl) (by kernel_rfl) (fun _ _ _ h => h) (Or.inl ⟨by rfl, fun W hW => ?_⟩) hHeld ?_
      · obtain ⟨q0, q1, q2, q3, q4, q5, q6, q7, q8, q9⟩ := hW
        go_simp
      simp only [Act.put, List.setIfInBounds_toArray, List.set_cons_zero, List.set_cons_succ]
      refine wpAnyH_take (i := 5) (oi := { dst := some 27, op := Op.move (Operand.tmp 1), type := 28, pos := "law.go:127", after := #[], guard := none }) (v := .slice (some ⟨bA, offA, none⟩) m c) rfl (by kernel_rfl) (by kernel_rfl) (by kernel_rfl) (fun _ _ _ h => h) (Or.inl ⟨by rfl, fun W hW => ?_⟩) hHeld ?_
      · obtain ⟨q0, q1, q2, q3, q4, q5, q6, q7, q8, q9⟩ := hW
        go_simp
      simp only [Act.put, List.setIfInBounds_toArray, List.set_cons_zero, List.set_cons_succ]
      refine wpAnyH_take (i := 6) (oi := { dst := some 28, op := Op.move (Operand.tmp 6), type := 3, pos := "law.go:127", after := #[], guard := none }) (v := .int .i64 (i : Int)) rfl (by kernel_rfl) (by kernel_rfl) (by kernel_rfl) (fun _ _ _ h => h) (Or.inl ⟨by rfl, fun W hW => ?_⟩) hHeld ?_
      · obtain ⟨q0, q1, q2, q3, q4, q5, q6, q7, q8, q9⟩ := hW
        go_simp
      simp only [Act.put, List.setIfInBounds_toArray, List.set_cons_zero, List.set_cons_succ]
      refine wpAnyH_take (i := 7) (oi := { dst := some 29, op := Op.indexAddr 28 (Operand.tmp 27) (Operand.tmp 28), type := 0, pos := "law.go:127", after := #[{ on := 5, ground := Ground.data }, { on := 6, ground := Ground.data }], guard := none }) (v := .pointer (some ⟨bA, offA + i, none⟩)) rfl (by kernel_rfl) (by kernel_rfl) (by kernel_rfl) (fun _ _ _ h => h) (Or.inl ⟨by rfl, fun W hW => ?_⟩) hHeld ?_
      · obtain ⟨q0, q1, q2, q3, q4, q5, q6, q7, q8, q9⟩ := hW
        go_simp
      simp only [Act.put, List.setIfInBounds_toArray, List.set_cons_zero, List.set_cons_succ]
      refine wpAnyH_take (i := 8) (oi := { dst := some 30, op := Op.load 5 (Operand.tmp 29), type := 5, pos := "law.go:127", after := #[{ on := 7, ground := Ground.data }], guard := none }) (v := .int .u8 (u.toNat : Int)) rfl (by kernel_rfl) (by kernel_rfl) (by kernel_rfl) (fun _ _ _ h => h) (Or.inl ⟨by rfl, fun W hW => ?_⟩) hHeld ?_
      · obtain ⟨q0, q1, q2, q3, q4, q5, q6, q7, q8, q9⟩ := hW
        go_simp
      simp only [Act.put, List.setIfInBounds_toArray, List.set_cons_zero, List.set_cons_succ]
      refine wpAnyH_ready (rs := [9, 13, 14]) (by kernel_rfl) (by simp) ?_
      refine AllReadyH.cons (o := { dst := some 31, op := Op.call { callee := Callee.value (Operand.func 11), args := #[Operand.tmp 23, Operand.tmp 25, Operand.tmp 26, Operand.tmp 30, Operand.const (Value.bool true), Operand.const (Value.bool false)], argTypes := #[25, 3, 34, 5, 4, 4] }, type := 42, pos := "law.go:127", after := #[{ on := 1, ground := Ground.data }, { on := 3, ground := Ground.data }, { on := 4, ground := Ground.data }, { on := 8, ground := Ground.data }], guard := none }) rfl (fun K hK => ?_) (AllReadyH.cons (o := { dst := some 7, op := Op.alloc 34, type := 0, pos := "law.go:127", after := #[], guard := none }) rfl (fun K hK => ?_) (AllReadyH.cons (o := { dst := some 8, op := Op.alloc 41, type := 0, pos := "law.go:127", after := #[], guard := none }) rfl (fun K hK => ?_) AllReadyH.nil))
      · go_simp
        with_reducible refine (CT.out (V).drew (Below.refl V.heap.size V).drew).mono ?_
        rintro e wy1 ⟨Ay, cy, By, dy, rfl, hxy1, hsy1, hcy1⟩
        have hby1 : Below V.heap.size V wy1 := bCall (Below.refl V.heap.size V).drew hcy1
        go_wp2_with fail
        refine hK.out _ _ (sDkT FD.out FT.out FU.out hby1) (fun hHeld2 => ?_)
        clear hK K hHeld
        have hHeld := hHeld2
        clear hHeld2
        try simp only [Act.put, List.setIfInBounds_toArray, List.set_cons_zero, List.set_cons_succ]
        refine wpAnyH_take (i := 10) (oi := { dst := some 21, op := Op.move (Operand.tmp 31), type := 42, pos := "law.go:127", after := #[{ on := 9, ground := Ground.data }], guard := none }) (v := .tuple #[.agg #[.slice Ay n1 cy, .int .i64 (t1 : Int), .bool ov1, .bool li1, .bool h1], .agg #[.slice By mk dy, .int .i64 (sg : Int), .bool bell]]) rfl (by kernel_rfl) (by kernel_rfl) (by kernel_rfl) (fun _ _ _ h => h) (Or.inl ⟨by rfl, fun W hW => ?_⟩) hHeld ?_
        · obtain ⟨q0, q1, q2, q3, q4, q5, q6, q7, q8, q9⟩ := hW
          go_simp
        simp only [Act.put, List.setIfInBounds_toArray, List.set_cons_zero, List.set_cons_succ]
        refine wpAnyH_take (i := 11) (oi := { dst := some 32, op := Op.extract (Operand.tmp 21) 0, type := 34, pos := "law.go:127", after := #[{ on := 10, ground := Ground.data }], guard := none }) (v := .agg #[.slice Ay n1 cy, .int .i64 (t1 : Int), .bool ov1, .bool li1, .bool h1]) rfl (by kernel_rfl) (by kernel_rfl) (by kernel_rfl) (fun _ _ _ h => h) (Or.inl ⟨by rfl, fun W hW => ?_⟩) hHeld ?_
        · obtain ⟨q0, q1, q2, q3, q4, q5, q6, q7, q8, q9⟩ := hW
          go_simp
        simp only [Act.put, List.setIfInBounds_toArray, List.set_cons_zero, List.set_cons_succ]
        refine wpAnyH_take (i := 12) (oi := { dst := some 33, op := Op.extract (Operand.tmp 21) 1, type := 41, pos := "law.go:127", after := #[{ on := 10, ground := Ground.data }, { on := 15, ground := Ground.gcOnly Departure.lateStores }], guard := none }) (v := .agg #[.slice By mk dy, .int .i64 (sg : Int), .bool bell]) rfl (by kernel_rfl) (by kernel_rfl) (by kernel_rfl) (fun _ _ _ h => h) (Or.inl ⟨by rfl, fun W hW => ?_⟩) hHeld ?_
        · obtain ⟨q0, q1, q2, q3, q4, q5, q6, q7, q8, q9⟩ := hW
          go_simp
        simp only [Act.put, List.setIfInBounds_toArray, List.set_cons_zero, List.set_cons_succ]
        refine wpAnyH_ready (rs := [13, 14]) (by kernel_rfl) (by simp) ?_
        refine AllReadyH.cons (o := { dst := some 7, op := Op.alloc 34, type := 0, pos := "law.go:127", after := #[], guard := none }) rfl (fun K hK => ?_) (AllReadyH.cons (o := { dst := some 8, op := Op.alloc 41, type := 0, pos := "law.go:127", after := #[], guard := none }) rfl (fun K hK => ?_) AllReadyH.nil)
        · go_simp
          have hby2 : Below V.heap.size V (wy1.alloc (.cells #[.slice none 0 0, .int .i64 0, .bool false, .bool false, .bool false] 34)) := bAlloc hby1 (.cells #[.slice none 0 0, .int .i64 0, .bool false, .bool false, .bool false] 34)
          have hzy2 : SR 34 (wy1.alloc (.cells #[.slice none 0 0, .int .i64 0, .bool false, .bool false, .bool false] 34)) (wy1.heap.size) [.slice none 0 0, .int .i64 0, .bool false, .bool false, .bool false] := SR.new 34 (wy1) [.slice none 0 0, .int .i64 0, .bool false, .bool false, .bool false]
          have hvy2 : V.heap.size ≤ wy1.heap.size := by have h0 := Below.size hby1; exact h0
          have hxy2 := (hxy1).at_ (bAlloc (Below.refl _ _) (.cells #[.slice none 0 0, .int .i64 0, .bool false, .bool false, .bool false] 34))
          have hsy2 := (hsy1).at_ (bAlloc (Below.refl _ _) (.cells #[.slice none 0 0, .int .i64 0, .bool false, .bool false, .bool false] 34))
          refine hK.out _ _ (sDkT FD.out FT.out FU.out hby2) (fun hHeld2 => ?_)
          clear hK K hHeld
          have hHeld := hHeld2
          clear hHeld2
          try simp only [Act.put, List.setIfInBounds_toArray, List.set_cons_zero, List.set_cons_succ]
          generalize hWy2 : wy1.alloc (.cells #[.slice none 0 0, .int .i64 0, .bool false, .bool false, .bool false] 34) = Wy2 at *
          clear hWy2
          refine wpAnyH_ready (rs := [14]) (by kernel_rfl) (by simp) ?_
          refine AllReadyH.cons (o := { dst := some 8, op := Op.alloc 41, type := 0, pos := "law.go:127", after := #[], guard := none }) rfl (fun K hK => ?_) AllReadyH.nil
          go_simp
          have hby3 : Below V.heap.size V (Wy2.alloc (.cells #[.slice none 0 0, .int .i64 0, .bool false] 41)) := bAlloc hby2 (.cells #[.slice none 0 0, .int .i64 0, .bool false] 41)
          have hzy3 : SR 41 (Wy2.alloc (.cells #[.slice none 0 0, .int .i64 0, .bool false] 41)) (Wy2.heap.size) [.slice none 0 0, .int .i64 0, .bool false] := SR.new 41 (Wy2) [.slice none 0 0, .int .i64 0, .bool false]
          have hvy3 : V.heap.size ≤ Wy2.heap.size := by have h0 := Below.size hby2; exact h0
          have hzy3_13 := SR.alloc hzy2 (.cells #[.slice none 0 0, .int .i64 0, .bool false] 41)
          have hny3_13 : wy1.heap.size ≠ Wy2.heap.size := by have h0 := SR.lt hzy2; exact Nat.ne_of_lt h0
          have hxy3 := (hxy2).at_ (bAlloc (Below.refl _ _) (.cells #[.slice none 0 0, .int .i64 0, .bool false] 41))
          have hsy3 := (hsy2).at_ (bAlloc (Below.refl _ _) (.cells #[.slice none 0 0, .int .i64 0, .bool false] 41))
          refine hK.out _ _ (sDkT FD.out FT.out FU.out hby3) (fun hHeld2 => ?_)
          clear hK K hHeld
          have hHeld := hHeld2
          clear hHeld2
          try simp only [Act.put, List.setIfInBounds_toArray, List.set_cons_zero, List.set_cons_succ]
          generalize hWy3 : Wy2.alloc (.cells #[.slice none 0 0, .int .i64 0, .bool false] 41) = Wy3 at *
          clear hWy3
          have hne9 : wy1.heap.size ≠ Wy2.heap.size := by first | assumption | (apply Ne.symm; assumption)
          have hne8 : ¬ wy1.heap.size = Wy2.heap.size := hne9
          have hne7 : ¬ Wy2.heap.size = wy1.heap.size := fun e => hne9 e.symm
          obtain ⟨j0, j1, j2, j3, j4, r0, r1, r2, r3, r4, jt⟩ := tk_facts hzy3_13
          have HM := keepd (midy (V := V) hzy3_13 hzy3 hne9 hby3 hvy2 hvy3 hxy3 hsy3 (l := l1) (n := n1) (A := Ay) (c := cy) (z := (t1 : Int)) (ov := ov1) (li := li1) (h := h1) (ks := ks) (B := By) (m := mk) (d := dy) (sg := (sg : Int)) (bell := bell))
          have hb5S : Below V.heap.size V (set5 Wy3 wy1.heap.size (.slice Ay n1 cy) (.int .i64 (t1 : Int)) (.bool ov1) (.bool li1) (.bool h1)) := set5_below hby3 hvy2
          have hyS : SR 41 (set5 Wy3 wy1.heap.size (.slice Ay n1 cy) (.int .i64 (t1 : Int)) (.bool ov1) (.bool li1) (.bool h1)) (Wy2.heap.size) [.slice none 0 0, .int .i64 0, .bool false] := set5_far hzy3 hne7
          refine wpAnyH_ready (rs := [15]) (by kernel_rfl) (by simp) ?_
          refine AllReadyH.cons (o := { dst := none, op := Op.store 34 (Operand.tmp 7) (Operand.tmp 32), type := 0, pos := "law.go:127", after := #[{ on := 13, ground := Ground.data }, { on := 11, ground := Ground.data }, { on := 9, ground := Ground.chain }, { on := 0, ground := Ground.phase }, { on := 1, ground := Ground.phase }, { on := 2, ground := Ground.phase }, { on := 3, ground := Ground.phase }, { on := 4, ground := Ground.phase }, { on := 5, ground := Ground.phase }, { on := 6, ground := Ground.phase }, { on := 7, ground := Ground.phase }, { on := 8, ground := Ground.phase }, { on := 9, ground := Ground.phase }, { on := 10, ground := Ground.phase }, { on := 11, ground := Ground.phase }, { on := 12, ground := Ground.textOnly Departure.lateStores }, { on := 13, ground := Ground.phase }, { on := 14, ground := Ground.phase }], guard := none }) rfl (fun K hK => ?_) AllReadyH.nil
          go_simp
          refine hK.out _ (set5 Wy3 wy1.heap.size (.slice Ay n1 cy) (.int .i64 (t1 : Int)) (.bool ov1) (.bool li1) (.bool h1)) (sDkT FD.out FT.out FU.out hb5S) (fun hHeld2 => ?_)
          clear hK K hHeld
          have hHeld := hHeld2
          clear hHeld2
          try simp only [Act.put, List.setIfInBounds_toArray, List.set_cons_zero, List.set_cons_succ]
          clear j0 j1 j2 j3 j4 r0 r1 r2 r3 r4 jt
          obtain ⟨j0, j1, j2, r0, r1, r2, jt⟩ := ty_facts hyS
          refine wpAnyH_ready (rs := [16]) (by kernel_rfl) (by simp) ?_
          refine AllReadyH.cons (o := { dst := none, op := Op.store 41 (Operand.tmp 8) (Operand.tmp 33), type := 0, pos := "law.go:127", after := #[{ on := 14, ground := Ground.data }, { on := 12, ground := Ground.data }, { on := 15, ground := Ground.chain }, { on := 0, ground := Ground.phase }, { on := 1, ground := Ground.phase }, { on := 2, ground := Ground.phase }, { on := 3, ground := Ground.phase }, { on := 4, ground := Ground.phase }, { on := 5, ground := Ground.phase }, { on := 6, ground := Ground.phase }, { on := 7, ground := Ground.phase }, { on := 8, ground := Ground.phase }, { on := 9, ground := Ground.phase }, { on := 10, ground := Ground.phase }, { on := 11, ground := Ground.phase }, { on := 12, ground := Ground.phase }, { on := 13, ground := Ground.phase }, { on := 14, ground := Ground.phase }, { on := 15, ground := Ground.phase }], guard := none }) rfl (fun K hK => ?_) AllReadyH.nil
          go_simp
          refine hK.out _ (set3 (set5 Wy3 wy1.heap.size (.slice Ay n1 cy) (.int .i64 (t1 : Int)) (.bool ov1) (.bool li1) (.bool h1)) Wy2.heap.size (.slice By mk dy) (.int .i64 (sg : Int)) (.bool bell)) (sDkT FD.out FT.out FU.out HM.out.2.2.2.2.1) (fun hHeld2 => ?_)
          clear hK K hHeld
          have hHeld := hHeld2
          clear hHeld2
          try simp only [Act.put, List.setIfInBounds_toArray, List.set_cons_zero, List.set_cons_succ]
          refine wpAnyH_done (by kernel_rfl) ?_ _
          go_wp2_with fail
          go_meet
          exact ⟨_, _, _, _, _, _, rfl, rfl, HM⟩
        · go_simp
          have hby4 : Below V.heap.size V (wy1.alloc (.cells #[.slice none 0 0, .int .i64 0, .bool false] 41)) := bAlloc hby1 (.cells #[.slice none 0 0, .int .i64 0, .bool false] 41)
          have hzy4 : SR 41 (wy1.alloc (.cells #[.slice none 0 0, .int .i64 0, .bool false] 41)) (wy1.heap.size) [.slice none 0 0, .int .i64 0, .bool false] := SR.new 41 (wy1) [.slice none 0 0, .int .i64 0, .bool false]
          have hvy4 : V.heap.size ≤ wy1.heap.size := by have h0 := Below.size hby1; exact h0
          have hxy4 := (hxy1).at_ (bAlloc (Below.refl _ _) (.cells #[.slice none 0 0, .int .i64 0, .bool false] 41))
          have hsy4 := (hsy1).at_ (bAlloc (Below.refl _ _) (.cells #[.slice none 0 0, .int .i64 0, .bool false] 41))
          refine hK.out _ _ (sDkT FD.out FT.out FU.out hby4) (fun hHeld2 => ?_)
          clear hK K hHeld
          have hHeld := hHeld2
          clear hHeld2
          try simp only [Act.put, List.setIfInBounds_toArray, List.set_cons_zero, List.set_cons_succ]
          generalize hWy4 : wy1.alloc (.cells #[.slice none 0 0, .int .i64 0, .bool false] 41) = Wy4 at *
          clear hWy4
          refine wpAnyH_ready (rs := [13]) (by kernel_rfl) (by simp) ?_
          refine AllReadyH.cons (o := { dst := some 7, op := Op.alloc 34, type := 0, pos := "law.go:127", after := #[], guard := none }) rfl (fun K hK => ?_) AllReadyH.nil
          go_simp
          have hby5 : Below V.heap.size V (Wy4.alloc (.cells #[.slice none 0 0, .int .i64 0, .bool false, .bool false, .bool false] 34)) := bAlloc hby4 (.cells #[.slice none 0 0, .int .i64 0, .bool false, .bool false, .bool false] 34)
          have hzy5 : SR 34 (Wy4.alloc (.cells #[.slice none 0 0, .int .i64 0, .bool false, .bool false, .bool false] 34)) (Wy4.heap.size) [.slice none 0 0, .int .i64 0, .bool false, .bool false, .bool false] := SR.new 34 (Wy4) [.slice none 0 0, .int .i64 0, .bool false, .bool false, .bool false]
          have hvy5 : V.heap.size ≤ Wy4.heap.size := by have h0 := Below.size hby4; exact h0
          have hzy5_14 := SR.alloc hzy4 (.cells #[.slice none 0 0, .int .i64 0, .bool false, .bool false, .bool false] 34)
          have hny5_14 : wy1.heap.size ≠ Wy4.heap.size := by have h0 := SR.lt hzy4; exact Nat.ne_of_lt h0
          have hxy5 := (hxy4).at_ (bAlloc (Below.refl _ _) (.cells #[.slice none 0 0, .int .i64 0, .bool false, .bool false, .bool false] 34))
          have hsy5 := (hsy4).at_ (bAlloc (Below.refl _ _) (.cells #[.slice none 0 0, .int .i64 0, .bool false, .bool false, .bool false] 34))
          refine hK.out _ _ (sDkT FD.out FT.out FU.out hby5) (fun hHeld2 => ?_)
          clear hK K hHeld
          have hHeld := hHeld2
          clear hHeld2
          try simp only [Act.put, List.setIfInBounds_toArray, List.set_cons_zero, List.set_cons_succ]
          generalize hWy5 : Wy4.alloc (.cells #[.slice none 0 0, .int .i64 0, .bool false, .bool false, .bool false] 34) = Wy5 at *
          clear hWy5
          have hne9 : Wy4.heap.size ≠ wy1.heap.size := by first | assumption | (apply Ne.symm; assumption)
          have hne8 : ¬ Wy4.heap.size = wy1.heap.size := hne9
          have hne7 : ¬ wy1.heap.size = Wy4.heap.size := fun e => hne9 e.symm
          obtain ⟨j0, j1, j2, j3, j4, r0, r1, r2, r3, r4, jt⟩ := tk_facts hzy5
          have HM := keepd (midy (V := V) hzy5 hzy5_14 hne9 hby5 hvy5 hvy4 hxy5 hsy5 (l := l1) (n := n1) (A := Ay) (c := cy) (z := (t1 : Int)) (ov := ov1) (li := li1) (h := h1) (ks := ks) (B := By) (m := mk) (d := dy) (sg := (sg : Int)) (bell := bell))
          have hb5S : Below V.heap.size V (set5 Wy5 Wy4.heap.size (.slice Ay n1 cy) (.int .i64 (t1 : Int)) (.bool ov1) (.bool li1) (.bool h1)) := set5_below hby5 hvy5
          have hyS : SR 41 (set5 Wy5 Wy4.heap.size (.slice Ay n1 cy) (.int .i64 (t1 : Int)) (.bool ov1) (.bool li1) (.bool h1)) (wy1.heap.size) [.slice none 0 0, .int .i64 0, .bool false] := set5_far hzy5_14 hne7
          refine wpAnyH_ready (rs := [15]) (by kernel_rfl) (by simp) ?_
          refine AllReadyH.cons (o := { dst := none, op := Op.store 34 (Operand.tmp 7) (Operand.tmp 32), type := 0, pos := "law.go:127", after := #[{ on := 13, ground := Ground.data }, { on := 11, ground := Ground.data }, { on := 9, ground := Ground.chain }, { on := 0, ground := Ground.phase }, { on := 1, ground := Ground.phase }, { on := 2, ground := Ground.phase }, { on := 3, ground := Ground.phase }, { on := 4, ground := Ground.phase }, { on := 5, ground := Ground.phase }, { on := 6, ground := Ground.phase }, { on := 7, ground := Ground.phase }, { on := 8, ground := Ground.phase }, { on := 9, ground := Ground.phase }, { on := 10, ground := Ground.phase }, { on := 11, ground := Ground.phase }, { on := 12, ground := Ground.textOnly Departure.lateStores }, { on := 13, ground := Ground.phase }, { on := 14, ground := Ground.phase }], guard := none }) rfl (fun K hK => ?_) AllReadyH.nil
          go_simp
          refine hK.out _ (set5 Wy5 Wy4.heap.size (.slice Ay n1 cy) (.int .i64 (t1 : Int)) (.bool ov1) (.bool li1) (.bool h1)) (sDkT FD.out FT.out FU.out hb5S) (fun hHeld2 => ?_)
          clear hK K hHeld
          have hHeld := hHeld2
          clear hHeld2
          try simp only [Act.put, List.setIfInBounds_toArray, List.set_cons_zero, List.set_cons_succ]
          clear j0 j1 j2 j3 j4 r0 r1 r2 r3 r4 jt
          obtain ⟨j0, j1, j2, r0, r1, r2, jt⟩ := ty_facts hyS
          refine wpAnyH_ready (rs := [16]) (by kernel_rfl) (by simp) ?_
          refine AllReadyH.cons (o := { dst := none, op := Op.store 41 (Operand.tmp 8) (Operand.tmp 33), type := 0, pos := "law.go:127", after := #[{ on := 14, ground := Ground.data }, { on := 12, ground := Ground.data }, { on := 15, ground := Ground.chain }, { on := 0, ground := Ground.phase }, { on := 1, ground := Ground.phase }, { on := 2, ground := Ground.phase }, { on := 3, ground := Ground.phase }, { on := 4, ground := Ground.phase }, { on := 5, ground := Ground.phase }, { on := 6, ground := Ground.phase }, { on := 7, ground := Ground.phase }, { on := 8, ground := Ground.phase }, { on := 9, ground := Ground.phase }, { on := 10, ground := Ground.phase }, { on := 11, ground := Ground.phase }, { on := 12, ground := Ground.phase }, { on := 13, ground := Ground.phase }, { on := 14, ground := Ground.phase }, { on := 15, ground := Ground.phase }], guard := none }) rfl (fun K hK => ?_) AllReadyH.nil
          go_simp
          refine hK.out _ (set3 (set5 Wy5 Wy4.heap.size (.slice Ay n1 cy) (.int .i64 (t1 : Int)) (.bool ov1) (.bool li1) (.bool h1)) wy1.heap.size (.slice By mk dy) (.int .i64 (sg : Int)) (.bool bell)) (sDkT FD.out FT.out FU.out HM.out.2.2.2.2.1) (fun hHeld2 => ?_)
          clear hK K hHeld
          have hHeld := hHeld2
          clear hHeld2
          try simp only [Act.put, List.setIfInBounds_toArray, List.set_cons_zero, List.set_cons_succ]
          refine wpAnyH_done (by kernel_rfl) ?_ _
          go_wp2_with fail
          go_meet
          exact ⟨_, _, _, _, _, _, rfl, rfl, HM⟩
      · go_simp
        have hby6 : Below V.heap.size V ((V.alloc (.cells #[.slice none 0 0, .int .i64 0, .bool false, .bool false, .bool false] 34)).drew) := bAlloc (Below.refl V.heap.size V).drew (.cells #[.slice none 0 0, .int .i64 0, .bool false, .bool false, .bool false] 34)
        have hzy6 : SR 34 ((V.alloc (.cells #[.slice none 0 0, .int .i64 0, .bool false, .bool false, .bool false] 34)).drew) (V.heap.size) [.slice none 0 0, .int .i64 0, .bool false, .bool false, .bool false] := SR.new 34 (V) [.slice none 0 0, .int .i64 0, .bool false, .bool false, .bool false]
        have hvy6 : V.heap.size ≤ V.heap.size := by have h0 := Below.size (Below.refl V.heap.size V).drew; exact h0
        refine hK.out _ _ (sDkT FD.out FT.out FU.out hby6) (fun hHeld2 => ?_)
        clear hK K hHeld
        have hHeld := hHeld2
        clear hHeld2
        try simp only [Act.put, List.setIfInBounds_toArray, List.set_cons_zero, List.set_cons_succ]
        generalize hWy6 : (V.alloc (.cells #[.slice none 0 0, .int .i64 0, .bool false, .bool false, .bool false] 34)).drew = Wy6 at *
        clear hWy6
        refine wpAnyH_ready (rs := [9, 14]) (by kernel_rfl) (by simp) ?_
        refine AllReadyH.cons (o := { dst := some 31, op := Op.call { callee := Callee.value (Operand.func 11), args := #[Operand.tmp 23, Operand.tmp 25, Operand.tmp 26, Operand.tmp 30, Operand.const (Value.bool true), Operand.const (Value.bool false)], argTypes := #[25, 3, 34, 5, 4, 4] }, type := 42, pos := "law.go:127", after := #[{ on := 1, ground := Ground.data }, { on := 3, ground := Ground.data }, { on := 4, ground := Ground.data }, { on := 8, ground := Ground.data }], guard := none }) rfl (fun K hK => ?_) (AllReadyH.cons (o := { dst := some 8, op := Op.alloc 41, type := 0, pos := "law.go:127", after := #[], guard := none }) rfl (fun K hK => ?_) AllReadyH.nil)
        · go_simp
          with_reducible refine (CT.out Wy6 hby6).mono ?_
          rintro e wy7 ⟨Ay, cy, By, dy, rfl, hxy7, hsy7, hcy7⟩
          have hby7 : Below V.heap.size V wy7 := bCall hby6 hcy7
          have hzy7_13 := SR.call hzy6 hcy7 (hzy6).lt
          go_wp2_with fail
          refine hK.out _ _ (sDkT FD.out FT.out FU.out hby7) (fun hHeld2 => ?_)
          clear hK K hHeld
          have hHeld := hHeld2
          clear hHeld2
          try simp only [Act.put, List.setIfInBounds_toArray, List.set_cons_zero, List.set_cons_succ]
          refine wpAnyH_take (i := 10) (oi := { dst := some 21, op := Op.move (Operand.tmp 31), type := 42, pos := "law.go:127", after := #[{ on := 9, ground := Ground.data }], guard := none }) (v := .tuple #[.agg #[.slice Ay n1 cy, .int .i64 (t1 : Int), .bool ov1, .bool li1, .bool h1], .agg #[.slice By mk dy, .int .i64 (sg : Int), .bool bell]]) rfl (by kernel_rfl) (by kernel_rfl) (by kernel_rfl) (fun _ _ _ h => h) (Or.inl ⟨by rfl, fun W hW => ?_⟩) hHeld ?_
          · obtain ⟨q0, q1, q2, q3, q4, q5, q6, q7, q8, q9⟩ := hW
            go_simp
          simp only [Act.put, List.setIfInBounds_toArray, List.set_cons_zero, List.set_cons_succ]
          refine wpAnyH_take (i := 11) (oi := { dst := some 32, op := Op.extract (Operand.tmp 21) 0, type := 34, pos := "law.go:127", after := #[{ on := 10, ground := Ground.data }], guard := none }) (v := .agg #[.slice Ay n1 cy, .int .i64 (t1 : Int), .bool ov1, .bool li1, .bool h1]) rfl (by kernel_rfl) (by kernel_rfl) (by kernel_rfl) (fun _ _ _ h => h) (Or.inl ⟨by rfl, fun W hW => ?_⟩) hHeld ?_
          · obtain ⟨q0, q1, q2, q3, q4, q5, q6, q7, q8, q9⟩ := hW
            go_simp
          simp only [Act.put, List.setIfInBounds_toArray, List.set_cons_zero, List.set_cons_succ]
          refine wpAnyH_take (i := 12) (oi := { dst := some 33, op := Op.extract (Operand.tmp 21) 1, type := 41, pos := "law.go:127", after := #[{ on := 10, ground := Ground.data }, { on := 15, ground := Ground.gcOnly Departure.lateStores }], guard := none }) (v := .agg #[.slice By mk dy, .int .i64 (sg : Int), .bool bell]) rfl (by kernel_rfl) (by kernel_rfl) (by kernel_rfl) (fun _ _ _ h => h) (Or.inl ⟨by rfl, fun W hW => ?_⟩) hHeld ?_
          · obtain ⟨q0, q1, q2, q3, q4, q5, q6, q7, q8, q9⟩ := hW
            go_simp
          simp only [Act.put, List.setIfInBounds_toArray, List.set_cons_zero, List.set_cons_succ]
          refine wpAnyH_ready (rs := [14]) (by kernel_rfl) (by simp) ?_
          refine AllReadyH.cons (o := { dst := some 8, op := Op.alloc 41, type := 0, pos := "law.go:127", after := #[], guard := none }) rfl (fun K hK => ?_) AllReadyH.nil
          go_simp
          have hby8 : Below V.heap.size V (wy7.alloc (.cells #[.slice none 0 0, .int .i64 0, .bool false] 41)) := bAlloc hby7 (.cells #[.slice none 0 0, .int .i64 0, .bool false] 41)
          have hzy8 : SR 41 (wy7.alloc (.cells #[.slice none 0 0, .int .i64 0, .bool false] 41)) (wy7.heap.size) [.slice none 0 0, .int .i64 0, .bool false] := SR.new 41 (wy7) [.slice none 0 0, .int .i64 0, .bool false]
          have hvy8 : V.heap.size ≤ wy7.heap.size := by have h0 := Below.size hby7; exact h0
          have hzy8_13 := SR.alloc hzy7_13 (.cells #[.slice none 0 0, .int .i64 0, .bool false] 41)
          have hny8_13 : V.heap.size ≠ wy7.heap.size := by have h0 := SR.lt hzy7_13; exact Nat.ne_of_lt h0
          have hxy8 := (hxy7).at_ (bAlloc (Below.refl _ _) (.cells #[.slice none 0 0, .int .i64 0, .bool false] 41))
          have hsy8 := (hsy7).at_ (bAlloc (Below.refl _ _) (.cells #[.slice none 0 0, .int .i64 0, .bool false] 41))
          refine hK.out _ _ (sDkT FD.out FT.out FU.out hby8) (fun hHeld2 => ?_)
          clear hK K hHeld
          have hHeld := hHeld2
          clear hHeld2
          try simp only [Act.put, List.setIfInBounds_toArray, List.set_cons_zero, List.set_cons_succ]
          generalize hWy8 : wy7.alloc (.cells #[.slice none 0 0, .int .i64 0, .bool false] 41) = Wy8 at *
          clear hWy8
          have hne9 : V.heap.size ≠ wy7.heap.size := by first | assumption | (apply Ne.symm; assumption)
          have hne8 : ¬ V.heap.size = wy7.heap.size := hne9
          have hne7 : ¬ wy7.heap.size = V.heap.size := fun e => hne9 e.symm
          obtain ⟨j0, j1, j2, j3, j4, r0, r1, r2, r3, r4, jt⟩ := tk_facts hzy8_13
          have HM := keepd (midy (V := V) hzy8_13 hzy8 hne9 hby8 hvy6 hvy8 hxy8 hsy8 (l := l1) (n := n1) (A := Ay) (c := cy) (z := (t1 : Int)) (ov := ov1) (li := li1) (h := h1) (ks := ks) (B := By) (m := mk) (d := dy) (sg := (sg : Int)) (bell := bell))
          have hb5S : Below V.heap.size V (set5 Wy8 V.heap.size (.slice Ay n1 cy) (.int .i64 (t1 : Int)) (.bool ov1) (.bool li1) (.bool h1)) := set5_below hby8 hvy6
          have hyS : SR 41 (set5 Wy8 V.heap.size (.slice Ay n1 cy) (.int .i64 (t1 : Int)) (.bool ov1) (.bool li1) (.bool h1)) (wy7.heap.size) [.slice none 0 0, .int .i64 0, .bool false] := set5_far hzy8 hne7
          refine wpAnyH_ready (rs := [15]) (by kernel_rfl) (by simp) ?_
          refine AllReadyH.cons (o := { dst := none, op := Op.store 34 (Operand.tmp 7) (Operand.tmp 32), type := 0, pos := "law.go:127", after := #[{ on := 13, ground := Ground.data }, { on := 11, ground := Ground.data }, { on := 9, ground := Ground.chain }, { on := 0, ground := Ground.phase }, { on := 1, ground := Ground.phase }, { on := 2, ground := Ground.phase }, { on := 3, ground := Ground.phase }, { on := 4, ground := Ground.phase }, { on := 5, ground := Ground.phase }, { on := 6, ground := Ground.phase }, { on := 7, ground := Ground.phase }, { on := 8, ground := Ground.phase }, { on := 9, ground := Ground.phase }, { on := 10, ground := Ground.phase }, { on := 11, ground := Ground.phase }, { on := 12, ground := Ground.textOnly Departure.lateStores }, { on := 13, ground := Ground.phase }, { on := 14, ground := Ground.phase }], guard := none }) rfl (fun K hK => ?_) AllReadyH.nil
          go_simp
          refine hK.out _ (set5 Wy8 V.heap.size (.slice Ay n1 cy) (.int .i64 (t1 : Int)) (.bool ov1) (.bool li1) (.bool h1)) (sDkT FD.out FT.out FU.out hb5S) (fun hHeld2 => ?_)
          clear hK K hHeld
          have hHeld := hHeld2
          clear hHeld2
          try simp only [Act.put, List.setIfInBounds_toArray, List.set_cons_zero, List.set_cons_succ]
          clear j0 j1 j2 j3 j4 r0 r1 r2 r3 r4 jt
          obtain ⟨j0, j1, j2, r0, r1, r2, jt⟩ := ty_facts hyS
          refine wpAnyH_ready (rs := [16]) (by kernel_rfl) (by simp) ?_
          refine AllReadyH.cons (o := { dst := none, op := Op.store 41 (Operand.tmp 8) (Operand.tmp 33), type := 0, pos := "law.go:127", after := #[{ on := 14, ground := Ground.data }, { on := 12, ground := Ground.data }, { on := 15, ground := Ground.chain }, { on := 0, ground := Ground.phase }, { on := 1, ground := Ground.phase }, { on := 2, ground := Ground.phase }, { on := 3, ground := Ground.phase }, { on := 4, ground := Ground.phase }, { on := 5, ground := Ground.phase }, { on := 6, ground := Ground.phase }, { on := 7, ground := Ground.phase }, { on := 8, ground := Ground.phase }, { on := 9, ground := Ground.phase }, { on := 10, ground := Ground.phase }, { on := 11, ground := Ground.phase }, { on := 12, ground := Ground.phase }, { on := 13, ground := Ground.phase }, { on := 14, ground := Ground.phase }, { on := 15, ground := Ground.phase }], guard := none }) rfl (fun K hK => ?_) AllReadyH.nil
          go_simp
          refine hK.out _ (set3 (set5 Wy8 V.heap.size (.slice Ay n1 cy) (.int .i64 (t1 : Int)) (.bool ov1) (.bool li1) (.bool h1)) wy7.heap.size (.slice By mk dy) (.int .i64 (sg : Int)) (.bool bell)) (sDkT FD.out FT.out FU.out HM.out.2.2.2.2.1) (fun hHeld2 => ?_)
          clear hK K hHeld
          have hHeld := hHeld2
          clear hHeld2
          try simp only [Act.put, List.setIfInBounds_toArray, List.set_cons_zero, List.set_cons_succ]
          refine wpAnyH_done (by kernel_rfl) ?_ _
          go_wp2_with fail
          go_meet
          exact ⟨_, _, _, _, _, _, rfl, rfl, HM⟩
        · go_simp
          have hby9 : Below V.heap.size V (Wy6.alloc (.cells #[.slice none 0 0, .int .i64 0, .bool false] 41)) := bAlloc hby6 (.cells #[.slice none 0 0, .int .i64 0, .bool false] 41)
          have hzy9 : SR 41 (Wy6.alloc (.cells #[.slice none 0 0, .int .i64 0, .bool false] 41)) (Wy6.heap.size) [.slice none 0 0, .int .i64 0, .bool false] := SR.new 41 (Wy6) [.slice none 0 0, .int .i64 0, .bool false]
          have hvy9 : V.heap.size ≤ Wy6.heap.size := by have h0 := Below.size hby6; exact h0
          have hzy9_13 := SR.alloc hzy6 (.cells #[.slice none 0 0, .int .i64 0, .bool false] 41)
          have hny9_13 : V.heap.size ≠ Wy6.heap.size := by have h0 := SR.lt hzy6; exact Nat.ne_of_lt h0
          refine hK.out _ _ (sDkT FD.out FT.out FU.out hby9) (fun hHeld2 => ?_)
          clear hK K hHeld
          have hHeld := hHeld2
          clear hHeld2
          try simp only [Act.put, List.setIfInBounds_toArray, List.set_cons_zero, List.set_cons_succ]
          generalize hWy9 : Wy6.alloc (.cells #[.slice none 0 0, .int .i64 0, .bool false] 41) = Wy9 at *
          clear hWy9
          refine wpAnyH_ready (rs := [9]) (by kernel_rfl) (by simp) ?_
          refine AllReadyH.cons (o := { dst := some 31, op := Op.call { callee := Callee.value (Operand.func 11), args := #[Operand.tmp 23, Operand.tmp 25, Operand.tmp 26, Operand.tmp 30, Operand.const (Value.bool true), Operand.const (Value.bool false)], argTypes := #[25, 3, 34, 5, 4, 4] }, type := 42, pos := "law.go:127", after := #[{ on := 1, ground := Ground.data }, { on := 3, ground := Ground.data }, { on := 4, ground := Ground.data }, { on := 8, ground := Ground.data }], guard := none }) rfl (fun K hK => ?_) AllReadyH.nil
          go_simp
          with_reducible refine (CT.out Wy9 hby9).mono ?_
          rintro e wy10 ⟨Ay, cy, By, dy, rfl, hxy10, hsy10, hcy10⟩
          have hby10 : Below V.heap.size V wy10 := bCall hby9 hcy10
          have hzy10_13 := SR.call hzy9_13 hcy10 (hzy9_13).lt
          have hzy10_14 := SR.call hzy9 hcy10 (hzy9).lt
          go_wp2_with fail
          refine hK.out _ _ (sDkT FD.out FT.out FU.out hby10) (fun hHeld2 => ?_)
          clear hK K hHeld
          have hHeld := hHeld2
          clear hHeld2
          try simp only [Act.put, List.setIfInBounds_toArray, List.set_cons_zero, List.set_cons_succ]
          refine wpAnyH_take (i := 10) (oi := { dst := some 21, op := Op.move (Operand.tmp 31), type := 42, pos := "law.go:127", after := #[{ on := 9, ground := Ground.data }], guard := none }) (v := .tuple #[.agg #[.slice Ay n1 cy, .int .i64 (t1 : Int), .bool ov1, .bool li1, .bool h1], .agg #[.slice By mk dy, .int .i64 (sg : Int), .bool bell]]) rfl (by kernel_rfl) (by kernel_rfl) (by kernel_rfl) (fun _ _ _ h => h) (Or.inl ⟨by rfl, fun W hW => ?_⟩) hHeld ?_
          · obtain ⟨q0, q1, q2, q3, q4, q5, q6, q7, q8, q9⟩ := hW
            go_simp
          simp only [Act.put, List.setIfInBounds_toArray, List.set_cons_zero, List.set_cons_succ]
          refine wpAnyH_take (i := 11) (oi := { dst := some 32, op := Op.extract (Operand.tmp 21) 0, type := 34, pos := "law.go:127", after := #[{ on := 10, ground := Ground.data }], guard := none }) (v := .agg #[.slice Ay n1 cy, .int .i64 (t1 : Int), .bool ov1, .bool li1, .bool h1]) rfl (by kernel_rfl) (by kernel_rfl) (by kernel_rfl) (fun _ _ _ h => h) (Or.inl ⟨by rfl, fun W hW => ?_⟩) hHeld ?_
          · obtain ⟨q0, q1, q2, q3, q4, q5, q6, q7, q8, q9⟩ := hW
            go_simp
          simp only [Act.put, List.setIfInBounds_toArray, List.set_cons_zero, List.set_cons_succ]
          refine wpAnyH_take (i := 12) (oi := { dst := some 33, op := Op.extract (Operand.tmp 21) 1, type := 41, pos := "law.go:127", after := #[{ on := 10, ground := Ground.data }, { on := 15, ground := Ground.gcOnly Departure.lateStores }], guard := none }) (v := .agg #[.slice By mk dy, .int .i64 (sg : Int), .bool bell]) rfl (by kernel_rfl) (by kernel_rfl) (by kernel_rfl) (fun _ _ _ h => h) (Or.inl ⟨by rfl, fun W hW => ?_⟩) hHeld ?_
          · obtain ⟨q0, q1, q2, q3, q4, q5, q6, q7, q8, q9⟩ := hW
            go_simp
          simp only [Act.put, List.setIfInBounds_toArray, List.set_cons_zero, List.set_cons_succ]
          have hne9 : V.heap.size ≠ Wy6.heap.size := by first | assumption | (apply Ne.symm; assumption)
          have hne8 : ¬ V.heap.size = Wy6.heap.size := hne9
          have hne7 : ¬ Wy6.heap.size = V.heap.size := fun e => hne9 e.symm
          obtain ⟨j0, j1, j2, j3, j4, r0, r1, r2, r3, r4, jt⟩ := tk_facts hzy10_13
          have HM := keepd (midy (V := V) hzy10_13 hzy10_14 hne9 hby10 hvy6 hvy9 hxy10 hsy10 (l := l1) (n := n1) (A := Ay) (c := cy) (z := (t1 : Int)) (ov := ov1) (li := li1) (h := h1) (ks := ks) (B := By) (m := mk) (d := dy) (sg := (sg : Int)) (bell := bell))
          have hb5S : Below V.heap.size V (set5 wy10 V.heap.size (.slice Ay n1 cy) (.int .i64 (t1 : Int)) (.bool ov1) (.bool li1) (.bool h1)) := set5_below hby10 hvy6
          have hyS : SR 41 (set5 wy10 V.heap.size (.slice Ay n1 cy) (.int .i64 (t1 : Int)) (.bool ov1) (.bool li1) (.bool h1)) (Wy6.heap.size) [.slice none 0 0, .int .i64 0, .bool false] := set5_far hzy10_14 hne7
          refine wpAnyH_ready (rs := [15]) (by kernel_rfl) (by simp) ?_
          refine AllReadyH.cons (o := { dst := none, op := Op.store 34 (Operand.tmp 7) (Operand.tmp 32), type := 0, pos := "law.go:127", after := #[{ on := 13, ground := Ground.data }, { on := 11, ground := Ground.data }, { on := 9, ground := Ground.chain }, { on := 0, ground := Ground.phase }, { on := 1, ground := Ground.phase }, { on := 2, ground := Ground.phase }, { on := 3, ground := Ground.phase }, { on := 4, ground := Ground.phase }, { on := 5, ground := Ground.phase }, { on := 6, ground := Ground.phase }, { on := 7, ground := Ground.phase }, { on := 8, ground := Ground.phase }, { on := 9, ground := Ground.phase }, { on := 10, ground := Ground.phase }, { on := 11, ground := Ground.phase }, { on := 12, ground := Ground.textOnly Departure.lateStores }, { on := 13, ground := Ground.phase }, { on := 14, ground := Ground.phase }], guard := none }) rfl (fun K hK => ?_) AllReadyH.nil
          go_simp
          refine hK.out _ (set5 wy10 V.heap.size (.slice Ay n1 cy) (.int .i64 (t1 : Int)) (.bool ov1) (.bool li1) (.bool h1)) (sDkT FD.out FT.out FU.out hb5S) (fun hHeld2 => ?_)
          clear hK K hHeld
          have hHeld := hHeld2
          clear hHeld2
          try simp only [Act.put, List.setIfInBounds_toArray, List.set_cons_zero, List.set_cons_succ]
          clear j0 j1 j2 j3 j4 r0 r1 r2 r3 r4 jt
          obtain ⟨j0, j1, j2, r0, r1, r2, jt⟩ := ty_facts hyS
          refine wpAnyH_ready (rs := [16]) (by kernel_rfl) (by simp) ?_
          refine AllReadyH.cons (o := { dst := none, op := Op.store 41 (Operand.tmp 8) (Operand.tmp 33), type := 0, pos := "law.go:127", after := #[{ on := 14, ground := Ground.data }, { on := 12, ground := Ground.data }, { on := 15, ground := Ground.chain }, { on := 0, ground := Ground.phase }, { on := 1, ground := Ground.phase }, { on := 2, ground := Ground.phase }, { on := 3, ground := Ground.phase }, { on := 4, ground := Ground.phase }, { on := 5, ground := Ground.phase }, { on := 6, ground := Ground.phase }, { on := 7, ground := Ground.phase }, { on := 8, ground := Ground.phase }, { on := 9, ground := Ground.phase }, { on := 10, ground := Ground.phase }, { on := 11, ground := Ground.phase }, { on := 12, ground := Ground.phase }, { on := 13, ground := Ground.phase }, { on := 14, ground := Ground.phase }, { on := 15, ground := Ground.phase }], guard := none }) rfl (fun K hK => ?_) AllReadyH.nil
          go_simp
          refine hK.out _ (set3 (set5 wy10 V.heap.size (.slice Ay n1 cy) (.int .i64 (t1 : Int)) (.bool ov1) (.bool li1) (.bool h1)) Wy6.heap.size (.slice By mk dy) (.int .i64 (sg : Int)) (.bool bell)) (sDkT FD.out FT.out FU.out HM.out.2.2.2.2.1) (fun hHeld2 => ?_)
          clear hK K hHeld
          have hHeld := hHeld2
          clear hHeld2
          try simp only [Act.put, List.setIfInBounds_toArray, List.set_cons_zero, List.set_cons_succ]
          refine wpAnyH_done (by kernel_rfl) ?_ _
          go_wp2_with fail
          go_meet
          exact ⟨_, _, _, _, _, _, rfl, rfl, HM⟩
      · go_simp
        have hby11 : Below V.heap.size V ((V.alloc (.cells #[.slice none 0 0, .int .i64 0, .bool false] 41)).drew) := bAlloc (Below.refl V.heap.size V).drew (.cells #[.slice none 0 0, .int .i64 0, .bool false] 41)
        have hzy11 : SR 41 ((V.alloc (.cells #[.slice none 0 0, .int .i64 0, .bool false] 41)).drew) (V.heap.size) [.slice none 0 0, .int .i64 0, .bool false] := SR.new 41 (V) [.slice none 0 0, .int .i64 0, .bool false]
        have hvy11 : V.heap.size ≤ V.heap.size := by have h0 := Below.size (Below.refl V.heap.size V).drew; exact h0
        refine hK.out _ _ (sDkT FD.out FT.out FU.out hby11) (fun hHeld2 => ?_)
        clear hK K hHeld
        have hHeld := hHeld2
        clear hHeld2
        try simp only [Act.put, List.setIfInBounds_toArray, List.set_cons_zero, List.set_cons_succ]
        generalize hWy11 : (V.alloc (.cells #[.slice none 0 0, .int .i64 0, .bool false] 41)).drew = Wy11 at *
        clear hWy11
        refine wpAnyH_ready (rs := [9, 13]) (by kernel_rfl) (by simp) ?_
        refine AllReadyH.cons (o := { dst := some 31, op := Op.call { callee := Callee.value (Operand.func 11), args := #[Operand.tmp 23, Operand.tmp 25, Operand.tmp 26, Operand.tmp 30, Operand.const (Value.bool true), Operand.const (Value.bool false)], argTypes := #[25, 3, 34, 5, 4, 4] }, type := 42, pos := "law.go:127", after := #[{ on := 1, ground := Ground.data }, { on := 3, ground := Ground.data }, { on := 4, ground := Ground.data }, { on := 8, ground := Ground.data }], guard := none }) rfl (fun K hK => ?_) (AllReadyH.cons (o := { dst := some 7, op := Op.alloc 34, type := 0, pos := "law.go:127", after := #[], guard := none }) rfl (fun K hK => ?_) AllReadyH.nil)
        · go_simp
          with_reducible refine (CT.out Wy11 hby11).mono ?_
          rintro e wy12 ⟨Ay, cy, By, dy, rfl, hxy12, hsy12, hcy12⟩
          have hby12 : Below V.heap.size V wy12 := bCall hby11 hcy12
          have hzy12_14 := SR.call hzy11 hcy12 (hzy11).lt
          go_wp2_with fail
          refine hK.out _ _ (sDkT FD.out FT.out FU.out hby12) (fun hHeld2 => ?_)
          clear hK K hHeld
          have hHeld := hHeld2
          clear hHeld2
          try simp only [Act.put, List.setIfInBounds_toArray, List.set_cons_zero, List.set_cons_succ]
          refine wpAnyH_take (i := 10) (oi := { dst := some 21, op := Op.move (Operand.tmp 31), type := 42, pos := "law.go:127", after := #[{ on := 9, ground := Ground.data }], guard := none }) (v := .tuple #[.agg #[.slice Ay n1 cy, .int .i64 (t1 : Int), .bool ov1, .bool li1, .bool h1], .agg #[.slice By mk dy, .int .i64 (sg : Int), .bool bell]]) rfl (by kernel_rfl) (by kernel_rfl) (by kernel_rfl) (fun _ _ _ h => h) (Or.inl ⟨by rfl, fun W hW => ?_⟩) hHeld ?_
          · obtain ⟨q0, q1, q2, q3, q4, q5, q6, q7, q8, q9⟩ := hW
            go_simp
          simp only [Act.put, List.setIfInBounds_toArray, List.set_cons_zero, List.set_cons_succ]
          refine wpAnyH_take (i := 11) (oi := { dst := some 32, op := Op.extract (Operand.tmp 21) 0, type := 34, pos := "law.go:127", after := #[{ on := 10, ground := Ground.data }], guard := none }) (v := .agg #[.slice Ay n1 cy, .int .i64 (t1 : Int), .bool ov1, .bool li1, .bool h1]) rfl (by kernel_rfl) (by kernel_rfl) (by kernel_rfl) (fun _ _ _ h => h) (Or.inl ⟨by rfl, fun W hW => ?_⟩) hHeld ?_
          · obtain ⟨q0, q1, q2, q3, q4, q5, q6, q7, q8, q9⟩ := hW
            go_simp
          simp only [Act.put, List.setIfInBounds_toArray, List.set_cons_zero, List.set_cons_succ]
          refine wpAnyH_take (i := 12) (oi := { dst := some 33, op := Op.extract (Operand.tmp 21) 1, type := 41, pos := "law.go:127", after := #[{ on := 10, ground := Ground.data }, { on := 15, ground := Ground.gcOnly Departure.lateStores }], guard := none }) (v := .agg #[.slice By mk dy, .int .i64 (sg : Int), .bool bell]) rfl (by kernel_rfl) (by kernel_rfl) (by kernel_rfl) (fun _ _ _ h => h) (Or.inl ⟨by rfl, fun W hW => ?_⟩) hHeld ?_
          · obtain ⟨q0, q1, q2, q3, q4, q5, q6, q7, q8, q9⟩ := hW
            go_simp
          simp only [Act.put, List.setIfInBounds_toArray, List.set_cons_zero, List.set_cons_succ]
          refine wpAnyH_ready (rs := [13]) (by kernel_rfl) (by simp) ?_
          refine AllReadyH.cons (o := { dst := some 7, op := Op.alloc 34, type := 0, pos := "law.go:127", after := #[], guard := none }) rfl (fun K hK => ?_) AllReadyH.nil
          go_simp
          have hby13 : Below V.heap.size V (wy12.alloc (.cells #[.slice none 0 0, .int .i64 0, .bool false, .bool false, .bool false] 34)) := bAlloc hby12 (.cells #[.slice none 0 0, .int .i64 0, .bool false, .bool false, .bool false] 34)
          have hzy13 : SR 34 (wy12.alloc (.cells #[.slice none 0 0, .int .i64 0, .bool false, .bool false, .bool false] 34)) (wy12.heap.size) [.slice none 0 0, .int .i64 0, .bool false, .bool false, .bool false] := SR.new 34 (wy12) [.slice none 0 0, .int .i64 0, .bool false, .bool false, .bool false]
          have hvy13 : V.heap.size ≤ wy12.heap.size := by have h0 := Below.size hby12; exact h0
          have hzy13_14 := SR.alloc hzy12_14 (.cells #[.slice none 0 0, .int .i64 0, .bool false, .bool false, .bool false] 34)
          have hny13_14 : V.heap.size ≠ wy12.heap.size := by have h0 := SR.lt hzy12_14; exact Nat.ne_of_lt h0
          have hxy13 := (hxy12).at_ (bAlloc (Below.refl _ _) (.cells #[.slice none 0 0, .int .i64 0, .bool false, .bool false, .bool false] 34))
          have hsy13 := (hsy12).at_ (bAlloc (Below.refl _ _) (.cells #[.slice none 0 0, .int .i64 0, .bool false, .bool false, .bool false] 34))
          refine hK.out _ _ (sDkT FD.out FT.out FU.out hby13) (fun hHeld2 => ?_)
          clear hK K hHeld
          have hHeld := hHeld2
          clear hHeld2
          try simp only [Act.put, List.setIfInBounds_toArray, List.set_cons_zero, List.set_cons_succ]
          generalize hWy13 : wy12.alloc (.cells #[.slice none 0 0, .int .i64 0, .bool false, .bool false, .bool false] 34) = Wy13 at *
          clear hWy13
          have hne9 : wy12.heap.size ≠ V.heap.size := by first | assumption | (apply Ne.symm; assumption)
          have hne8 : ¬ wy12.heap.size = V.heap.size := hne9
          have hne7 : ¬ V.heap.size = wy12.heap.size := fun e => hne9 e.symm
          obtain ⟨j0, j1, j2, j3, j4, r0, r1, r2, r3, r4, jt⟩ := tk_facts hzy13
          have HM := keepd (midy (V := V) hzy13 hzy13_14 hne9 hby13 hvy13 hvy11 hxy13 hsy13 (l := l1) (n := n1) (A := Ay) (c := cy) (z := (t1 : Int)) (ov := ov1) (li := li1) (h := h1) (ks := ks) (B := By) (m := mk) (d := dy) (sg := (sg : Int)) (bell := bell))
          have hb5S : Below V.heap.size V (set5 Wy13 wy12.heap.size (.slice Ay n1 cy) (.int .i64 (t1 : Int)) (.bool ov1) (.bool li1) (.bool h1)) := set5_below hby13 hvy13
          have hyS : SR 41 (set5 Wy13 wy12.heap.size (.slice Ay n1 cy) (.int .i64 (t1 : Int)) (.bool ov1) (.bool li1) (.bool h1)) (V.heap.size) [.slice none 0 0, .int .i64 0, .bool false] := set5_far hzy13_14 hne7
          refine wpAnyH_ready (rs := [15]) (by kernel_rfl) (by simp) ?_
          refine AllReadyH.cons (o := { dst := none, op := Op.store 34 (Operand.tmp 7) (Operand.tmp 32), type := 0, pos := "law.go:127", after := #[{ on := 13, ground := Ground.data }, { on := 11, ground := Ground.data }, { on := 9, ground := Ground.chain }, { on := 0, ground := Ground.phase }, { on := 1, ground := Ground.phase }, { on := 2, ground := Ground.phase }, { on := 3, ground := Ground.phase }, { on := 4, ground := Ground.phase }, { on := 5, ground := Ground.phase }, { on := 6, ground := Ground.phase }, { on := 7, ground := Ground.phase }, { on := 8, ground := Ground.phase }, { on := 9, ground := Ground.phase }, { on := 10, ground := Ground.phase }, { on := 11, ground := Ground.phase }, { on := 12, ground := Ground.textOnly Departure.lateStores }, { on := 13, ground := Ground.phase }, { on := 14, ground := Ground.phase }], guard := none }) rfl (fun K hK => ?_) AllReadyH.nil
          go_simp
          refine hK.out _ (set5 Wy13 wy12.heap.size (.slice Ay n1 cy) (.int .i64 (t1 : Int)) (.bool ov1) (.bool li1) (.bool h1)) (sDkT FD.out FT.out FU.out hb5S) (fun hHeld2 => ?_)
          clear hK K hHeld
          have hHeld := hHeld2
          clear hHeld2
          try simp only [Act.put, List.setIfInBounds_toArray, List.set_cons_zero, List.set_cons_succ]
          clear j0 j1 j2 j3 j4 r0 r1 r2 r3 r4 jt
          obtain ⟨j0, j1, j2, r0, r1, r2, jt⟩ := ty_facts hyS
          refine wpAnyH_ready (rs := [16]) (by kernel_rfl) (by simp) ?_
          refine AllReadyH.cons (o := { dst := none, op := Op.store 41 (Operand.tmp 8) (Operand.tmp 33), type := 0, pos := "law.go:127", after := #[{ on := 14, ground := Ground.data }, { on := 12, ground := Ground.data }, { on := 15, ground := Ground.chain }, { on := 0, ground := Ground.phase }, { on := 1, ground := Ground.phase }, { on := 2, ground := Ground.phase }, { on := 3, ground := Ground.phase }, { on := 4, ground := Ground.phase }, { on := 5, ground := Ground.phase }, { on := 6, ground := Ground.phase }, { on := 7, ground := Ground.phase }, { on := 8, ground := Ground.phase }, { on := 9, ground := Ground.phase }, { on := 10, ground := Ground.phase }, { on := 11, ground := Ground.phase }, { on := 12, ground := Ground.phase }, { on := 13, ground := Ground.phase }, { on := 14, ground := Ground.phase }, { on := 15, ground := Ground.phase }], guard := none }) rfl (fun K hK => ?_) AllReadyH.nil
          go_simp
          refine hK.out _ (set3 (set5 Wy13 wy12.heap.size (.slice Ay n1 cy) (.int .i64 (t1 : Int)) (.bool ov1) (.bool li1) (.bool h1)) V.heap.size (.slice By mk dy) (.int .i64 (sg : Int)) (.bool bell)) (sDkT FD.out FT.out FU.out HM.out.2.2.2.2.1) (fun hHeld2 => ?_)
          clear hK K hHeld
          have hHeld := hHeld2
          clear hHeld2
          try simp only [Act.put, List.setIfInBounds_toArray, List.set_cons_zero, List.set_cons_succ]
          refine wpAnyH_done (by kernel_rfl) ?_ _
          go_wp2_with fail
          go_meet
          exact ⟨_, _, _, _, _, _, rfl, rfl, HM⟩
        · go_simp
          have hby14 : Below V.heap.size V (Wy11.alloc (.cells #[.slice none 0 0, .int .i64 0, .bool false, .bool false, .bool false] 34)) := bAlloc hby11 (.cells #[.slice none 0 0, .int .i64 0, .bool false, .bool false, .bool false] 34)
          have hzy14 : SR 34 (Wy11.alloc (.cells #[.slice none 0 0, .int .i64 0, .bool false, .bool false, .bool false] 34)) (Wy11.heap.size) [.slice none 0 0, .int .i64 0, .bool false, .bool false, .bool false] := SR.new 34 (Wy11) [.slice none 0 0, .int .i64 0, .bool false, .bool false, .bool false]
          have hvy14 : V.heap.size ≤ Wy11.heap.size := by have h0 := Below.size hby11; exact h0
          have hzy14_14 := SR.alloc hzy11 (.cells #[.slice none 0 0, .int .i64 0, .bool false, .bool false, .bool false] 34)
          have hny14_14 : V.heap.size ≠ Wy11.heap.size := by have h0 := SR.lt hzy11; exact Nat.ne_of_lt h0
          refine hK.out _ _ (sDkT FD.out FT.out FU.out hby14) (fun hHeld2 => ?_)
          clear hK K hHeld
          have hHeld := hHeld2
          clear hHeld2
          try simp only [Act.put, List.setIfInBounds_toArray, List.set_cons_zero, List.set_cons_succ]
          generalize hWy14 : Wy11.alloc (.cells #[.slice none 0 0, .int .i64 0, .bool false, .bool false, .bool false] 34) = Wy14 at *
          clear hWy14
          refine wpAnyH_ready (rs := [9]) (by kernel_rfl) (by simp) ?_
          refine AllReadyH.cons (o := { dst := some 31, op := Op.call { callee := Callee.value (Operand.func 11), args := #[Operand.tmp 23, Operand.tmp 25, Operand.tmp 26, Operand.tmp 30, Operand.const (Value.bool true), Operand.const (Value.bool false)], argTypes := #[25, 3, 34, 5, 4, 4] }, type := 42, pos := "law.go:127", after := #[{ on := 1, ground := Ground.data }, { on := 3, ground := Ground.data }, { on := 4, ground := Ground.data }, { on := 8, ground := Ground.data }], guard := none }) rfl (fun K hK => ?_) AllReadyH.nil
          go_simp
          with_reducible refine (CT.out Wy14 hby14).mono ?_
          rintro e wy15 ⟨Ay, cy, By, dy, rfl, hxy15, hsy15, hcy15⟩
          have hby15 : Below V.heap.size V wy15 := bCall hby14 hcy15
          have hzy15_14 := SR.call hzy14_14 hcy15 (hzy14_14).lt
          have hzy15_13 := SR.call hzy14 hcy15 (hzy14).lt
          go_wp2_with fail
          refine hK.out _ _ (sDkT FD.out FT.out FU.out hby15) (fun hHeld2 => ?_)
          clear hK K hHeld
          have hHeld := hHeld2
          clear hHeld2
          try simp only [Act.put, List.setIfInBounds_toArray, List.set_cons_zero, List.set_cons_succ]
          refine wpAnyH_take (i := 10) (oi := { dst := some 21, op := Op.move (Operand.tmp 31), type := 42, pos := "law.go:127", after := #[{ on := 9, ground := Ground.data }], guard := none }) (v := .tuple #[.agg #[.slice Ay n1 cy, .int .i64 (t1 : Int), .bool ov1, .bool li1, .bool h1], .agg #[.slice By mk dy, .int .i64 (sg : Int), .bool bell]]) rfl (by kernel_rfl) (by kernel_rfl) (by kernel_rfl) (fun _ _ _ h => h) (Or.inl ⟨by rfl, fun W hW => ?_⟩) hHeld ?_
          · obtain ⟨q0, q1, q2, q3, q4, q5, q6, q7, q8, q9⟩ := hW
            go_simp
          simp only [Act.put, List.setIfInBounds_toArray, List.set_cons_zero, List.set_cons_succ]
          refine wpAnyH_take (i := 11) (oi := { dst := some 32, op := Op.extract (Operand.tmp 21) 0, type := 34, pos := "law.go:127", after := #[{ on := 10, ground := Ground.data }], guard := none }) (v := .agg #[.slice Ay n1 cy, .int .i64 (t1 : Int), .bool ov1, .bool li1, .bool h1]) rfl (by kernel_rfl) (by kernel_rfl) (by kernel_rfl) (fun _ _ _ h => h) (Or.inl ⟨by rfl, fun W hW => ?_⟩) hHeld ?_
          · obtain ⟨q0, q1, q2, q3, q4, q5, q6, q7, q8, q9⟩ := hW
            go_simp
          simp only [Act.put, List.setIfInBounds_toArray, List.set_cons_zero, List.set_cons_succ]
          refine wpAnyH_take (i := 12) (oi := { dst := some 33, op := Op.extract (Operand.tmp 21) 1, type := 41, pos := "law.go:127", after := #[{ on := 10, ground := Ground.data }, { on := 15, ground := Ground.gcOnly Departure.lateStores }], guard := none }) (v := .agg #[.slice By mk dy, .int .i64 (sg : Int), .bool bell]) rfl (by kernel_rfl) (by kernel_rfl) (by kernel_rfl) (fun _ _ _ h => h) (Or.inl ⟨by rfl, fun W hW => ?_⟩) hHeld ?_
          · obtain ⟨q0, q1, q2, q3, q4, q5, q6, q7, q8, q9⟩ := hW
            go_simp
          simp only [Act.put, List.setIfInBounds_toArray, List.set_cons_zero, List.set_cons_succ]
          have hne9 : Wy11.heap.size ≠ V.heap.size := by first | assumption | (apply Ne.symm; assumption)
          have hne8 : ¬ Wy11.heap.size = V.heap.size := hne9
          have hne7 : ¬ V.heap.size = Wy11.heap.size := fun e => hne9 e.symm
          obtain ⟨j0, j1, j2, j3, j4, r0, r1, r2, r3, r4, jt⟩ := tk_facts hzy15_13
          have HM := keepd (midy (V := V) hzy15_13 hzy15_14 hne9 hby15 hvy14 hvy11 hxy15 hsy15 (l := l1) (n := n1) (A := Ay) (c := cy) (z := (t1 : Int)) (ov := ov1) (li := li1) (h := h1) (ks := ks) (B := By) (m := mk) (d := dy) (sg := (sg : Int)) (bell := bell))
          have hb5S : Below V.heap.size V (set5 wy15 Wy11.heap.size (.slice Ay n1 cy) (.int .i64 (t1 : Int)) (.bool ov1) (.bool li1) (.bool h1)) := set5_below hby15 hvy14
          have hyS : SR 41 (set5 wy15 Wy11.heap.size (.slice Ay n1 cy) (.int .i64 (t1 : Int)) (.bool ov1) (.bool li1) (.bool h1)) (V.heap.size) [.slice none 0 0, .int .i64 0, .bool false] := set5_far hzy15_14 hne7
          refine wpAnyH_ready (rs := [15]) (by kernel_rfl) (by simp) ?_
          refine AllReadyH.cons (o := { dst := none, op := Op.store 34 (Operand.tmp 7) (Operand.tmp 32), type := 0, pos := "law.go:127", after := #[{ on := 13, ground := Ground.data }, { on := 11, ground := Ground.data }, { on := 9, ground := Ground.chain }, { on := 0, ground := Ground.phase }, { on := 1, ground := Ground.phase }, { on := 2, ground := Ground.phase }, { on := 3, ground := Ground.phase }, { on := 4, ground := Ground.phase }, { on := 5, ground := Ground.phase }, { on := 6, ground := Ground.phase }, { on := 7, ground := Ground.phase }, { on := 8, ground := Ground.phase }, { on := 9, ground := Ground.phase }, { on := 10, ground := Ground.phase }, { on := 11, ground := Ground.phase }, { on := 12, ground := Ground.textOnly Departure.lateStores }, { on := 13, ground := Ground.phase }, { on := 14, ground := Ground.phase }], guard := none }) rfl (fun K hK => ?_) AllReadyH.nil
          go_simp
          refine hK.out _ (set5 wy15 Wy11.heap.size (.slice Ay n1 cy) (.int .i64 (t1 : Int)) (.bool ov1) (.bool li1) (.bool h1)) (sDkT FD.out FT.out FU.out hb5S) (fun hHeld2 => ?_)
          clear hK K hHeld
          have hHeld := hHeld2
          clear hHeld2
          try simp only [Act.put, List.setIfInBounds_toArray, List.set_cons_zero, List.set_cons_succ]
          clear j0 j1 j2 j3 j4 r0 r1 r2 r3 r4 jt
          obtain ⟨j0, j1, j2, r0, r1, r2, jt⟩ := ty_facts hyS
          refine wpAnyH_ready (rs := [16]) (by kernel_rfl) (by simp) ?_
          refine AllReadyH.cons (o := { dst := none, op := Op.store 41 (Operand.tmp 8) (Operand.tmp 33), type := 0, pos := "law.go:127", after := #[{ on := 14, ground := Ground.data }, { on := 12, ground := Ground.data }, { on := 15, ground := Ground.chain }, { on := 0, ground := Ground.phase }, { on := 1, ground := Ground.phase }, { on := 2, ground := Ground.phase }, { on := 3, ground := Ground.phase }, { on := 4, ground := Ground.phase }, { on := 5, ground := Ground.phase }, { on := 6, ground := Ground.phase }, { on := 7, ground := Ground.phase }, { on := 8, ground := Ground.phase }, { on := 9, ground := Ground.phase }, { on := 10, ground := Ground.phase }, { on := 11, ground := Ground.phase }, { on := 12, ground := Ground.phase }, { on := 13, ground := Ground.phase }, { on := 14, ground := Ground.phase }, { on := 15, ground := Ground.phase }], guard := none }) rfl (fun K hK => ?_) AllReadyH.nil
          go_simp
          refine hK.out _ (set3 (set5 wy15 Wy11.heap.size (.slice Ay n1 cy) (.int .i64 (t1 : Int)) (.bool ov1) (.bool li1) (.bool h1)) V.heap.size (.slice By mk dy) (.int .i64 (sg : Int)) (.bool bell)) (sDkT FD.out FT.out FU.out HM.out.2.2.2.2.1) (fun hHeld2 => ?_)
          clear hK K hHeld
          have hHeld := hHeld2
          clear hHeld2
          try simp only [Act.put, List.setIfInBounds_toArray, List.set_cons_zero, List.set_cons_succ]
          refine wpAnyH_done (by kernel_rfl) ?_ _
          go_wp2_with fail
          go_meet
          exact ⟨_, _, _, _, _, _, rfl, rfl, HM⟩
    case rest =>
      obtain ⟨b, y, Ay, cy, By, dy, rfl, rfl, HM6⟩ := hcut
      obtain ⟨V6, hV6⟩ : ∃ V6, V6 = wc := ⟨_, rfl⟩
      subst hV6
      obtain ⟨m1, m2, m3, m4, m5, m6, m7⟩ := HM6.out
      have HK56 := keepd (SR.call HK5.out m5 HK5.out.lt)
      have HR56 := keepd (HR5.out.at_ m5)
      have HBV6 := keepd (bCall HBV.out m5)
      have HM1 := keepd m1
      have HM2 := keepd m2
      have HM3 := keepd m3
      have HM4 := keepd m4
      have l0 := HK5.out.lt
      have HNB : Hid (b ≠ V0.heap.size ∧ y ≠ V0.heap.size) := ⟨by omega, by omega⟩
      have hbA6 : bA < V6.heap.size := Nat.lt_of_lt_of_le hbA2 m5.size
      have FU7 : Hid (V6.cell? ⟨bA, offA + i, none⟩ = some (.int .u8 (u.toNat : Int)) ∧ bA < V6.heap.size) := ⟨(m5.cell (p := ⟨bA, offA + i, none⟩) hbA2).trans hce, hbA6⟩
      have FD7 : Hid (DK V6 w.heap.size X room) := SR.call HD.out HBV6.out (SR.lt HD.out)
      have FT7 := keepd HK56.out
      have CK := keepd fun (W : World) (hb : Below V6.heap.size V6 W) => CKx.out W (HR56.out.at_ hb)
      clear m1 m2 m3 m4 m5 m6 m7 HM6 CT CKx FD FT FU HK5 HR5 HBV hbA2 hce l0
      go_upto_region 7 with fail
      go_cut [9, 10, 11] from 34 to 48 (fun s9 s10 s11 wx => ∃ (bk : Nat) (Bx : Option Addr) (dx : Nat), s9 = .pointer (some ⟨bk, 0, none⟩) ∧ s10 = .slice Bx me dx ∧ s11 = .bool bell ∧ Hid (MidK V6 es Bx me dx wx))
      case first =>
        refine wp_region_held_drew (S := fun W => rowOf W w.heap.size = (dk X room).toArray ∧ isRow W 27 w.heap.size 63 = true ∧ W.cell? ⟨w.heap.size, 62, none⟩ = some (.int .i64 room) ∧ W.cell? ⟨V0.heap.size, 0, none⟩ = some (.slice A5 n c5) ∧ W.cell? ⟨V0.heap.size, 1, none⟩ = some (.int .i64 (t : Int)) ∧ W.cell? ⟨V0.heap.size, 2, none⟩ = some (.bool ov) ∧ W.cell? ⟨V0.heap.size, 3, none⟩ = some (.bool li) ∧ W.cell? ⟨V0.heap.size, 4, none⟩ = some (.bool h) ∧ W.cell? ⟨bA, offA + i, none⟩ = some (.int .u8 (u.toNat : Int)) ∧ Below V6.heap.size V6 W) (by kernel_rfl) (sDkT FD7.out FT7.out FU7.out (Below.refl V6.heap.size V6).drew) (fun hHeld => ?_)
        refine wpAnyH_take (i := 0) (oi := { dst := some 35, op := Op.fieldAddr 27 (Operand.tmp 2) 0, type := 0, pos := "law.go:128", after := #[], guard := none }) (v := .pointer (some ⟨w.heap.size, 0, none⟩)) rfl (by kernel_rfl) (by kernel_rfl) (by kernel_rfl) (fun _ _ _ h => h) (Or.inl ⟨by rfl, fun W hW => ?_⟩) hHeld ?_
        · obtain ⟨q0, q1, q2, q3, q4, q5, q6, q7, q8, q9⟩ := hW
          go_simp
        simp only [Act.put, List.setIfInBounds_toArray, List.set_cons_zero, List.set_cons_succ]
        refine wpAnyH_take (i := 1) (oi := { dst := some 36, op := Op.load 25 (Operand.tmp 35), type := 25, pos := "law.go:128", after := #[{ on := 0, ground := Ground.data }], guard := none }) (v := tv X) rfl (by kernel_rfl) (by kernel_rfl) (by kernel_rfl) (fun _ _ _ h => h) (Or.inl ⟨by rfl, fun W hW => ?_⟩) hHeld ?_
        · obtain ⟨q0, q1, q2, q3, q4, q5, q6, q7, q8, q9⟩ := hW
          go_simp
        simp only [Act.put, List.setIfInBounds_toArray, List.set_cons_zero, List.set_cons_succ]
        refine wpAnyH_take (i := 2) (oi := { dst := some 37, op := Op.fieldAddr 27 (Operand.tmp 2) 1, type := 0, pos := "law.go:128", after := #[], guard := none }) (v := .pointer (some ⟨w.heap.size, 62, none⟩)) rfl (by kernel_rfl) (by kernel_rfl) (by kernel_rfl) (fun _ _ _ h => h) (Or.inl ⟨by rfl, fun W hW => ?_⟩) hHeld ?_
        · obtain ⟨q0, q1, q2, q3, q4, q5, q6, q7, q8, q9⟩ := hW
          go_simp
        simp only [Act.put, List.setIfInBounds_toArray, List.set_cons_zero, List.set_cons_succ]
        refine wpAnyH_take (i := 3) (oi := { dst := some 38, op := Op.load 3 (Operand.tmp 37), type := 3, pos := "law.go:128", after := #[{ on := 2, ground := Ground.data }], guard := none }) (v := .int .i64 room) rfl (by kernel_rfl) (by kernel_rfl) (by kernel_rfl) (fun _ _ _ h => h) (Or.inl ⟨by rfl, fun W hW => ?_⟩) hHeld ?_
        · obtain ⟨q0, q1, q2, q3, q4, q5, q6, q7, q8, q9⟩ := hW
          go_simp
        simp only [Act.put, List.setIfInBounds_toArray, List.set_cons_zero, List.set_cons_succ]
        refine wpAnyH_take (i := 4) (oi := { dst := some 39, op := Op.fieldAddr 34 (Operand.tmp 5) 0, type := 0, pos := "law.go:128", after := #[], guard := none }) (v := .pointer (some ⟨V0.heap.size, 0, none⟩)) rfl (by kernel_rfl) (by kernel_rfl) (by kernel_rfl) (fun _ _ _ h => h) (Or.inl ⟨by rfl, fun W hW => ?_⟩) hHeld ?_
        · obtain ⟨q0, q1, q2, q3, q4, q5, q6, q7, q8, q9⟩ := hW
          go_simp
        simp only [Act.put, List.setIfInBounds_toArray, List.set_cons_zero, List.set_cons_succ]
        refine wpAnyH_take (i := 5) (oi := { dst := some 40, op := Op.load 32 (Operand.tmp 39), type := 32, pos := "law.go:128", after := #[{ on := 4, ground := Ground.data }], guard := none }) (v := .agg #[.slice A5 n c5, .int .i64 (t : Int), .bool ov, .bool li]) rfl (by kernel_rfl) (by kernel_rfl) (by kernel_rfl) (fun _ _ _ h => h) (Or.inl ⟨by rfl, fun W hW => ?_⟩) hHeld ?_
        · obtain ⟨q0, q1, q2, q3, q4, q5, q6, q7, q8, q9⟩ := hW
          go_simp
        simp only [Act.put, List.setIfInBounds_toArray, List.set_cons_zero, List.set_cons_succ]
        refine wpAnyH_take (i := 6) (oi := { dst := some 41, op := Op.move (Operand.tmp 1), type := 28, pos := "law.go:128", after := #[], guard := none }) (v := .slice (some ⟨bA, offA, none⟩) m c) rfl (by kernel_rfl) (by kernel_rfl) (by kernel_rfl) (fun _ _ _ h => h) (Or.inl ⟨by rfl, fun W hW => ?_⟩) hHeld ?_
        · obtain ⟨q0, q1, q2, q3, q4, q5, q6, q7, q8, q9⟩ := hW
          go_simp
        simp only [Act.put, List.setIfInBounds_toArray, List.set_cons_zero, List.set_cons_succ]
        refine wpAnyH_take (i := 7) (oi := { dst := some 42, op := Op.move (Operand.tmp 6), type := 3, pos := "law.go:128", after := #[], guard := none }) (v := .int .i64 (i : Int)) rfl (by kernel_rfl) (by kernel_rfl) (by kernel_rfl) (fun _ _ _ h => h) (Or.inl ⟨by rfl, fun W hW => ?_⟩) hHeld ?_
        · obtain ⟨q0, q1, q2, q3, q4, q5, q6, q7, q8, q9⟩ := hW
          go_simp
        simp only [Act.put, List.setIfInBounds_toArray, List.set_cons_zero, List.set_cons_succ]
        refine wpAnyH_take (i := 8) (oi := { dst := some 43, op := Op.indexAddr 28 (Operand.tmp 41) (Operand.tmp 42), type := 0, pos := "law.go:128", after := #[{ on := 6, ground := Ground.data }, { on := 7, ground := Ground.data }], guard := none }) (v := .pointer (some ⟨bA, offA + i, none⟩)) rfl (by kernel_rfl) (by kernel_rfl) (by kernel_rfl) (fun _ _ _ h => h) (Or.inl ⟨by rfl, fun W hW => ?_⟩) hHeld ?_
        · obtain ⟨q0, q1, q2, q3, q4, q5, q6, q7, q8, q9⟩ := hW
          go_simp
        simp only [Act.put, List.setIfInBounds_toArray, List.set_cons_zero, List.set_cons_succ]
        refine wpAnyH_take (i := 9) (oi := { dst := some 44, op := Op.load 5 (Operand.tmp 43), type := 5, pos := "law.go:128", after := #[{ on := 8, ground := Ground.data }], guard := none }) (v := .int .u8 (u.toNat : Int)) rfl (by kernel_rfl) (by kernel_rfl) (by kernel_rfl) (fun _ _ _ h => h) (Or.inl ⟨by rfl, fun W hW => ?_⟩) hHeld ?_
        · obtain ⟨q0, q1, q2, q3, q4, q5, q6, q7, q8, q9⟩ := hW
          go_simp
        simp only [Act.put, List.setIfInBounds_toArray, List.set_cons_zero, List.set_cons_succ]
        refine wpAnyH_ready (rs := [10, 15]) (by kernel_rfl) (by simp) ?_
        refine AllReadyH.cons (o := { dst := some 45, op := Op.call { callee := Callee.value (Operand.func 20), args := #[Operand.tmp 36, Operand.tmp 38, Operand.tmp 40, Operand.tmp 44], argTypes := #[25, 3, 32, 5] }, type := 56, pos := "law.go:128", after := #[{ on := 1, ground := Ground.data }, { on := 3, ground := Ground.data }, { on := 5, ground := Ground.data }, { on := 9, ground := Ground.data }], guard := none }) rfl (fun K hK => ?_) (AllReadyH.cons (o := { dst := some 9, op := Op.alloc 32, type := 0, pos := "law.go:128", after := #[], guard := none }) rfl (fun K hK => ?_) AllReadyH.nil)
        · go_simp
          with_reducible refine (CK.out (V6).drew (Below.refl V6.heap.size V6).drew).mono ?_
          rintro e wx1 ⟨Ak, ck, Bk, dk, Lk, rfl, e1x, e2x, _, hyx1, hcx1⟩
          have hbx1 : Below V6.heap.size V6 wx1 := bCall (Below.refl V6.heap.size V6).drew hcx1
          go_wp2_with fail
          refine hK.out _ _ (sDkT FD7.out FT7.out FU7.out hbx1) (fun hHeld2 => ?_)
          clear hK K hHeld
          have hHeld := hHeld2
          clear hHeld2
          try simp only [Act.put, List.setIfInBounds_toArray, List.set_cons_zero, List.set_cons_succ]
          refine wpAnyH_take (i := 11) (oi := { dst := some 34, op := Op.move (Operand.tmp 45), type := 56, pos := "law.go:128", after := #[{ on := 10, ground := Ground.data }], guard := none }) (v := .tuple #[.agg #[.slice Ak n1 ck, .int .i64 (t1 : Int), .bool ov1, .bool li1], .slice Bk me dk, .bool bell]) rfl (by kernel_rfl) (by kernel_rfl) (by kernel_rfl) (fun _ _ _ h => h) (Or.inl ⟨by rfl, fun W hW => ?_⟩) hHeld ?_
          · obtain ⟨q0, q1, q2, q3, q4, q5, q6, q7, q8, q9⟩ := hW
            go_simp
          simp only [Act.put, List.setIfInBounds_toArray, List.set_cons_zero, List.set_cons_succ]
          refine wpAnyH_take (i := 12) (oi := { dst := some 46, op := Op.extract (Operand.tmp 34) 0, type := 32, pos := "law.go:128", after := #[{ on := 11, ground := Ground.data }], guard := none }) (v := .agg #[.slice Ak n1 ck, .int .i64 (t1 : Int), .bool ov1, .bool li1]) rfl (by kernel_rfl) (by kernel_rfl) (by kernel_rfl) (fun _ _ _ h => h) (Or.inl ⟨by rfl, fun W hW => ?_⟩) hHeld ?_
          · obtain ⟨q0, q1, q2, q3, q4, q5, q6, q7, q8, q9⟩ := hW
            go_simp
          simp only [Act.put, List.setIfInBounds_toArray, List.set_cons_zero, List.set_cons_succ]
          refine wpAnyH_take (i := 13) (oi := { dst := some 47, op := Op.extract (Operand.tmp 34) 1, type := 53, pos := "law.go:128", after := #[{ on := 11, ground := Ground.data }, { on := 16, ground := Ground.gcOnly Departure.lateStores }], guard := none }) (v := .slice Bk me dk) rfl (by kernel_rfl) (by kernel_rfl) (by kernel_rfl) (fun _ _ _ h => h) (Or.inl ⟨by rfl, fun W hW => ?_⟩) hHeld ?_
          · obtain ⟨q0, q1, q2, q3, q4, q5, q6, q7, q8, q9⟩ := hW
            go_simp
          simp only [Act.put, List.setIfInBounds_toArray, List.set_cons_zero, List.set_cons_succ]
          refine wpAnyH_take (i := 14) (oi := { dst := some 48, op := Op.extract (Operand.tmp 34) 2, type := 4, pos := "law.go:128", after := #[{ on := 11, ground := Ground.data }, { on := 17, ground := Ground.gcOnly Departure.lateStores }], guard := none }) (v := .bool bell) rfl (by kernel_rfl) (by kernel_rfl) (by kernel_rfl) (fun _ _ _ h => h) (Or.inl ⟨by rfl, fun W hW => ?_⟩) hHeld ?_
          · obtain ⟨q0, q1, q2, q3, q4, q5, q6, q7, q8, q9⟩ := hW
            go_simp
          simp only [Act.put, List.setIfInBounds_toArray, List.set_cons_zero, List.set_cons_succ]
          refine wpAnyH_ready (rs := [15]) (by kernel_rfl) (by simp) ?_
          refine AllReadyH.cons (o := { dst := some 9, op := Op.alloc 32, type := 0, pos := "law.go:128", after := #[], guard := none }) rfl (fun K hK => ?_) AllReadyH.nil
          go_simp
          have hbx2 : Below V6.heap.size V6 (wx1.alloc (.cells #[.slice none 0 0, .int .i64 0, .bool false, .bool false] 32)) := bAlloc hbx1 (.cells #[.slice none 0 0, .int .i64 0, .bool false, .bool false] 32)
          have hzx2 : SR 32 (wx1.alloc (.cells #[.slice none 0 0, .int .i64 0, .bool false, .bool false] 32)) (wx1.heap.size) [.slice none 0 0, .int .i64 0, .bool false, .bool false] := SR.new 32 (wx1) [.slice none 0 0, .int .i64 0, .bool false, .bool false]
          have hvx2 : V6.heap.size ≤ wx1.heap.size := by have h0 := Below.size hbx1; exact h0
          have hyx2 := (hyx1).at_ (bAlloc (Below.refl _ _) (.cells #[.slice none 0 0, .int .i64 0, .bool false, .bool false] 32))
          refine hK.out _ _ (sDkT FD7.out FT7.out FU7.out hbx2) (fun hHeld2 => ?_)
          clear hK K hHeld
          have hHeld := hHeld2
          clear hHeld2
          try simp only [Act.put, List.setIfInBounds_toArray, List.set_cons_zero, List.set_cons_succ]
          generalize hWx2 : wx1.alloc (.cells #[.slice none 0 0, .int .i64 0, .bool false, .bool false] 32) = Wx2 at *
          clear hWx2
          obtain ⟨y0, y1, y2, y3, y4, y5, y6, y7, y8⟩ := st_facts hzx2
          have hbS : Below V6.heap.size V6 (set4 Wx2 wx1.heap.size (.slice Ak n1 ck) (.int .i64 (t1 : Int)) (.bool ov1) (.bool li1)) := set4_below hbx2 hvx2
          have HM := keepd (midk hzx2 hvx2 hbx2 e1x e2x hyx2 (.slice Ak n1 ck) (.int .i64 (t1 : Int)) (.bool ov1) (.bool li1))
          refine wpAnyH_ready (rs := [16]) (by kernel_rfl) (by simp) ?_
          refine AllReadyH.cons (o := { dst := none, op := Op.store 32 (Operand.tmp 9) (Operand.tmp 46), type := 0, pos := "law.go:128", after := #[{ on := 15, ground := Ground.data }, { on := 12, ground := Ground.data }, { on := 10, ground := Ground.chain }, { on := 0, ground := Ground.phase }, { on := 1, ground := Ground.phase }, { on := 2, ground := Ground.phase }, { on := 3, ground := Ground.phase }, { on := 4, ground := Ground.phase }, { on := 5, ground := Ground.phase }, { on := 6, ground := Ground.phase }, { on := 7, ground := Ground.phase }, { on := 8, ground := Ground.phase }, { on := 9, ground := Ground.phase }, { on := 10, ground := Ground.phase }, { on := 11, ground := Ground.phase }, { on := 12, ground := Ground.phase }, { on := 13, ground := Ground.textOnly Departure.lateStores }, { on := 14, ground := Ground.textOnly Departure.lateStores }, { on := 15, ground := Ground.phase }], guard := none }) rfl (fun K hK => ?_) AllReadyH.nil
          go_simp
          refine hK.out _ (set4 Wx2 wx1.heap.size (.slice Ak n1 ck) (.int .i64 (t1 : Int)) (.bool ov1) (.bool li1)) (sDkT FD7.out FT7.out FU7.out hbS) (fun hHeld2 => ?_)
          clear hK K hHeld
          have hHeld := hHeld2
          clear hHeld2
          try simp only [Act.put, List.setIfInBounds_toArray, List.set_cons_zero, List.set_cons_succ]
          refine wpAnyH_take (i := 17) (oi := { dst := some 10, op := Op.assign (Operand.tmp 47), type := 53, pos := "law.go:128", after := #[{ on := 13, ground := Ground.data }, { on := 16, ground := Ground.chain }, { on := 0, ground := Ground.phase }, { on := 1, ground := Ground.phase }, { on := 2, ground := Ground.phase }, { on := 3, ground := Ground.phase }, { on := 4, ground := Ground.phase }, { on := 5, ground := Ground.phase }, { on := 6, ground := Ground.phase }, { on := 7, ground := Ground.phase }, { on := 8, ground := Ground.phase }, { on := 9, ground := Ground.phase }, { on := 10, ground := Ground.phase }, { on := 11, ground := Ground.phase }, { on := 12, ground := Ground.phase }, { on := 13, ground := Ground.phase }, { on := 14, ground := Ground.textOnly Departure.lateStores }, { on := 15, ground := Ground.phase }, { on := 16, ground := Ground.phase }], guard := none }) (v := .slice Bk me dk) rfl (by kernel_rfl) (by kernel_rfl) (by kernel_rfl) (fun _ _ _ h => h) (Or.inl ⟨by rfl, fun W hW => ?_⟩) hHeld ?_
          · obtain ⟨q0, q1, q2, q3, q4, q5, q6, q7, q8, q9⟩ := hW
            go_simp
          simp only [Act.put, List.setIfInBounds_toArray, List.set_cons_zero, List.set_cons_succ]
          refine wpAnyH_take (i := 18) (oi := { dst := some 11, op := Op.assign (Operand.tmp 48), type := 4, pos := "law.go:128", after := #[{ on := 14, ground := Ground.data }, { on := 17, ground := Ground.chain }, { on := 0, ground := Ground.phase }, { on := 1, ground := Ground.phase }, { on := 2, ground := Ground.phase }, { on := 3, ground := Ground.phase }, { on := 4, ground := Ground.phase }, { on := 5, ground := Ground.phase }, { on := 6, ground := Ground.phase }, { on := 7, ground := Ground.phase }, { on := 8, ground := Ground.phase }, { on := 9, ground := Ground.phase }, { on := 10, ground := Ground.phase }, { on := 11, ground := Ground.phase }, { on := 12, ground := Ground.phase }, { on := 13, ground := Ground.phase }, { on := 14, ground := Ground.phase }, { on := 15, ground := Ground.phase }, { on := 16, ground := Ground.phase }, { on := 17, ground := Ground.phase }], guard := none }) (v := .bool bell) rfl (by kernel_rfl) (by kernel_rfl) (by kernel_rfl) (fun _ _ _ h => h) (Or.inl ⟨by rfl, fun W hW => ?_⟩) hHeld ?_
          · obtain ⟨q0, q1, q2, q3, q4, q5, q6, q7, q8, q9⟩ := hW
            go_simp
          simp only [Act.put, List.setIfInBounds_toArray, List.set_cons_zero, List.set_cons_succ]
          refine wpAnyH_done (by kernel_rfl) ?_ _
          go_wp2_with fail
          go_meet
          exact ⟨_, _, _, rfl, rfl, rfl, HM⟩
        · go_simp
          have hbx3 : Below V6.heap.size V6 ((V6.alloc (.cells #[.slice none 0 0, .int .i64 0, .bool false, .bool false] 32)).drew) := bAlloc (Below.refl V6.heap.size V6).drew (.cells #[.slice none 0 0, .int .i64 0, .bool false, .bool false] 32)
          have hzx3 : SR 32 ((V6.alloc (.cells #[.slice none 0 0, .int .i64 0, .bool false, .bool false] 32)).drew) (V6.heap.size) [.slice none 0 0, .int .i64 0, .bool false, .bool false] := SR.new 32 (V6) [.slice none 0 0, .int .i64 0, .bool false, .bool false]
          have hvx3 : V6.heap.size ≤ V6.heap.size := by have h0 := Below.size (Below.refl V6.heap.size V6).drew; exact h0
          refine hK.out _ _ (sDkT FD7.out FT7.out FU7.out hbx3) (fun hHeld2 => ?_)
          clear hK K hHeld
          have hHeld := hHeld2
          clear hHeld2
          try simp only [Act.put, List.setIfInBounds_toArray, List.set_cons_zero, List.set_cons_succ]
          generalize hWx3 : (V6.alloc (.cells #[.slice none 0 0, .int .i64 0, .bool false, .bool false] 32)).drew = Wx3 at *
          clear hWx3
          refine wpAnyH_ready (rs := [10]) (by kernel_rfl) (by simp) ?_
          refine AllReadyH.cons (o := { dst := some 45, op := Op.call { callee := Callee.value (Operand.func 20), args := #[Operand.tmp 36, Operand.tmp 38, Operand.tmp 40, Operand.tmp 44], argTypes := #[25, 3, 32, 5] }, type := 56, pos := "law.go:128", after := #[{ on := 1, ground := Ground.data }, { on := 3, ground := Ground.data }, { on := 5, ground := Ground.data }, { on := 9, ground := Ground.data }], guard := none }) rfl (fun K hK => ?_) AllReadyH.nil
          go_simp
          with_reducible refine (CK.out Wx3 hbx3).mono ?_
          rintro e wx4 ⟨Ak, ck, Bk, dk, Lk, rfl, e1x, e2x, _, hyx4, hcx4⟩
          have hbx4 : Below V6.heap.size V6 wx4 := bCall hbx3 hcx4
          have hzx4_15 := SR.call hzx3 hcx4 (hzx3).lt
          go_wp2_with fail
          refine hK.out _ _ (sDkT FD7.out FT7.out FU7.out hbx4) (fun hHeld2 => ?_)
          clear hK K hHeld
          have hHeld := hHeld2
          clear hHeld2
          try simp only [Act.put, List.setIfInBounds_toArray, List.set_cons_zero, List.set_cons_succ]
          refine wpAnyH_take (i := 11) (oi := { dst := some 34, op := Op.move (Operand.tmp 45), type := 56, pos := "law.go:128", after := #[{ on := 10, ground := Ground.data }], guard := none }) (v := .tuple #[.agg #[.slice Ak n1 ck, .int .i64 (t1 : Int), .bool ov1, .bool li1], .slice Bk me dk, .bool bell]) rfl (by kernel_rfl) (by kernel_rfl) (by kernel_rfl) (fun _ _ _ h => h) (Or.inl ⟨by rfl, fun W hW => ?_⟩) hHeld ?_
          · obtain ⟨q0, q1, q2, q3, q4, q5, q6, q7, q8, q9⟩ := hW
            go_simp
          simp only [Act.put, List.setIfInBounds_toArray, List.set_cons_zero, List.set_cons_succ]
          refine wpAnyH_take (i := 12) (oi := { dst := some 46, op := Op.extract (Operand.tmp 34) 0, type := 32, pos := "law.go:128", after := #[{ on := 11, ground := Ground.data }], guard := none }) (v := .agg #[.slice Ak n1 ck, .int .i64 (t1 : Int), .bool ov1, .bool li1]) rfl (by kernel_rfl) (by kernel_rfl) (by kernel_rfl) (fun _ _ _ h => h) (Or.inl ⟨by rfl, fun W hW => ?_⟩) hHeld ?_
          · obtain ⟨q0, q1, q2, q3, q4, q5, q6, q7, q8, q9⟩ := hW
            go_simp
          simp only [Act.put, List.setIfInBounds_toArray, List.set_cons_zero, List.set_cons_succ]
          refine wpAnyH_take (i := 13) (oi := { dst := some 47, op := Op.extract (Operand.tmp 34) 1, type := 53, pos := "law.go:128", after := #[{ on := 11, ground := Ground.data }, { on := 16, ground := Ground.gcOnly Departure.lateStores }], guard := none }) (v := .slice Bk me dk) rfl (by kernel_rfl) (by kernel_rfl) (by kernel_rfl) (fun _ _ _ h => h) (Or.inl ⟨by rfl, fun W hW => ?_⟩) hHeld ?_
          · obtain ⟨q0, q1, q2, q3, q4, q5, q6, q7, q8, q9⟩ := hW
            go_simp
          simp only [Act.put, List.setIfInBounds_toArray, List.set_cons_zero, List.set_cons_succ]
          refine wpAnyH_take (i := 14) (oi := { dst := some 48, op := Op.extract (Operand.tmp 34) 2, type := 4, pos := "law.go:128", after := #[{ on := 11, ground := Ground.data }, { on := 17, ground := Ground.gcOnly Departure.lateStores }], guard := none }) (v := .bool bell) rfl (by kernel_rfl) (by kernel_rfl) (by kernel_rfl) (fun _ _ _ h => h) (Or.inl ⟨by rfl, fun W hW => ?_⟩) hHeld ?_
          · obtain ⟨q0, q1, q2, q3, q4, q5, q6, q7, q8, q9⟩ := hW
            go_simp
          simp only [Act.put, List.setIfInBounds_toArray, List.set_cons_zero, List.set_cons_succ]
          obtain ⟨y0, y1, y2, y3, y4, y5, y6, y7, y8⟩ := st_facts hzx4_15
          have hbS : Below V6.heap.size V6 (set4 wx4 V6.heap.size (.slice Ak n1 ck) (.int .i64 (t1 : Int)) (.bool ov1) (.bool li1)) := set4_below hbx4 hvx3
          have HM := keepd (midk hzx4_15 hvx3 hbx4 e1x e2x hyx4 (.slice Ak n1 ck) (.int .i64 (t1 : Int)) (.bool ov1) (.bool li1))
          refine wpAnyH_ready (rs := [16]) (by kernel_rfl) (by simp) ?_
          refine AllReadyH.cons (o := { dst := none, op := Op.store 32 (Operand.tmp 9) (Operand.tmp 46), type := 0, pos := "law.go:128", after := #[{ on := 15, ground := Ground.data }, { on := 12, ground := Ground.data }, { on := 10, ground := Ground.chain }, { on := 0, ground := Ground.phase }, { on := 1, ground := Ground.phase }, { on := 2, ground := Ground.phase }, { on := 3, ground := Ground.phase }, { on := 4, ground := Ground.phase }, { on := 5, ground := Ground.phase }, { on := 6, ground := Ground.phase }, { on := 7, ground := Ground.phase }, { on := 8, ground := Ground.phase }, { on := 9, ground := Ground.phase }, { on := 10, ground := Ground.phase }, { on := 11, ground := Ground.phase }, { on := 12, ground := Ground.phase }, { on := 13, ground := Ground.textOnly Departure.lateStores }, { on := 14, ground := Ground.textOnly Departure.lateStores }, { on := 15, ground := Ground.phase }], guard := none }) rfl (fun K hK => ?_) AllReadyH.nil
          go_simp
          refine hK.out _ (set4 wx4 V6.heap.size (.slice Ak n1 ck) (.int .i64 (t1 : Int)) (.bool ov1) (.bool li1)) (sDkT FD7.out FT7.out FU7.out hbS) (fun hHeld2 => ?_)
          clear hK K hHeld
          have hHeld := hHeld2
          clear hHeld2
          try simp only [Act.put, List.setIfInBounds_toArray, List.set_cons_zero, List.set_cons_succ]
          refine wpAnyH_take (i := 17) (oi := { dst := some 10, op := Op.assign (Operand.tmp 47), type := 53, pos := "law.go:128", after := #[{ on := 13, ground := Ground.data }, { on := 16, ground := Ground.chain }, { on := 0, ground := Ground.phase }, { on := 1, ground := Ground.phase }, { on := 2, ground := Ground.phase }, { on := 3, ground := Ground.phase }, { on := 4, ground := Ground.phase }, { on := 5, ground := Ground.phase }, { on := 6, ground := Ground.phase }, { on := 7, ground := Ground.phase }, { on := 8, ground := Ground.phase }, { on := 9, ground := Ground.phase }, { on := 10, ground := Ground.phase }, { on := 11, ground := Ground.phase }, { on := 12, ground := Ground.phase }, { on := 13, ground := Ground.phase }, { on := 14, ground := Ground.textOnly Departure.lateStores }, { on := 15, ground := Ground.phase }, { on := 16, ground := Ground.phase }], guard := none }) (v := .slice Bk me dk) rfl (by kernel_rfl) (by kernel_rfl) (by kernel_rfl) (fun _ _ _ h => h) (Or.inl ⟨by rfl, fun W hW => ?_⟩) hHeld ?_
          · obtain ⟨q0, q1, q2, q3, q4, q5, q6, q7, q8, q9⟩ := hW
            go_simp
          simp only [Act.put, List.setIfInBounds_toArray, List.set_cons_zero, List.set_cons_succ]
          refine wpAnyH_take (i := 18) (oi := { dst := some 11, op := Op.assign (Operand.tmp 48), type := 4, pos := "law.go:128", after := #[{ on := 14, ground := Ground.data }, { on := 17, ground := Ground.chain }, { on := 0, ground := Ground.phase }, { on := 1, ground := Ground.phase }, { on := 2, ground := Ground.phase }, { on := 3, ground := Ground.phase }, { on := 4, ground := Ground.phase }, { on := 5, ground := Ground.phase }, { on := 6, ground := Ground.phase }, { on := 7, ground := Ground.phase }, { on := 8, ground := Ground.phase }, { on := 9, ground := Ground.phase }, { on := 10, ground := Ground.phase }, { on := 11, ground := Ground.phase }, { on := 12, ground := Ground.phase }, { on := 13, ground := Ground.phase }, { on := 14, ground := Ground.phase }, { on := 15, ground := Ground.phase }, { on := 16, ground := Ground.phase }, { on := 17, ground := Ground.phase }], guard := none }) (v := .bool bell) rfl (by kernel_rfl) (by kernel_rfl) (by kernel_rfl) (fun _ _ _ h => h) (Or.inl ⟨by rfl, fun W hW => ?_⟩) hHeld ?_
          · obtain ⟨q0, q1, q2, q3, q4, q5, q6, q7, q8, q9⟩ := hW
            go_simp
          simp only [Act.put, List.setIfInBounds_toArray, List.set_cons_zero, List.set_cons_succ]
          refine wpAnyH_done (by kernel_rfl) ?_ _
          go_wp2_with fail
          go_meet
          exact ⟨_, _, _, rfl, rfl, rfl, HM⟩
      case rest =>
        obtain ⟨bk, Bx, dx, rfl, rfl, rfl, HM7⟩ := hcut
        obtain ⟨V7, hV7⟩ : ∃ V7, V7 = wc := ⟨_, rfl⟩
        subst hV7
        obtain ⟨⟨Lx, e1, e2, e3⟩, m5⟩ := HM7.out
        have HE7 := keepd e3
        have HLX := keepd e1
        have HK57 := keepd (SR.call HK56.out m5 HK56.out.lt)
        have HBV7 := keepd (bCall HBV6.out m5)
        have HM17 := keepd (SR.call HM1.out m5 HM1.out.lt)
        have HM27 := keepd (SR.call HM2.out m5 HM2.out.lt)
        have HM37 := keepd (HM3.out.at_ m5)
        have HM47 := keepd (HM4.out.at_ m5)
        have hbA7 : bA < V7.heap.size := Nat.lt_of_lt_of_le hbA6 m5.size
        have FU8 : Hid (V7.cell? ⟨bA, offA + i, none⟩ = some (.int .u8 (u.toNat : Int))) := (m5.cell (p := ⟨bA, offA + i, none⟩) hbA6).trans FU7.out.1
        clear e1 e2 e3 m5 HM7 CK FD7 FT7 FU7 HK56 HR56 HBV6 HM1 HM2 HM3 HM4 hbA6
        obtain ⟨k0, k1, k2, k3, k4, _, _, _, _, _, kt⟩ := tk_facts HM17.out
        have CZ := keepd (CZx.out V7 Ay cy HM37.out)
        go_wp2_with fail
        with_reducible refine CZ.out.mono ?_
        rintro e w8 ⟨rfl, hb8⟩
        have HE8 := keepd (HE7.out.at_ hb8)
        have HK58 := keepd (SR.call HK57.out hb8 HK57.out.lt)
        have HBV8 := keepd (bCall HBV7.out hb8)
        have HM18 := keepd (SR.call HM17.out hb8 HM17.out.lt)
        have HM28 := keepd (SR.call HM27.out hb8 HM27.out.lt)
        have HM38 := keepd (HM37.out.at_ hb8)
        have HM48 := keepd (HM47.out.at_ hb8)
        have hu8 : w8.cell? ⟨bA, offA + i, none⟩ = some (.int .u8 (u.toNat : Int)) := (hb8.cell (p := ⟨bA, offA + i, none⟩) hbA7).trans FU8.out
        clear hb8 CZ CZx FU8 HE7 HK57 HBV7 HM17 HM27 HM37 HM47 k0 k1 k2 k3 k4 kt hbA7
        obtain ⟨k0, k1, k2, k3, k4, _, _, _, _, _, kt⟩ := tk_facts HM18.out
        obtain ⟨f0, f1, f2, _, _, _, ft⟩ := ty_facts HM28.out
        have HCH : Hid (((mk : Int) == 0) = h1 ∧ mk ≤ 3 * n + 3) := by
          rcases HED.out with ⟨a1, a2, a3⟩ | ⟨kx, a1, a2, a3⟩
          · have b0 := HMK.out
            rw [a1] at b0
            rw [a2, ← show 0 = mk from b0]
            exact ⟨rfl, by omega⟩
          · have b0 := HMK.out
            rw [a1, List.length_append, List.length_singleton] at b0
            rw [a3]
            exact ⟨by simp; omega, by omega⟩
        go_upto_region 9 with fail
        go_cut [91] from 53 to 91 (fun s91 wx => s91 = .bool false ∧ ∃ k, w8.drewN k = wx)
        case first =>
          rcases HED.out with ⟨a1, a2, a3⟩ | ⟨kx, a1, a2, a3⟩
          · obtain rfl : mk = 0 := by rw [← show ks.length = mk from HMK.out, a1]; rfl
            obtain rfl : me = 0 := by rw [← show es.length = me from HME.out, a3]; rfl
            clear a1 a2 a3
            go_quiet (fail)
            go_wp2_with fail
            go_meet
            exact ⟨rfl, _, rfl⟩
          · obtain ⟨j, hj⟩ : ∃ j, kx.length = j := ⟨_, rfl⟩
            have hmj : mk = j + 1 := by rw [← show ks.length = mk from HMK.out, a1, List.length_append, hj]; rfl
            have hr4 := HM48.out
            rw [a1] at hr4
            obtain ⟨bB, oB, hB, hbB, hcB⟩ := last_cell hr4
            subst hB
            rw [hj] at hcB
            obtain rfl : h1 = false := a3
            have x0 : (mk : Int) > 0 := by omega
            have x4 : (0 : Int) < (mk : Int) := by omega
            have x5 : 0 < mk := by omega
            have x1 : (0 : Int) ≤ (j : Int) := by omega
            have x2 : (j : Int) < (mk : Int) := by omega
            have x3 : (mk : Int) - 1 = (j : Int) := by omega
            have x6 : wrap64 (j : Int) = (j : Int) := by have h0 := HCH.out.2; have h3 := HNN.out; unfold wrap64; omega
            clear hr4 hj a1 a2 hmj
            by_cases hme1 : me = 1
            · obtain ⟨x, hx⟩ : ∃ x, es = [x] := List.length_eq_one_iff.1 (by rw [show es.length = me from HME.out]; exact hme1)
              obtain ⟨bE, oE, hE, hbE, hcE⟩ := kind_cell HE8.out (by rw [show Lx.map EvM.abs = es from HLX.out]; exact hx)
              subst hE
              subst hme1
              have y3 : (x.k == 3) = true ∨ ((x.k == 3) = false ∧ qz = true) := by
                cases hk3 : (x.k == 3)
                · exact .inr ⟨rfl, HZER.out x hx (by simpa using hk3)⟩
                · exact .inl rfl
              obtain ⟨xk, hxk⟩ : ∃ xk, x.k = xk := ⟨_, rfl⟩
              rw [hxk] at y3 hcE
              clear hx hxk
              rcases y3 with y3 | ⟨y3, rfl⟩
              · obtain rfl : xk = 3 := by simpa using y3
                clear y3
                go_quiet (fail)
                go_wp2_with fail
                go_meet
                exact ⟨rfl, _, rfl⟩
              · have y4 : (xk != 3) = true := by simp [bne, y3]
                have y5 : ¬ xk = 3 := by simpa using y3
                go_quiet (fail)
                go_wp2_with fail
                go_meet
                exact ⟨rfl, _, rfl⟩
            · have y1 : ((me : Int) == 1) = false := by simp; omega
              have y2 : ¬ (me : Int) = 1 := by omega
              have y3 : ¬ me = 1 := hme1
              go_quiet (fail)
              go_wp2_with fail
              go_meet
              exact ⟨rfl, _, rfl⟩
        case rest =>
          obtain ⟨rfl, nq, rfl⟩ := hcut
          obtain ⟨V8, hV8⟩ : ∃ V8, V8 = w8.drewN nq := ⟨_, rfl⟩
          have HK5q : Hid (SR 34 V8 V0.heap.size [.slice A5 n c5, .int .i64 (t : Int), .bool ov, .bool li, .bool h]) := by rw [hV8]; exact HK58.out
          have HM1q : Hid (SR 34 V8 b [.slice Ay n1 cy, .int .i64 (t1 : Int), .bool ov1, .bool li1, .bool h1]) := by rw [hV8]; exact HM18.out
          have HM2q : Hid (SR 41 V8 y [.slice By mk dy, .int .i64 (sg : Int), .bool bell]) := by rw [hV8]; exact HM28.out
          have HM3q : Hid (Rd V8 V8.heap.size Ay l1 cy) := by rw [hV8]; exact HM38.out.drewN nq
          have HBVq : Hid (Below V0.heap.size V0 V8) := by rw [hV8]; exact bDrewN HBV8.out nq
          rw [← hV8]
          clear hV8 HE8 HK58 HBV8 HM18 HM28 HM38 HM48 hu8 k0 k1 k2 k3 k4 kt f0 f1 f2 ft HLX
          obtain ⟨k0, k1, k2, k3, k4, _, _, _, _, _, kt⟩ := tk_facts HM1q.out
          obtain ⟨j0, j1, j2, j3, j4, r0, r1, r2, r3, r4, jt⟩ := tk_facts HK5q.out
          obtain ⟨f0, f1, f2, _, _, _, ft⟩ := ty_facts HM2q.out
          have c1 := HCH.out.1
          have c2 : ¬ (mk : Int) > 3 * (n : Int) + 3 := by have h0 := HCH.out.2; omega
          have c3 : ¬ 3 * (n : Int) + 3 < (mk : Int) := by omega
          have c4 : (h1 != h1) = false := by simp
          have c5' : 3 * (n : Int) ≤ 100000 := by have h0 := HNN.out; omega
          have hne := HNB.out
          have E := set5_end HK5q.out HBVq.out (Nat.le_refl _) (.slice Ay n1 cy) (.int .i64 (t1 : Int)) (.bool ov1) (.bool li1) (.bool h1)
          have E3 : SR 34 (set5 V8 V0.heap.size (.slice Ay n1 cy) (.int .i64 (t1 : Int)) (.bool ov1) (.bool li1) (.bool h1)) V0.heap.size [.slice Ay n1 cy, .int .i64 (t1 : Int), .bool ov1, .bool li1, .bool h1] := set5_sr HK5q.out
          have HLN : Hid (LI V0 l1 n1 (t1 : Int) ov1 li1 h1 Ay cy (set5 V8 V0.heap.size (.slice Ay n1 cy) (.int .i64 (t1 : Int)) (.bool ov1) (.bool li1) (.bool h1))) := ⟨E3, E.1 _ _ _ HM3q.out, E.2⟩
          have i2 : (i : Int) + 1 ≤ (m : Int) := by omega
          clear E E3
          go_wp2_with fail
          go_roundw
          case rel => exact ⟨i + 1, l1, n1, t1, ov1, li1, h1, Ay, cy, by omega, by go_num, HI1, HLN⟩
          case measure => simp [intOf]; omega

end Go.Proofs.YtlfmbfecajhffaaDoor
