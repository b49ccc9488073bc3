/-
  What a talk has passed on, by the document's own. No conditions beyond those each theorem states.
-/
import Derived.Test.YtlfmbfecajhffaaDoorA10
import Derived.Test.YtlfmbfecajhffaaDoorR7
import Derived.Test.YtlfmbfecajhffaaDoorRB
namespace Go.Proofs.YtlfmbfecajhffaaDoor
open Go.RowKit
set_option maxRecDepth 100000

attribute [local go_sem ↓] ex_ld25 ex_st25 ex_al25 ex_bu25 ex_ix25 ex_eq25 ex_ne25 ex_eq23 ex_ne23 ex_ld25o ex_st65 ex_al65 ex_bu65 ex_bu65s ex_ld25d
attribute [local go_sem] ptrB_at okPtr_at aggC_at agg62 agg69 isC_at isT_at eqV_t eqV_c isRow_new isRow_new65 World.setRow_alloc_new ptr4_at okPtr4_at cutT_at isI_at isS_at bW_at bWs_at ptrD_at okPtrD_at cutD_at

theorem sTk {V W : World} {g p : Nat} {X : Tb} {A : Option Addr} {n c : Nat} {z : Int} {ov li h : Bool} (hT : TB V g X) (hK : SR 34 V p [.slice A n c, .int .i64 z, .bool ov, .bool li, .bool h]) (hb : Below V.heap.size V W) :
    rowOf W g = (cs X).toArray ∧ isRow W 25 g 62 = true ∧ W.cell? ⟨p, 0, none⟩ = some (.slice A n c) ∧ W.cell? ⟨p, 1, none⟩ = some (.int .i64 z) ∧ W.cell? ⟨p, 2, none⟩ = some (.bool ov) ∧ W.cell? ⟨p, 3, none⟩ = some (.bool li) ∧ W.cell? ⟨p, 4, none⟩ = some (.bool h) ∧ Below V.heap.size V W := by
  obtain ⟨a1, a2⟩ := TB.facts (SR.call hT hb (SR.lt hT))
  have h1 := SR.call hK hb hK.lt
  exact ⟨a1, a2, h1.cell 0, h1.cell 1, h1.cell 2, h1.cell 3, h1.cell 4, hb⟩
theorem sOut {V W : World} {g p B0 : Nat} {X : Tb} {A : Option Addr} {n c : Nat} {z : Int} {ov li h : Bool} (hT : TB W g X) (hK : SR 34 W p [.slice A n c, .int .i64 z, .bool ov, .bool li, .bool h]) (hb : Below B0 V W) :
    rowOf W g = (cs X).toArray ∧ isRow W 25 g 62 = true ∧ W.cell? ⟨p, 0, none⟩ = some (.slice A n c) ∧ W.cell? ⟨p, 1, none⟩ = some (.int .i64 z) ∧ W.cell? ⟨p, 2, none⟩ = some (.bool ov) ∧ W.cell? ⟨p, 3, none⟩ = some (.bool li) ∧ W.cell? ⟨p, 4, none⟩ = some (.bool h) ∧ Below B0 V W := by
  obtain ⟨a1, a2⟩ := TB.facts hT
  exact ⟨a1, a2, hK.cell 0, hK.cell 1, hK.cell 2, hK.cell 3, hK.cell 4, hb⟩
/-- What is answered when what a talk has is passed on, by the document's own. -/
def GotRs (w : World) (l : List UInt8) (n : Nat) (z : Int) (ov li h : Bool) (ks : List UInt8) (m : Nat) (e : Ending) (w' : World) : Prop :=
  ∃ A c B d, e = .returned (.tuple #[.agg #[.slice A n c, .int .i64 z, .bool ov, .bool li, .bool h], .slice B m d]) ∧ Rd w' w'.heap.size A l c ∧ Rd w' w'.heap.size B ks d ∧ Below w.heap.size w w'
theorem rkeys_go (X : Tb) (hX : TbO X) (A : Option Addr) (l : List UInt8) (n c : Nat) (z : Int) (ov li : Bool) (w : World) (hn : n = l.length) (hr : Rd w w.heap.size A l c) (hmv : mayV n z = true) (L : List UInt8) (m : Nat) (hL : keysL X ⟨l, z.toNat, ov, li⟩ = L) (hm : L.length = m) :
    Calls Tryd.prog 34 #[tv X, .agg #[.slice A n c, .int .i64 z, .bool ov, .bool li]] w (GotKy w L m) := by
  rw [hn] at hmv
  obtain ⟨h1, h2⟩ := mayV_ok (ov := ov) (li := li) hmv
  have := rkgood_any X hX A l n c z.toNat ov li w hn hr (by rw [hn]; exact h1.1) (by rw [hn]; exact h1.2) L m hL hm
  rw [h2] at this
  exact this
set_option maxHeartbeats 4000000 in
theorem rpass_any (X : Tb) (hX : TbO X) (A : Option Addr) (l : List UInt8) (n c : Nat) (z : Int) (ov li h : Bool) (w : World) (hn : n = l.length) (hr : Rd w w.heap.size A l c)
    (h' : Bool) (hh : passH n z h = h') (ks : List UInt8) (hk : passK X l z ov li h = ks) (m : Nat) (hm : ks.length = m) :
    Calls Tryd.prog 12 #[tv X, .agg #[.slice A n c, .int .i64 z, .bool ov, .bool li, .bool h]] w (GotRs w l n z ov li h' ks m) := by
  obtain ⟨q, hq⟩ : ∃ q, mayV n z = q := ⟨_, rfl⟩
  have CM := keepd fun W : World => ermay_any A n c z ov li q W hq
  unfold passH at hh
  unfold passK at hk
  rw [← hn, hq] at hk
  rw [hq] at hh
  have HR := keepd hr
  have HN := keepd hn
  have HX := keepd hX
  have HM := keepd hm
  have HQ := keepd hq
  have HH := keepd hh
  have HK := keepd hk
  clear hX hn hr hh hk hm hq
  go_enter Tryd.func12, Tryd.ntmps12
  go_upto_region 1 with fail
  generalize hV : ((w.alloc (.cells (cs X).toArray 25)).alloc (.cells #[.slice A n c, .int .i64 z, .bool ov, .bool li, .bool h] 34)).alloc (.cells #[.slice none 0 0, .int .i64 0, .bool false, .bool false, .bool false] 34) = V
  obtain ⟨HT, HS, HZ, HB⟩ := ptk_new _ _ _ _ _ _ _ _ _ _ _ _ _ hV
  obtain ⟨k0, k1, k2, k3, k4, _, _, _, _, _, kt⟩ := tk_facts HS.out
  clear hV
  have fin : ∀ w1 : World, Below V.heap.size V w1 → ks = [] → h = h' → GotRs w l n z ov li h' ks m (.returned (.tuple #[.agg #[.slice A n c, .int .i64 z, .bool ov, .bool li, .bool h], .slice none 0 0])) (set5 w1 (w.heap.size + 1 + 1) (.slice A n c) (.int .i64 z) (.bool ov) (.bool li) (.bool h)) := by
    intro w1 hb hk hh
    subst hh
    obtain ⟨E1, E2⟩ := set5_end (SR.call HZ.out hb HZ.out.lt) (bCall HB.out hb) (by omega) (.slice A n c) (.int .i64 z) (.bool ov) (.bool li) (.bool h)
    have hm0 := HM.out
    rw [hk] at hm0 ⊢
    obtain rfl : m = 0 := hm0.symm
    exact ⟨A, c, none, 0, rfl, E1 _ _ _ (HR.out.at_ (bCall HB.out hb)), Rd.nil _ _, E2⟩
  have FIN := keepd fin
  clear fin
  cases q
  case false =>
    go_wp2_with fail
    with_reducible refine (CM.out _).mono ?_
    rintro e w1 ⟨rfl, hb1⟩
    have F := keepd (FIN.out w1 hb1 HK.out.symm HH.out)
    clear k0 k1 k2 k3 k4 kt
    obtain ⟨k0, k1, k2, k3, k4, _, _, _, _, _, kt⟩ := tk_facts (SR.call HS.out hb1 HS.out.lt)
    obtain ⟨j0, j1, j2, j3, j4, r0, r1, r2, r3, r4, jt⟩ := tk_facts (SR.call HZ.out hb1 HZ.out.lt)
    clear hb1
    go_wp2_with fail
    refine bodyPost_ret (v := .tuple #[.agg #[.slice A n c, .int .i64 z, .bool ov, .bool li, .bool h], .slice none 0 0]) (by simp [results, Tryd.results12, go_sem, j0, j1, j2, j3, j4]) rfl ?_
    exact F.out
  case true =>
    cases h
    case false =>
      go_wp2_with fail
      with_reducible refine (CM.out _).mono ?_
      rintro e w1 ⟨rfl, hb1⟩
      have F := keepd (FIN.out w1 hb1 HK.out.symm HH.out)
      clear k0 k1 k2 k3 k4 kt
      obtain ⟨k0, k1, k2, k3, k4, _, _, _, _, _, kt⟩ := tk_facts (SR.call HS.out hb1 HS.out.lt)
      obtain ⟨j0, j1, j2, j3, j4, r0, r1, r2, r3, r4, jt⟩ := tk_facts (SR.call HZ.out hb1 HZ.out.lt)
      clear hb1
      go_wp2_with fail
      refine bodyPost_ret (v := .tuple #[.agg #[.slice A n c, .int .i64 z, .bool ov, .bool li, .bool false], .slice none 0 0]) (by simp [results, Tryd.results12, go_sem, j0, j1, j2, j3, j4]) rfl ?_
      exact F.out
    case true =>
      go_wp2_with fail
      with_reducible refine (CM.out _).mono ?_
      rintro e w1 ⟨rfl, hb1⟩
      have HT1 := keepd (SR.call HT.out hb1 (SR.lt HT.out))
      have HS1 := keepd (SR.call HS.out hb1 HS.out.lt)
      have HZ1 := keepd (SR.call HZ.out hb1 HZ.out.lt)
      have HB1 := keepd (bCall HB.out hb1)
      have CK := keepd fun (W : World) (hb : Below w1.heap.size w1 W) => rkeys_go X HX.out A l n c z ov li W HN.out ((HR.out.at_ HB1.out).at_ hb) HQ.out ks m HK.out HM.out
      clear k0 k1 k2 k3 k4 kt hb1 HT HS HZ HB FIN CM
      obtain ⟨k0, k1, k2, k3, k4, _, _, _, _, _, kt⟩ := tk_facts HS1.out
      obtain ⟨q0, q1⟩ := TB.facts HT1.out
      have LT1 := keepd (SR.lt HT1.out)
      have LZ1 := keepd HZ1.out.lt
      go_upto_region 3 with fail
      refine wp_region_held_drew (S := fun W => rowOf W w.heap.size = (cs X).toArray ∧ isRow W 25 w.heap.size 62 = true ∧ W.cell? ⟨w.heap.size + 1, 0, none⟩ = some (.slice A n c) ∧ W.cell? ⟨w.heap.size + 1, 1, none⟩ = some (.int .i64 z) ∧ W.cell? ⟨w.heap.size + 1, 2, none⟩ = some (.bool ov) ∧ W.cell? ⟨w.heap.size + 1, 3, none⟩ = some (.bool li) ∧ W.cell? ⟨w.heap.size + 1, 4, none⟩ = some (.bool true) ∧ Below w.heap.size w W) (by kernel_rfl) (let hb9 := (Below.refl w1.heap.size w1).drew; sOut (SR.call HT1.out hb9 LT1.out) (SR.call HS1.out hb9 HS1.out.lt) (bCall HB1.out hb9)) (fun hHeld => ?_)
      refine wpAnyH_take (i := 0) (oi := { dst := some 16, op := Op.fieldAddr 34 (Operand.tmp 3) 0, type := 0, pos := "ref.go:19", after := #[], guard := none }) (v := .pointer (some ⟨w.heap.size + 1, 0, none⟩)) rfl (by kernel_rfl) (by kernel_rfl) (by kernel_rfl) (fun _ _ _ h => h) (Or.inl ⟨by rfl, fun W hW => ?_⟩) hHeld ?_
      · obtain ⟨q0, q1, q2, q3, q4, q5, q6, q7⟩ := hW
        go_simp
      simp only [Act.put, List.setIfInBounds_toArray, List.set_cons_zero, List.set_cons_succ]
      refine wpAnyH_take (i := 1) (oi := { dst := some 17, op := Op.load 32 (Operand.tmp 16), type := 32, pos := "ref.go:19", after := #[{ on := 0, ground := Ground.data }], guard := none }) (v := .agg #[.slice A n c, .int .i64 z, .bool ov, .bool li]) rfl (by kernel_rfl) (by kernel_rfl) (by kernel_rfl) (fun _ _ _ h => h) (Or.inl ⟨by rfl, fun W hW => ?_⟩) hHeld ?_
      · obtain ⟨q0, q1, q2, q3, q4, q5, q6, q7⟩ := hW
        go_simp
      simp only [Act.put, List.setIfInBounds_toArray, List.set_cons_zero, List.set_cons_succ]
      refine wpAnyH_take (i := 2) (oi := { dst := some 18, op := Op.build 34 #[(0, Operand.tmp 17)], type := 34, pos := "ref.go:19", after := #[{ on := 1, ground := Ground.data }], guard := none }) (v := .agg #[.slice A n c, .int .i64 z, .bool ov, .bool li, .bool false]) rfl (by kernel_rfl) (by kernel_rfl) (by kernel_rfl) (fun _ _ _ h => h) (Or.inl ⟨by rfl, fun W hW => ?_⟩) hHeld ?_
      · obtain ⟨q0, q1, q2, q3, q4, q5, q6, q7⟩ := hW
        go_simp
      simp only [Act.put, List.setIfInBounds_toArray, List.set_cons_zero, List.set_cons_succ]
      refine wpAnyH_take (i := 3) (oi := { dst := some 19, op := Op.load 25 (Operand.tmp 2), type := 25, pos := "ref.go:19", after := #[], guard := none }) (v := tv X) rfl (by kernel_rfl) (by kernel_rfl) (by kernel_rfl) (fun _ _ _ h => h) (Or.inl ⟨by rfl, fun W hW => ?_⟩) hHeld ?_
      · obtain ⟨q0, q1, q2, q3, q4, q5, q6, q7⟩ := hW
        go_simp
      simp only [Act.put, List.setIfInBounds_toArray, List.set_cons_zero, List.set_cons_succ]
      refine wpAnyH_take (i := 4) (oi := { dst := some 20, op := Op.fieldAddr 34 (Operand.tmp 3) 0, type := 0, pos := "ref.go:19", after := #[], guard := none }) (v := .pointer (some ⟨w.heap.size + 1, 0, none⟩)) rfl (by kernel_rfl) (by kernel_rfl) (by kernel_rfl) (fun _ _ _ h => h) (Or.inl ⟨by rfl, fun W hW => ?_⟩) hHeld ?_
      · obtain ⟨q0, q1, q2, q3, q4, q5, q6, q7⟩ := hW
        go_simp
      simp only [Act.put, List.setIfInBounds_toArray, List.set_cons_zero, List.set_cons_succ]
      refine wpAnyH_take (i := 5) (oi := { dst := some 21, op := Op.load 32 (Operand.tmp 20), type := 32, pos := "ref.go:19", after := #[{ on := 4, ground := Ground.data }], guard := none }) (v := .agg #[.slice A n c, .int .i64 z, .bool ov, .bool li]) rfl (by kernel_rfl) (by kernel_rfl) (by kernel_rfl) (fun _ _ _ h => h) (Or.inl ⟨by rfl, fun W hW => ?_⟩) hHeld ?_
      · obtain ⟨q0, q1, q2, q3, q4, q5, q6, q7⟩ := hW
        go_simp
      simp only [Act.put, List.setIfInBounds_toArray, List.set_cons_zero, List.set_cons_succ]
      refine wpAnyH_ready (rs := [6]) (by kernel_rfl) (by simp) ?_
      refine AllReadyH.cons (o := { dst := some 22, op := Op.call { callee := Callee.value (Operand.func 34), args := #[Operand.tmp 19, Operand.tmp 21], argTypes := #[25, 32] }, type := 28, pos := "ref.go:19", after := #[{ on := 3, ground := Ground.data }, { on := 5, ground := Ground.data }], guard := none }) rfl (fun K hK => ?_) AllReadyH.nil
      go_simp
      with_reducible refine (CK.out (w1).drew (Below.refl w1.heap.size w1).drew).mono ?_
      rintro e wx1 ⟨⟨A2, c2, rfl, hox1⟩, hcx1⟩
      have hbx1 : Below w1.heap.size w1 wx1 := bCall (Below.refl w1.heap.size w1).drew hcx1
      have hrx1 := hox1.rdOf
      go_wp2_with fail
      refine hK.out _ _ (let hb9 := hbx1; sOut (SR.call HT1.out hb9 LT1.out) (SR.call HS1.out hb9 HS1.out.lt) (bCall HB1.out hb9)) (fun hHeld2 => ?_)
      clear hK K hHeld
      have hHeld := hHeld2
      clear hHeld2
      try simp only [Act.put, List.setIfInBounds_toArray, List.set_cons_zero, List.set_cons_succ]
      have hZ9 := SR.call HZ1.out hbx1 LZ1.out
      obtain ⟨j0, j1, j2, j3, j4, r0, r1, r2, r3, r4, jt⟩ := tk_facts hZ9
      have hT9 := SR.call HT1.out hbx1 LT1.out
      have hS9 := SR.call HS1.out hbx1 HS1.out.lt
      have hB9 := bCall HB1.out hbx1
      obtain ⟨E1, E2⟩ := set5_end hZ9 hB9 (by omega) (.slice A n c) (.int .i64 z) (.bool ov) (.bool li) (.bool false)
      have HE1 := keepd (E1 _ _ _ hrx1)
      have HE3 := keepd (E1 _ _ _ ((HR.out.at_ HB1.out).at_ hbx1))
      have HE2 := keepd E2
      have HE4 : Hid (SR 34 (set5 wx1 (w.heap.size + 1 + 1) (.slice A n c) (.int .i64 z) (.bool ov) (.bool li) (.bool false)) (w.heap.size + 1 + 1) [.slice A n c, .int .i64 z, .bool ov, .bool li, .bool false]) := set5_sr hZ9
      refine wpAnyH_ready (rs := [7]) (by kernel_rfl) (by simp) ?_
      refine AllReadyH.cons (o := { dst := none, op := Op.store 34 (Operand.tmp 4) (Operand.tmp 18), type := 0, pos := "ref.go:19", after := #[{ on := 2, ground := Ground.data }, { on := 6, ground := Ground.chain }, { on := 0, ground := Ground.phase }, { on := 1, ground := Ground.phase }, { on := 2, ground := Ground.phase }, { on := 3, ground := Ground.textOnly Departure.lateStores }, { on := 4, ground := Ground.textOnly Departure.lateStores }, { on := 5, ground := Ground.textOnly Departure.lateStores }, { on := 6, ground := Ground.textOnly Departure.lateStoresUnsure }], guard := none }) rfl (fun K hK => ?_) AllReadyH.nil
      go_simp
      refine hK.out _ (set5 wx1 (w.heap.size + 1 + 1) (.slice A n c) (.int .i64 z) (.bool ov) (.bool li) (.bool false)) (sOut (set5_far hT9 (by omega)) (set5_far hS9 (by omega)) HE2.out) (fun hHeld2 => ?_)
      clear hK K hHeld
      have hHeld := hHeld2
      clear hHeld2
      try simp only [Act.put, List.setIfInBounds_toArray, List.set_cons_zero, List.set_cons_succ]
      refine wpAnyH_take (i := 8) (oi := { dst := some 5, op := Op.assign (Operand.tmp 22), type := 28, pos := "ref.go:19", after := #[{ on := 6, ground := Ground.data }, { on := 7, ground := Ground.chain }, { on := 0, ground := Ground.phase }, { on := 1, ground := Ground.phase }, { on := 2, ground := Ground.phase }, { on := 3, ground := Ground.phase }, { on := 4, ground := Ground.phase }, { on := 5, ground := Ground.phase }, { on := 6, ground := Ground.phase }, { on := 7, ground := Ground.phase }], guard := none }) (v := .slice A2 m c2) rfl (by kernel_rfl) (by kernel_rfl) (by kernel_rfl) (fun _ _ _ h => h) (Or.inl ⟨by rfl, fun W hW => ?_⟩) hHeld ?_
      · obtain ⟨q0, q1, q2, q3, q4, q5, q6, q7⟩ := hW
        go_simp
      simp only [Act.put, List.setIfInBounds_toArray, List.set_cons_zero, List.set_cons_succ]
      refine wpAnyH_done (by kernel_rfl) ?_ _
      clear j0 j1 j2 j3 j4 r0 r1 r2 r3 r4 jt
      obtain ⟨j0, j1, j2, j3, j4, _, _, _, _, _, jt⟩ := tk_facts HE4.out
      obtain rfl : false = h' := HH.out
      go_wp2_with fail
      refine bodyPost_ret (v := .tuple #[.agg #[.slice A n c, .int .i64 z, .bool ov, .bool li, .bool false], .slice A2 m c2]) (by simp [results, Tryd.results12, go_sem, j0, j1, j2, j3, j4]) rfl ?_
      exact ⟨A, c, A2, c2, rfl, HE3.out, HE1.out, HE2.out⟩

end Go.Proofs.YtlfmbfecajhffaaDoor
