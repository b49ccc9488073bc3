/-
  What is answered of keys, in new memory. No conditions beyond those each theorem states.
-/
import Derived.Test.YtlfmbfecajhffaaDoorF9
namespace Go.Proofs.YtlfmbfecajhffaaDoor.Fr
open Go.RowKit
set_option maxRecDepth 100000

attribute [local go_sem ↓] ex_ld25 ex_st25 ex_al25 ex_bu25 ex_ix25 ex_eq25 ex_ne25 ex_eq23 ex_ne23 ex_ld25o ex_st65 ex_al65 ex_bu65 ex_bu65s
attribute [local go_sem] ptrB_at okPtr_at aggC_at agg62 agg69 isC_at isT_at eqV_t eqV_c isRow_new isRow_new65 World.setRow_alloc_new ptr4_at okPtr4_at cutT_at isI_at isS_at bW_at bWs_at

/-- What is answered of keys, as GotP, and the row of events lies in no block that was there. -/
def GotPF (w : World) (l : List UInt8) (n : Nat) (z : Int) (ov li : Bool) (es : List Ev) (m : Nat) (be : Int) (e : Ending) (w' : World) : Prop :=
  ∃ A c B d L, e = .returned (.tuple #[.agg #[.slice A n c, .int .i64 z, .bool ov, .bool li], .slice B m d, .int .i64 be]) ∧ L.map EvM.abs = es ∧ L.length = m ∧ Rd w' w'.heap.size A l c ∧ RdE w' B L d ∧ Below w.heap.size w w' ∧ (∀ g, (Value.slice B m d).ownBlock = some g → w.heap.size ≤ g) ∧ Frs w A ∧ ∀ x ∈ L, Frs w x.A

set_option maxHeartbeats 8000000 in
theorem play_own (X : Tb) (room : Int) (A : Option Addr) (l : List UInt8) (n c t : Nat) (ov li : Bool) (K : Option Addr) (us : List UInt8) (k d : Nat) (w : World) (hn : n = l.length) (hr : Rd w w.heap.size A l c) (h1 : t ≤ n) (h2 : n ≤ 4096)
    (hk : k = us.length) (hu : Rd w w.heap.size K us d) (hus : k ≤ 50000) (l' : List UInt8) (n' t' : Nat) (ov' li' : Bool) (es : List Ev) (m be : Nat) (hp : playE X room ⟨⟨l, t, ov, li⟩, [], 0⟩ us = ⟨⟨l', t', ov', li'⟩, es, be⟩) (hn' : l'.length = n') (hm' : es.length = m) :
    Calls Tryd.prog 21 #[tv X, .int .i64 room, .agg #[.slice A n c, .int .i64 (t : Int), .bool ov, .bool li], .slice K k d] w (GotPF w l' n' (t' : Int) ov' li' es m (be : Int)) := by
  have HP := keepd hp
  have HN' := keepd hn'
  have HM' := keepd hm'
  have HK := keepd hk
  have HU := keepd hu
  have hud := hu.1
  have hud2 := hu.2.1
  unfold maxLen at hud2
  rw [← hk] at hud
  have hl : n ≤ 100000 := by omega
  have HTN := keepd (And.intro h1 h2)
  clear hp hn' hm' hk hu
  have HR := keepd hr
  have HN := keepd hn
  clear hr hn
  go_enter Tryd.func21, Tryd.ntmps21
  go_upto_region 1 with fail
  generalize hV : ((w.alloc (.cells (cs X).toArray 25)).alloc (.cells #[.slice A n c, .int .i64 (t : Int), .bool ov, .bool li] 32)).alloc (.cells #[.slice none 0 0, .int .i64 0, .bool false, .bool false] 32) = V
  obtain ⟨HT, HS, HZ, HB⟩ := play_new _ _ _ _ _ _ _ _ _ _ _ hV
  obtain ⟨k0, k1, k2, k3, _, _, _, _, kt⟩ := st_facts HS.out
  obtain ⟨q0, q1⟩ := TB.facts HT.out
  have htl : w.heap.size < V.heap.size := HT.out.lt
  have FS := keepd (And.intro HS.out HT.out)
  have HO := keepd fun (W : World) (hb : Below V.heap.size V W) => own_any A l n c (t : Int) ov li W HN.out ((HR.out.at_ HB.out).at_ hb) (by omega)
  clear hV
  go_cut [11] from 14 to 19 (fun s11 wx => ∃ (b : Nat) (A1 : Option Addr) (c1 : Nat), s11 = .pointer (some ⟨b, 0, none⟩) ∧ Hid (MidW V b l n (t : Int) ov li X room A1 c1 wx))
  case first =>
    refine wp_region_held_drew (S := fun W => W.cell? ⟨w.heap.size + 1, 0, none⟩ = some (.slice A n c) ∧ W.cell? ⟨w.heap.size + 1, 1, none⟩ = some (.int .i64 (t : Int)) ∧ W.cell? ⟨w.heap.size + 1, 2, none⟩ = some (.bool ov) ∧ W.cell? ⟨w.heap.size + 1, 3, none⟩ = some (.bool li) ∧ rowOf W w.heap.size = (cs X).toArray ∧ isRow W 25 w.heap.size 62 = true ∧ Below V.heap.size V W) (by kernel_rfl) (sP FS.out (Below.refl _ _).drew) (fun hHeld => ?_)
    refine wpAnyH_take (i := 0) (oi := { dst := some 14, op := Op.load 32 (Operand.tmp 6), type := 32, pos := "editor.go:46", after := #[], guard := none }) (v := .agg #[.slice A n c, .int .i64 (t : Int), .bool ov, .bool li]) rfl (by kernel_rfl) (by kernel_rfl) (by kernel_rfl) (fun _ _ _ h => h) (Or.inl ⟨by rfl, fun W hW => ?_⟩) hHeld ?_
    · obtain ⟨q0, q1, q2, q3, q4, q5, q6⟩ := hW
      go_simp
    simp only [Act.put, List.setIfInBounds_toArray, List.set_cons_zero, List.set_cons_succ]
    refine wpAnyH_take (i := 2) (oi := { dst := some 16, op := Op.load 25 (Operand.tmp 4), type := 25, pos := "editor.go:46", after := #[], guard := none }) (v := tv X) rfl (by kernel_rfl) (by kernel_rfl) (by kernel_rfl) (fun _ _ _ h => h) (Or.inl ⟨by rfl, fun W hW => ?_⟩) hHeld ?_
    · obtain ⟨q0, q1, q2, q3, q4, q5, q6⟩ := hW
      go_simp
    simp only [Act.put, List.setIfInBounds_toArray, List.set_cons_zero, List.set_cons_succ]
    refine wpAnyH_take (i := 3) (oi := { dst := some 17, op := Op.move (Operand.tmp 1), type := 3, pos := "editor.go:46", after := #[], guard := none }) (v := .int .i64 room) rfl (by kernel_rfl) (by kernel_rfl) (by kernel_rfl) (fun _ _ _ h => h) (Or.inl ⟨by rfl, fun W hW => ?_⟩) hHeld ?_
    · obtain ⟨q0, q1, q2, q3, q4, q5, q6⟩ := hW
      go_simp
    simp only [Act.put, List.setIfInBounds_toArray, List.set_cons_zero, List.set_cons_succ]
    refine wpAnyH_ready (rs := [1, 5]) (by kernel_rfl) (by simp) ?_
    refine AllReadyH.cons (o := { dst := some 15, op := Op.call { callee := Callee.value (Operand.func 41), args := #[Operand.tmp 14], argTypes := #[32] }, type := 32, pos := "editor.go:46", after := #[{ on := 0, ground := Ground.data }], guard := none }) rfl (fun K hK => ?_) (AllReadyH.cons (o := { dst := some 11, op := Op.alloc 84, type := 0, pos := "editor.go:46", after := #[], guard := none }) rfl (fun K hK => ?_) AllReadyH.nil)
    · go_simp
      with_reducible refine (HO.out _ (Below.refl _ _).drew).mono ?_
      rintro e w4 ⟨A1, c1, rfl, ho, hb4⟩
      have hbb := noDrew hb4
      have HMid := keepd (midw_a (V := V) (z := (t : Int)) (ov := ov) (li := li) (X := X) (room := room) ho (Nat.le_refl _) hbb HN.out)
      clear ho hb4
      go_wp2_with fail
      refine hK.out _ _ (sP FS.out hbb) (fun hHeld2 => ?_)
      clear hK K hHeld
      have hHeld := hHeld2
      clear hHeld2
      try simp only [Act.put, List.setIfInBounds_toArray, List.set_cons_zero, List.set_cons_succ]
      refine wpAnyH_take (i := 4) (oi := { dst := some 18, op := Op.build 84 #[(0, Operand.tmp 15), (1, Operand.tmp 16), (2, Operand.tmp 17)], type := 84, pos := "editor.go:46", after := #[{ on := 1, ground := Ground.data }, { on := 2, ground := Ground.data }, { on := 3, ground := Ground.data }], guard := none }) (v := .agg (wk A1 n c1 (t : Int) ov li X room (.slice none 0 0) 0).toArray) rfl (by kernel_rfl) (by kernel_rfl) (by kernel_rfl) (fun _ _ _ h => h) (Or.inl ⟨by rfl, fun W hW => ?_⟩) hHeld ?_
      · obtain ⟨q0, q1, q2, q3, q4, q5, q6⟩ := hW
        go_simp
      simp only [Act.put, List.setIfInBounds_toArray, List.set_cons_zero, List.set_cons_succ]
      refine wpAnyH_ready (rs := [5]) (by kernel_rfl) (by simp) ?_
      refine AllReadyH.cons (o := { dst := some 11, op := Op.alloc 84, type := 0, pos := "editor.go:46", after := #[], guard := none }) rfl (fun K hK => ?_) AllReadyH.nil
      go_simp
      refine hK.out _ _ (sP FS.out (bAlloc hbb _)) (fun hHeld2 => ?_)
      clear hK K hHeld
      have hHeld := hHeld2
      clear hHeld2
      try simp only [Act.put, List.setIfInBounds_toArray, List.set_cons_zero, List.set_cons_succ]
      refine wpAnyH_ready (rs := [6]) (by kernel_rfl) (by simp) ?_
      refine AllReadyH.cons (o := { dst := none, op := Op.store 84 (Operand.tmp 11) (Operand.tmp 18), type := 0, pos := "editor.go:46", after := #[{ on := 5, ground := Ground.data }, { on := 4, ground := Ground.data }, { on := 1, ground := Ground.chain }, { on := 0, ground := Ground.phase }, { on := 1, ground := Ground.phase }, { on := 2, ground := Ground.phase }, { on := 3, ground := Ground.phase }, { on := 4, ground := Ground.phase }, { on := 5, ground := Ground.phase }], guard := none }) rfl (fun K hK => ?_) AllReadyH.nil
      go_simp
      refine hK.out _ _ (sP FS.out (bAlloc hbb _)) (fun hHeld2 => ?_)
      clear hK K hHeld
      have hHeld := hHeld2
      clear hHeld2
      try simp only [Act.put, List.setIfInBounds_toArray, List.set_cons_zero, List.set_cons_succ]
      refine wpAnyH_done (by kernel_rfl) ?_ _
      go_wp2_with fail
      go_meet
      exact ⟨_, _, _, rfl, HMid⟩
    · go_simp
      refine hK.out _ _ (sP FS.out (bAlloc (Below.refl _ _) _).drew) (fun hHeld2 => ?_)
      clear hK K hHeld
      have hHeld := hHeld2
      clear hHeld2
      try simp only [Act.put, List.setIfInBounds_toArray, List.set_cons_zero, List.set_cons_succ]
      refine wpAnyH_ready (rs := [1]) (by kernel_rfl) (by simp) ?_
      refine AllReadyH.cons (o := { dst := some 15, op := Op.call { callee := Callee.value (Operand.func 41), args := #[Operand.tmp 14], argTypes := #[32] }, type := 32, pos := "editor.go:46", after := #[{ on := 0, ground := Ground.data }], guard := none }) rfl (fun K hK => ?_) AllReadyH.nil
      go_simp
      with_reducible refine (HO.out _ (bAlloc (Below.refl _ _) _).drew).mono ?_
      rintro e w4 ⟨A1, c1, rfl, ho, hb4⟩
      have hbb := upD hb4
      have HMid := keepd (midw_b (z := (t : Int)) (ov := ov) (li := li) (X := X) (room := room) ho hb4 HN.out)
      obtain ⟨m0, m1⟩ := zw_of hb4
      clear ho hb4
      go_wp2_with fail
      refine hK.out _ _ (sP FS.out hbb) (fun hHeld2 => ?_)
      clear hK K hHeld
      have hHeld := hHeld2
      clear hHeld2
      try simp only [Act.put, List.setIfInBounds_toArray, List.set_cons_zero, List.set_cons_succ]
      refine wpAnyH_take (i := 4) (oi := { dst := some 18, op := Op.build 84 #[(0, Operand.tmp 15), (1, Operand.tmp 16), (2, Operand.tmp 17)], type := 84, pos := "editor.go:46", after := #[{ on := 1, ground := Ground.data }, { on := 2, ground := Ground.data }, { on := 3, ground := Ground.data }], guard := none }) (v := .agg (wk A1 n c1 (t : Int) ov li X room (.slice none 0 0) 0).toArray) rfl (by kernel_rfl) (by kernel_rfl) (by kernel_rfl) (fun _ _ _ h => h) (Or.inl ⟨by rfl, fun W hW => ?_⟩) hHeld ?_
      · obtain ⟨q0, q1, q2, q3, q4, q5, q6⟩ := hW
        go_simp
      simp only [Act.put, List.setIfInBounds_toArray, List.set_cons_zero, List.set_cons_succ]
      refine wpAnyH_ready (rs := [6]) (by kernel_rfl) (by simp) ?_
      refine AllReadyH.cons (o := { dst := none, op := Op.store 84 (Operand.tmp 11) (Operand.tmp 18), type := 0, pos := "editor.go:46", after := #[{ on := 5, ground := Ground.data }, { on := 4, ground := Ground.data }, { on := 1, ground := Ground.chain }, { on := 0, ground := Ground.phase }, { on := 1, ground := Ground.phase }, { on := 2, ground := Ground.phase }, { on := 3, ground := Ground.phase }, { on := 4, ground := Ground.phase }, { on := 5, ground := Ground.phase }], guard := none }) rfl (fun K hK => ?_) AllReadyH.nil
      go_simp
      refine hK.out _ _ (sP FS.out (bRow hbb (Nat.le_refl _) _)) (fun hHeld2 => ?_)
      clear hK K hHeld
      have hHeld := hHeld2
      clear hHeld2
      try simp only [Act.put, List.setIfInBounds_toArray, List.set_cons_zero, List.set_cons_succ]
      refine wpAnyH_done (by kernel_rfl) ?_ _
      go_wp2_with fail
      go_meet
      exact ⟨_, _, _, rfl, HMid⟩
  case rest =>
    obtain ⟨b, A1, c1, rfl, HMid⟩ := hcut
    obtain ⟨V3, hV3⟩ : ∃ V3, V3 = wc := ⟨_, rfl⟩
    subst hV3
    have HB3 := keepd (bCall HB.out HMid.out.2.2.2.1)
    have HS3 := keepd (SR.call HS.out HMid.out.2.2.2.1 HS.out.lt)
    have HZ3 := keepd (SR.call HZ.out HMid.out.2.2.2.1 HZ.out.lt)
    obtain ⟨k0, k1, k2, k3, _, _, _, _, kt⟩ := st_facts HS3.out
    have hbl : w.heap.size + 2 < b := Nat.lt_of_lt_of_le HZ.out.lt HMid.out.2.2.2.2
    clear FS HO q0 q1 htl HT HS
    have CK := keepd (echeck_ok A n c t ov li V3 h2 h1)
    clear h1 h2
    go_wp2_with fail
    with_reducible refine CK.out.mono ?_
    rintro e w5 ⟨rfl, hb5⟩
    obtain ⟨g1, g2, g3, g4, g5⟩ := HMid.out
    have HJ0 : Hid (WJ V b X room ⟨l, t, ov, li⟩ [] 0 V3 A1 c1 (.slice none 0 0)) := by
      refine ⟨?_, g2, g3.1, OwnE.nil _ _, by simp [Value.ownBlock], fun x hx => by simp at hx, g4, g5, g3.2, fun x hx => by simp at hx⟩
      rw [← HN.out]
      exact g1
    have HW0 : Hid (WI V b X room (playE X room ⟨⟨l, t, ov, li⟩, [], 0⟩ (us.take 0)).s (playE X room ⟨⟨l, t, ov, li⟩, [], 0⟩ (us.take 0)).es ((playE X room ⟨⟨l, t, ov, li⟩, [], 0⟩ (us.take 0)).n : Int) w5) := ⟨A1, c1, _, [], rfl, HJ0.out.call hb5⟩
    have HOK : Hid (Ed.ok ⟨l, t, ov, li⟩) := ⟨by rw [← HN.out]; exact HTN.out.1, by rw [← HN.out]; exact HTN.out.2⟩
    have HB5 := keepd (bCall HB3.out hb5)
    clear hb5 CK k0 k1 k2 k3 kt HS3 HZ3 HB3 g1 g2 g3 g4 g5 HJ0 HMid
    generalize hS0 : (⟨⟨l, t, ov, li⟩, [], 0⟩ : Res) = S0 at *
    have HOK2 : Hid (S0.s.ok) := by rw [← hS0]; exact HOK.out
    have HFW : Hid (∀ j, (playE X room S0 (us.take j)).es.length ≤ j ∧ (playE X room S0 (us.take j)).n ≤ j) := fun j => by
      obtain ⟨q1, q2⟩ := playE_few X room (us.take j) S0
      rw [← hS0] at q1 q2
      rw [← hS0]
      simp only [List.length_nil, List.length_take] at q1 q2
      omega
    have HTK : Hid (∀ j, (h : j < us.length) → playE X room S0 (us.take (j + 1)) = ⟨(keyE X room (playE X room S0 (us.take j)).s us[j]).s, (playE X room S0 (us.take j)).es ++ (keyE X room (playE X room S0 (us.take j)).s us[j]).es, (playE X room S0 (us.take j)).n + (keyE X room (playE X room S0 (us.take j)).s us[j]).n⟩) := fun j h => by
      rw [← hS0]
      exact playE_take h _
    clear hS0 HOK
    go_wp2_with fail
    go_loopw [26] (fun vi wr => ∃ j : Nat, j ≤ k ∧ vi = .int .i64 j ∧ Hid (WI V b X room (playE X room S0 (us.take j)).s (playE X room S0 (us.take j)).es ((playE X room S0 (us.take j)).n : Int) wr)) (fun vi _ => k - (intOf vi).toNat)
    case atStart => exact ⟨0, by omega, rfl, HW0⟩
    clear HW0 HB5
    case round =>
      obtain ⟨j, hj, rfl, HW⟩ := hrel
      have HBr : Hid (Below w.heap.size w wr) := by
        obtain ⟨_, _, _, _, _, hw⟩ := HW.out
        exact bCall HB.out hw.below
      rcases Nat.lt_or_ge j k with hlt | hge
      case inr =>
        obtain rfl : j = k := by omega
        have z0 : ¬ (j : Int) < (j : Int) := by omega
        obtain ⟨A2, c2, iv, L, hL, hw⟩ := HW.out
        have e1 : us.take j = us := by rw [HK.out]; exact List.take_length
        rw [e1, HP.out] at hw hL
        have hs : WB wr b A2 n' c2 (t' : Int) ov' li' X room iv (be : Int) := by rw [← HN'.out]; exact hw.sr
        obtain ⟨x0, x1, x2, x3, x66, x67, x68⟩ := WB.cells hs
        have HZr := keepd (SR.call HZ.out hw.below HZ.out.lt)
        obtain ⟨j0, j1, j2, j3, r0, r1, r2, r3, jt⟩ := st_facts HZr.out
        have HL := keepd hL
        have HWJ := keepd hw
        have hbw := hw.lt
        clear hL hw hs e1 x66 HW
        go_upto_region 9 with fail
        go_region
        generalize hV9 : ((((wr.setCell ⟨w.heap.size + 1 + 1, 0, none⟩ (.slice A2 n' c2)).setCell ⟨w.heap.size + 1 + 1, 1, none⟩ (.int .i64 (t' : Int))).setCell ⟨w.heap.size + 1 + 1, 2, none⟩ (.bool ov')).setCell ⟨w.heap.size + 1 + 1, 3, none⟩ (.bool li')).drew = V9
        have hV8 : V9 = (set4 wr (w.heap.size + 2) (.slice A2 n' c2) (.int .i64 (t' : Int)) (.bool ov') (.bool li')).drew := hV9.symm
        clear hV9
        have HX : SR 32 V9 (w.heap.size + 2) [.slice A2 n' c2, .int .i64 (t' : Int), .bool ov', .bool li'] := by rw [hV8]; exact set4_sr HZr.out
        have hsz : V9.heap.size = wr.heap.size := by rw [hV8]; exact set4_size _ _ _ _ _ _
        have hhp : ∀ g, g ≠ w.heap.size + 2 → V9.heap[g]? = wr.heap[g]? := fun g hg => by rw [hV8]; exact set4_heap _ _ _ _ _ _ hg
        have hrd : ∀ (B : Option Addr) (y : List UInt8) (q : Nat), Rd wr wr.heap.size B y q → Rd V9 V9.heap.size B y q := fun B y q hB => hB.setSt HZr.out (by rw [hsz]; exact Nat.le_refl _) hhp
        have hbel : Below w.heap.size w V9 := by rw [hV8]; exact (set4_below HBr.out (by omega)).drew
        have hown : OwnE V9 V.heap.size iv L := HWJ.out.owns.of_block fun g hg => hhp g (by have := (HWJ.out.owns.ge g hg).1; have := HZ.out.lt; omega)
        obtain ⟨B9, d9, hiv, hre⟩ := hown.rd fun x hx => hrd _ _ _ (HWJ.out.far x hx).1
        have hlm : L.length = m := by
          have := congrArg List.length HL.out
          rw [List.length_map] at this
          exact this.trans HM'.out
        rw [hlm] at hiv
        have HFIN : Hid (GotPF w l' n' (t' : Int) ov' li' es m (be : Int) (.returned (.tuple #[.agg #[.slice A2 n' c2, .int .i64 (t' : Int), .bool ov', .bool li'], .slice B9 m d9, .int .i64 (be : Int)])) V9) :=
          ⟨A2, c2, B9, d9, L, rfl, HL.out, hlm, hrd _ _ _ (by have := HWJ.out.rd; exact this), hre, hbel, fun g hg => Nat.le_trans HB.out.size (hown.ge g (by rw [hiv]; exact hg)).1, fun ad had => Nat.le_trans HB.out.size (HWJ.out.fa ad had), fun x hx ad had => Nat.le_trans HB.out.size (HWJ.out.fx x hx ad had)⟩
        have y0 := HX.cell 0
        have y1 := HX.cell 1
        have y2 := HX.cell 2
        have y3 := HX.cell 3
        simp only [List.getElem?_cons_zero, List.getElem?_cons_succ] at y0 y1 y2 y3
        clear hV8 HX hsz hhp hrd hbel hown hre hlm j0 j1 j2 j3 r0 r1 r2 r3 jt x0 x1 x2 x3 x67 x68
        subst hiv
        go_wp2_with fail
        refine bodyPost_ret (v := .tuple #[.agg #[.slice A2 n' c2, .int .i64 (t' : Int), .bool ov', .bool li'], .slice B9 m d9, .int .i64 (be : Int)]) (by simp [results, Tryd.results21, go_sem, y0, y1, y2, y3]) rfl ?_
        exact HFIN.out
      have z0 : (j : Int) < (k : Int) := by omega
      have z2 : (0 : Int) ≤ (j : Int) := by omega
      obtain ⟨ub, uo, hA2, hub⟩ := HU.out.addr (by rw [← HK.out]; omega)
      subst hA2
      have q0 := (HU.out.at_ HBr.out).cellk (k := j) (by rw [← HK.out]; exact hlt)
      have hju : j < us.length := by rw [← HK.out]; exact hlt
      have hv : us.getD j 0 = us[j] := getD_at hju
      rw [hv] at q0
      generalize hvv : us[j] = v at *
      have CKEY := keepd (ekey_any HW.out (playE_ok HOK2.out) (by have := (HFW.out j).1; omega) (by omega) (by have := (HFW.out j).2; omega) v)
      have HST := keepd (HTK.out j hju)
      rw [hvv] at HST
      clear hju hv hvv HW HTK HFW
      go_wp2_with fail
      with_reducible refine CKEY.out.mono ?_
      rintro e w6 ⟨rfl, hw6⟩
      have HW6 := keepd hw6
      clear hw6 CKEY q0
      go_wp2_with fail
      go_roundw
      case rel =>
        refine ⟨j + 1, by omega, by go_num, ?_⟩
        rw [HST.out]
        exact HW6
      case measure => simp [intOf]; omega

end Go.Proofs.YtlfmbfecajhffaaDoor.Fr
