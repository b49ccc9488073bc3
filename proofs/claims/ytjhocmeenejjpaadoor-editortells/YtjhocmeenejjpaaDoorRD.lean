/-
  The document's own Play. No conditions beyond those each theorem states.
-/
import Derived.Test.YtjhocmeenejjpaaDoorRB
namespace Go.Proofs.YtjhocmeenejjpaaDoor
open Go.RowKit
set_option maxRecDepth 100000

attribute [local go_sem ↓] ex_ld25 ex_st25 ex_al25 ex_bu25 ex_ix25 ex_eq25 ex_ne25 ex_eq23 ex_ne23 ex_ld25o ex_st65 ex_al65 ex_bu65 ex_bu65s ex_ld25d
attribute [local go_sem] ptrB_at okPtr_at aggC_at agg62 agg69 isC_at isT_at eqV_t eqV_c isRow_new isRow_new65 World.setRow_alloc_new ptr4_at okPtr4_at cutT_at isI_at isS_at bW_at bWs_at ptrD_at okPtrD_at cutD_at

theorem sPl {V W : World} {p g b o : Nat} {X : Tb} {a0 a1 a2 a3 v : Value} (h : SR 30 V p [a0, a1, a2, a3] ∧ TB V g X ∧ V.cell? ⟨b, o, none⟩ = some v ∧ b < V.heap.size) (hb : Below V.heap.size V W) :
    rowOf W g = (cs X).toArray ∧ isRow W 25 g 62 = true ∧ W.cell? ⟨p, 0, none⟩ = some a0 ∧ W.cell? ⟨p, 1, none⟩ = some a1 ∧ W.cell? ⟨p, 2, none⟩ = some a2 ∧ W.cell? ⟨p, 3, none⟩ = some a3 ∧ W.cell? ⟨b, o, none⟩ = some v ∧ Below V.heap.size V W := by
  have h1 := SR.call h.1 hb h.1.lt
  have h2 := TB.facts (SR.call h.2.1 hb (SR.lt h.2.1))
  exact ⟨h2.1, h2.2, h1.cell 0, h1.cell 1, h1.cell 2, h1.cell 3, (hb.cell (p := ⟨b, o, none⟩) h.2.2.2).trans h.2.2.1, hb⟩
/-- What the document's own Play holds, between keys. -/
structure RI (w : World) (X : Tb) (room : Int) (us : List UInt8) (S0 : Res) (j : Nat) (v : Value) (L : List EvM) (A : Option Addr) (l : List UInt8) (n c t : Nat) (ov li : Bool) (be : Nat) (wr : World) : Prop where
  own : OwnE wr (w.heap.size + 3) v L
  nou : NoU wr v
  evs : ∀ x ∈ L, Rd wr wr.heap.size x.A x.l x.c
  st : SR 30 wr (w.heap.size + 1) [.slice A n c, .int .i64 (t : Int), .bool ov, .bool li]
  len : n = l.length
  rd : Rd wr wr.heap.size A l c
  tb : TB wr w.heap.size X
  res : SR 30 wr (w.heap.size + 2) [.slice none 0 0, .int .i64 0, .bool false, .bool false]
  pl : playE X room S0 (us.take j) = ⟨⟨l, t, ov, li⟩, L.map EvM.abs, be⟩
  below : Below w.heap.size w wr

set_option maxHeartbeats 16000000 in
/-- The document's own Play. -/
theorem rplay_any (X : Tb) (room : Int) (A : Option Addr) (l : List UInt8) (n c t : Nat) (ov li : Bool) (K : Option Addr) (us : List UInt8) (k d : Nat) (w : World) (hn : n = l.length) (hr : Rd w w.heap.size A l c) (h1 : t ≤ n) (h2 : n ≤ 4096)
    (hk : k = us.length) (hu : Rd w w.heap.size K us d) (hus : k ≤ 50000) (l' : List UInt8) (n' t' : Nat) (ov' li' : Bool) (es : List Ev) (m be : Nat) (hp : playE X room ⟨⟨l, t, ov, li⟩, [], 0⟩ us = ⟨⟨l', t', ov', li'⟩, es, be⟩) (hn' : l'.length = n') (hm' : es.length = m) :
    Calls Tryd.prog 18 #[tv X, .int .i64 room, .agg #[.slice A n c, .int .i64 (t : Int), .bool ov, .bool li], .slice K k d] w (GotP w l' n' (t' : Int) ov' li' es m (be : Int)) := by
  have HP := keepd hp
  have HN' := keepd hn'
  have HM' := keepd hm'
  have HK := keepd hk
  have HU := keepd hu
  have HR := keepd hr
  have HN := keepd hn
  have hud := hu.1
  have hud2 := hu.2.1
  unfold maxLen at hud2
  rw [← hk] at hud
  have HOK : Hid (Ed.ok ⟨l, t, ov, li⟩) := ⟨by rw [← hn]; exact h1, by rw [← hn]; exact h2⟩
  clear hp hn' hm' hk hu hr hn h1 h2
  go_enter Tryd.func18, Tryd.ntmps18
  go_upto_region 1 with fail
  generalize hV : ((w.alloc (.cells (cs X).toArray 25)).alloc (.cells #[.slice A n c, .int .i64 (t : Int), .bool ov, .bool li] 30)).alloc (.cells #[.slice none 0 0, .int .i64 0, .bool false, .bool false] 30) = V
  obtain ⟨HT, HS, HZ, HB⟩ := play_new _ _ _ _ _ _ _ _ _ _ _ hV
  clear hV
  have HI0 : Hid (RI w X room us ⟨⟨l, t, ov, li⟩, [], 0⟩ 0 (.slice none 0 0) [] A l n c t ov li 0 V) := ⟨OwnE.nil _ _, nou_nil _, fun x hx => by simp at hx, HS.out, HN.out, HR.out.at_ HB.out, HT.out, HZ.out, rfl, HB.out⟩
  generalize hS0 : (⟨⟨l, t, ov, li⟩, [], 0⟩ : Res) = S0 at *
  have HOK2 : Hid (S0.s.ok) := by rw [← hS0]; exact HOK.out
  have HFW : Hid (∀ j, (playE X room S0 (us.take j)).es.length ≤ j ∧ (playE X room S0 (us.take j)).n ≤ j) := fun j => by
    obtain ⟨q1, q2⟩ := playE_few X room (us.take j) S0
    rw [← hS0] at q1 q2
    rw [← hS0]
    simp only [List.length_nil, List.length_take] at q1 q2
    omega
  have HTK : Hid (∀ j, (h : j < us.length) → playE X room S0 (us.take (j + 1)) = ⟨(keyE X room (playE X room S0 (us.take j)).s us[j]).s, (playE X room S0 (us.take j)).es ++ (keyE X room (playE X room S0 (us.take j)).s us[j]).es, (playE X room S0 (us.take j)).n + (keyE X room (playE X room S0 (us.take j)).s us[j]).n⟩) := fun j h => by
    rw [← hS0]
    exact playE_take h _
  have hV3 : w.heap.size + 3 ≤ V.heap.size := HZ.out.lt
  clear hS0 HOK HT HS HZ HR HN
  go_wp2_with fail
  go_loopw [11, 12, 13] (fun v11 v12 v13 wr => ∃ (j : Nat) (v : Value) (L : List EvM) (A2 : Option Addr) (l2 : List UInt8) (n2 c2 t2 : Nat) (ov2 li2 : Bool) (be2 : Nat), j ≤ k ∧ v11 = v ∧ v12 = .int .i64 (be2 : Int) ∧ v13 = .int .i64 j ∧ Hid (RI w X room us S0 j v L A2 l2 n2 c2 t2 ov2 li2 be2 wr)) (fun _ _ v13 _ => k - (intOf v13).toNat)
  case atStart => exact ⟨0, _, [], A, l, n, c, t, ov, li, 0, by omega, rfl, rfl, rfl, HI0⟩
  clear HI0 HB
  case round =>
    obtain ⟨j, vv, L, A2, l2, n2, c2, t2, ov2, li2, be2, hj, rfl, rfl, rfl, HI⟩ := hrel
    have HBr : Hid (Below w.heap.size w wr) := HI.out.below
    obtain ⟨Bv, dv, hv⟩ := HI.out.own.form
    obtain ⟨mv, hmv⟩ : ∃ m, L.length = m := ⟨_, rfl⟩
    rw [hmv] at hv
    subst hv
    have HMV := keepd hmv
    clear hmv
    rcases Nat.lt_or_ge j k with hlt | hge
    case inr =>
      obtain rfl : j = k := by omega
      have z0 : ¬ (j : Int) < (j : Int) := by omega
      have hpl := HI.out.pl
      rw [List.take_of_length_le (by rw [← HK.out]; omega), HP.out] at hpl
      simp only [Res.mk.injEq, Ed.mk.injEq] at hpl
      obtain ⟨⟨rfl, rfl, rfl, rfl⟩, he, rfl⟩ := hpl
      obtain rfl : n2 = n' := by rw [HI.out.len, HN'.out]
      obtain rfl : mv = m := by rw [← HMV.out, ← HM'.out, he, List.length_map]
      have HE := keepd he
      clear he
      obtain ⟨k0, k1, k2, k3, _, _, _, _, kt⟩ := st_facts HI.out.st
      obtain ⟨j0, j1, j2, j3, r0, r1, r2, r3, jt⟩ := st_facts HI.out.res
      obtain ⟨E1, E2, E3⟩ := set4_end HI.out.res HBr.out (Nat.le_add_right _ 2) (.slice A2 n2 c2) (.int .i64 (t' : Int)) (.bool ov') (.bool li')
      obtain ⟨B4, d4, he4, hre4⟩ := HI.out.own.rd HI.out.evs
      rw [HMV.out] at he4
      injection he4 with e1 e2 e3
      subst e1 e3
      have HFIN : Hid (GotP w l' n2 (t' : Int) ov' li' es mv (be : Int) (.returned (.tuple #[.agg #[.slice A2 n2 c2, .int .i64 (t' : Int), .bool ov', .bool li'], .slice Bv mv dv, .int .i64 (be : Int)])) (set4 wr (w.heap.size + 2) (.slice A2 n2 c2) (.int .i64 (t' : Int)) (.bool ov') (.bool li'))) := ⟨A2, c2, Bv, dv, L, rfl, HE.out.symm, HMV.out, E1 _ _ _ HI.out.rd, E2 _ _ _ hre4, E3⟩
      clear E1 E2 E3 hre4
      go_wp2_with fail
      refine bodyPost_ret (v := .tuple #[.agg #[.slice A2 n2 c2, .int .i64 (t' : Int), .bool ov', .bool li'], .slice Bv mv dv, .int .i64 (be : Int)]) (by simp [results, Tryd.results18, go_sem, j0, j1, j2, j3]) rfl ?_
      exact HFIN.out
    have z0 : (j : Int) < (k : Int) := by omega
    have z2 : (0 : Int) ≤ (j : Int) := by omega
    obtain ⟨ub, uo, hA2, hub⟩ := HU.out.addr (by rw [← HK.out]; omega)
    subst hA2
    have q0 := (HU.out.at_ HBr.out).cellk (k := j) (by rw [← HK.out]; exact hlt)
    have hju : j < us.length := by rw [← HK.out]; exact hlt
    have hv : us.getD j 0 = us[j] := getD_at hju
    rw [hv] at q0
    generalize hvv : us[j] = v at *
    obtain ⟨⟨⟨l3, t3, ov3, li3⟩, es3, be3⟩, hke⟩ : ∃ r, keyE X room ⟨l2, t2, ov2, li2⟩ v = r := ⟨_, rfl⟩
    obtain ⟨n3, hn3⟩ : ∃ n, l3.length = n := ⟨_, rfl⟩
    obtain ⟨m3, hm3⟩ : ∃ n, es3.length = n := ⟨_, rfl⟩
    obtain ⟨bell, hbell⟩ : ∃ b, decide (0 < be3) = b := ⟨_, rfl⟩
    have hok2 : Ed.ok ⟨l2, t2, ov2, li2⟩ := by
      have := playE_ok (X := X) (room := room) (us := us.take j) HOK2.out
      rw [HI.out.pl] at this
      exact this
    have hlen2 := HI.out.len
    have HKEY := keepd fun (W : World) (hb : Below wr.heap.size wr W) => rkey_any X room A2 l2 n2 c2 t2 ov2 li2 v W hlen2 (HI.out.rd.at_ hb) (by rw [hlen2]; exact hok2.1) (by rw [hlen2]; exact hok2.2) l3 n3 t3 ov3 li3 es3 m3 be3 bell hke hn3 hm3 hbell
    have hst := HTK.out j hju
    rw [hvv, HI.out.pl] at hst
    simp only [hke] at hst
    have hfw := HFW.out j
    rw [HI.out.pl] at hfw
    simp only [List.length_map] at hfw
    have hfew := keyE_few X room ⟨l2, t2, ov2, li2⟩ v
    rw [hke] at hfew
    simp only at hfew
    have HST := keepd hst
    have HFEW := keepd (And.intro hfw hfew)
    have HN3 := keepd hn3
    have HM3 := keepd hm3
    have HBL := keepd hbell
    have FS := keepd (And.intro HI.out.st (And.intro HI.out.tb (And.intro q0 (Nat.lt_of_lt_of_le hub HBr.out.size))))
    clear hju hv hvv hke hn3 hm3 hbell hok2 hlen2 hst hfw hfew q0 HTK HFW
    go_upto_region 6 with fail
    go_cut [14, 15, 16] from 23 to 35 (fun s14 s15 s16 wx => ∃ (b14 : Nat) (Ax : Option Addr) (cx : Nat) (Bx : Option Addr) (dx : Nat), s14 = .pointer (some ⟨b14, 0, none⟩) ∧ s15 = .slice Bx m3 dx ∧ s16 = .bool bell ∧ Hid (MidG wr b14 l3 Ax n3 cx (t3 : Int) ov3 li3 es3 Bx m3 dx wx))
    case first =>
      refine wp_region_held_drew (S := fun W => rowOf W w.heap.size = (cs X).toArray ∧ isRow W 25 w.heap.size 62 = true ∧ W.cell? ⟨w.heap.size + 1, 0, none⟩ = some (.slice A2 n2 c2) ∧ W.cell? ⟨w.heap.size + 1, 1, none⟩ = some (.int .i64 (t2 : Int)) ∧ W.cell? ⟨w.heap.size + 1, 2, none⟩ = some (.bool ov2) ∧ W.cell? ⟨w.heap.size + 1, 3, none⟩ = some (.bool li2) ∧ W.cell? ⟨ub, uo + j, none⟩ = some (.int .u8 (v.toNat : Int)) ∧ Below wr.heap.size wr W) (by kernel_rfl) (sPl FS.out (Below.refl _ _).drew) (fun hHeld => ?_)
      refine wpAnyH_take (i := 0) (oi := { dst := some 24, op := Op.load 25 (Operand.tmp 4), type := 25, pos := "ref.go:75", after := #[], guard := none }) (v := tv X) rfl (by kernel_rfl) (by kernel_rfl) (by kernel_rfl) (fun _ _ _ h => h) (Or.inl ⟨by rfl, fun W hW => ?_⟩) hHeld ?_
      · obtain ⟨q0, q1, q2, q3, q4, q5, q6, q7⟩ := hW
        go_simp
      simp only [Act.put, List.setIfInBounds_toArray, List.set_cons_zero, List.set_cons_succ]
      refine wpAnyH_take (i := 1) (oi := { dst := some 25, op := Op.move (Operand.tmp 1), type := 3, pos := "ref.go:75", after := #[], guard := none }) (v := .int .i64 room) rfl (by kernel_rfl) (by kernel_rfl) (by kernel_rfl) (fun _ _ _ h => h) (Or.inl ⟨by rfl, fun W hW => ?_⟩) hHeld ?_
      · obtain ⟨q0, q1, q2, q3, q4, q5, q6, q7⟩ := hW
        go_simp
      simp only [Act.put, List.setIfInBounds_toArray, List.set_cons_zero, List.set_cons_succ]
      refine wpAnyH_take (i := 2) (oi := { dst := some 26, op := Op.load 30 (Operand.tmp 6), type := 30, pos := "ref.go:75", after := #[], guard := none }) (v := .agg #[.slice A2 n2 c2, .int .i64 (t2 : Int), .bool ov2, .bool li2]) rfl (by kernel_rfl) (by kernel_rfl) (by kernel_rfl) (fun _ _ _ h => h) (Or.inl ⟨by rfl, fun W hW => ?_⟩) hHeld ?_
      · obtain ⟨q0, q1, q2, q3, q4, q5, q6, q7⟩ := hW
        go_simp
      simp only [Act.put, List.setIfInBounds_toArray, List.set_cons_zero, List.set_cons_succ]
      refine wpAnyH_take (i := 3) (oi := { dst := some 27, op := Op.move (Operand.tmp 3), type := 26, pos := "ref.go:75", after := #[], guard := none }) (v := .slice (some ⟨ub, uo, none⟩) k d) rfl (by kernel_rfl) (by kernel_rfl) (by kernel_rfl) (fun _ _ _ h => h) (Or.inl ⟨by rfl, fun W hW => ?_⟩) hHeld ?_
      · obtain ⟨q0, q1, q2, q3, q4, q5, q6, q7⟩ := hW
        go_simp
      simp only [Act.put, List.setIfInBounds_toArray, List.set_cons_zero, List.set_cons_succ]
      refine wpAnyH_take (i := 4) (oi := { dst := some 28, op := Op.move (Operand.tmp 13), type := 3, pos := "ref.go:75", after := #[], guard := none }) (v := .int .i64 (j : Int)) rfl (by kernel_rfl) (by kernel_rfl) (by kernel_rfl) (fun _ _ _ h => h) (Or.inl ⟨by rfl, fun W hW => ?_⟩) hHeld ?_
      · obtain ⟨q0, q1, q2, q3, q4, q5, q6, q7⟩ := hW
        go_simp
      simp only [Act.put, List.setIfInBounds_toArray, List.set_cons_zero, List.set_cons_succ]
      refine wpAnyH_take (i := 5) (oi := { dst := some 29, op := Op.indexAddr 26 (Operand.tmp 27) (Operand.tmp 28), type := 0, pos := "ref.go:75", after := #[{ on := 3, ground := Ground.data }, { on := 4, ground := Ground.data }], guard := none }) (v := .pointer (some ⟨ub, uo + j, none⟩)) rfl (by kernel_rfl) (by kernel_rfl) (by kernel_rfl) (fun _ _ _ h => h) (Or.inl ⟨by rfl, fun W hW => ?_⟩) hHeld ?_
      · obtain ⟨q0, q1, q2, q3, q4, q5, q6, q7⟩ := hW
        go_simp
      simp only [Act.put, List.setIfInBounds_toArray, List.set_cons_zero, List.set_cons_succ]
      refine wpAnyH_take (i := 6) (oi := { dst := some 30, op := Op.load 5 (Operand.tmp 29), type := 5, pos := "ref.go:75", after := #[{ on := 5, ground := Ground.data }], guard := none }) (v := .int .u8 (v.toNat : Int)) rfl (by kernel_rfl) (by kernel_rfl) (by kernel_rfl) (fun _ _ _ h => h) (Or.inl ⟨by rfl, fun W hW => ?_⟩) hHeld ?_
      · obtain ⟨q0, q1, q2, q3, q4, q5, q6, q7⟩ := hW
        go_simp
      simp only [Act.put, List.setIfInBounds_toArray, List.set_cons_zero, List.set_cons_succ]
      refine wpAnyH_ready (rs := [7, 12]) (by kernel_rfl) (by simp) ?_
      refine AllReadyH.cons (o := { dst := some 31, op := Op.call { callee := Callee.value (Operand.func 36), args := #[Operand.tmp 24, Operand.tmp 25, Operand.tmp 26, Operand.tmp 30], argTypes := #[25, 3, 30, 5] }, type := 43, pos := "ref.go:75", after := #[{ on := 0, ground := Ground.data }, { on := 1, ground := Ground.data }, { on := 2, ground := Ground.data }, { on := 6, ground := Ground.data }], guard := none }) rfl (fun K hK => ?_) (AllReadyH.cons (o := { dst := some 14, op := Op.alloc 30, type := 0, pos := "ref.go:75", after := #[], guard := none }) rfl (fun K hK => ?_) AllReadyH.nil)
      · go_simp
        with_reducible refine (HKEY.out _ (Below.refl _ _).drew).mono ?_
        rintro e w4 ⟨Ax, cx, Bx, dx, Lx, rfl, e1x, e2x, hx, hy, hb4⟩
        have hbb := noDrew hb4
        have HM := keepd (midg_a (n := n3) (z := (t3 : Int)) (ov := ov3) (li := li3) hbb e1x e2x hx hy)
        go_wp2_with fail
        refine hK.out _ _ (sPl FS.out hbb) (fun hHeld2 => ?_)
        clear hK K hHeld
        have hHeld := hHeld2
        clear hHeld2
        try simp only [Act.put, List.setIfInBounds_toArray, List.set_cons_zero, List.set_cons_succ]
        refine wpAnyH_take (i := 8) (oi := { dst := some 23, op := Op.move (Operand.tmp 31), type := 43, pos := "ref.go:75", after := #[{ on := 7, ground := Ground.data }], guard := none }) (v := .tuple #[.agg #[.slice Ax n3 cx, .int .i64 (t3 : Int), .bool ov3, .bool li3], .slice Bx m3 dx, .bool bell]) rfl (by kernel_rfl) (by kernel_rfl) (by kernel_rfl) (fun _ _ _ h => h) (Or.inl ⟨by rfl, fun W hW => ?_⟩) hHeld ?_
        · obtain ⟨q0, q1, q2, q3, q4, q5, q6, q7⟩ := hW
          go_simp
        simp only [Act.put, List.setIfInBounds_toArray, List.set_cons_zero, List.set_cons_succ]
        refine wpAnyH_take (i := 9) (oi := { dst := some 32, op := Op.extract (Operand.tmp 23) 0, type := 30, pos := "ref.go:75", after := #[{ on := 8, ground := Ground.data }], guard := none }) (v := .agg #[.slice Ax n3 cx, .int .i64 (t3 : Int), .bool ov3, .bool li3]) rfl (by kernel_rfl) (by kernel_rfl) (by kernel_rfl) (fun _ _ _ h => h) (Or.inl ⟨by rfl, fun W hW => ?_⟩) hHeld ?_
        · obtain ⟨q0, q1, q2, q3, q4, q5, q6, q7⟩ := hW
          go_simp
        simp only [Act.put, List.setIfInBounds_toArray, List.set_cons_zero, List.set_cons_succ]
        refine wpAnyH_take (i := 10) (oi := { dst := some 33, op := Op.extract (Operand.tmp 23) 1, type := 35, pos := "ref.go:75", after := #[{ on := 8, ground := Ground.data }, { on := 13, ground := Ground.gcOnly Departure.lateStores }], guard := none }) (v := .slice Bx m3 dx) rfl (by kernel_rfl) (by kernel_rfl) (by kernel_rfl) (fun _ _ _ h => h) (Or.inl ⟨by rfl, fun W hW => ?_⟩) hHeld ?_
        · obtain ⟨q0, q1, q2, q3, q4, q5, q6, q7⟩ := hW
          go_simp
        simp only [Act.put, List.setIfInBounds_toArray, List.set_cons_zero, List.set_cons_succ]
        refine wpAnyH_take (i := 11) (oi := { dst := some 34, op := Op.extract (Operand.tmp 23) 2, type := 4, pos := "ref.go:75", after := #[{ on := 8, ground := Ground.data }, { on := 14, ground := Ground.gcOnly Departure.lateStores }], guard := none }) (v := .bool bell) rfl (by kernel_rfl) (by kernel_rfl) (by kernel_rfl) (fun _ _ _ h => h) (Or.inl ⟨by rfl, fun W hW => ?_⟩) hHeld ?_
        · obtain ⟨q0, q1, q2, q3, q4, q5, q6, q7⟩ := hW
          go_simp
        simp only [Act.put, List.setIfInBounds_toArray, List.set_cons_zero, List.set_cons_succ]
        refine wpAnyH_ready (rs := [12]) (by kernel_rfl) (by simp) ?_
        refine AllReadyH.cons (o := { dst := some 14, op := Op.alloc 30, type := 0, pos := "ref.go:75", after := #[], guard := none }) rfl (fun K hK => ?_) AllReadyH.nil
        go_simp
        refine hK.out _ _ (sPl FS.out (bAlloc hbb _)) (fun hHeld2 => ?_)
        clear hK K hHeld
        have hHeld := hHeld2
        clear hHeld2
        try simp only [Act.put, List.setIfInBounds_toArray, List.set_cons_zero, List.set_cons_succ]
        refine wpAnyH_ready (rs := [13]) (by kernel_rfl) (by simp) ?_
        refine AllReadyH.cons (o := { dst := none, op := Op.store 30 (Operand.tmp 14) (Operand.tmp 32), type := 0, pos := "ref.go:75", after := #[{ on := 12, ground := Ground.data }, { on := 9, ground := Ground.data }, { on := 7, ground := Ground.chain }, { on := 0, ground := Ground.phase }, { on := 1, ground := Ground.phase }, { on := 2, ground := Ground.phase }, { on := 3, ground := Ground.phase }, { on := 4, ground := Ground.phase }, { on := 5, ground := Ground.phase }, { on := 6, ground := Ground.phase }, { on := 7, ground := Ground.phase }, { on := 8, ground := Ground.phase }, { on := 9, ground := Ground.phase }, { on := 10, ground := Ground.textOnly Departure.lateStores }, { on := 11, ground := Ground.textOnly Departure.lateStores }, { on := 12, ground := Ground.phase }], guard := none }) rfl (fun K hK => ?_) AllReadyH.nil
        go_simp
        refine hK.out _ _ (sPl FS.out HM.out.2.2.2) (fun hHeld2 => ?_)
        clear hK K hHeld
        have hHeld := hHeld2
        clear hHeld2
        try simp only [Act.put, List.setIfInBounds_toArray, List.set_cons_zero, List.set_cons_succ]
        refine wpAnyH_take (i := 14) (oi := { dst := some 15, op := Op.assign (Operand.tmp 33), type := 35, pos := "ref.go:75", after := #[{ on := 10, ground := Ground.data }, { on := 13, ground := Ground.chain }, { on := 0, ground := Ground.phase }, { on := 1, ground := Ground.phase }, { on := 2, ground := Ground.phase }, { on := 3, ground := Ground.phase }, { on := 4, ground := Ground.phase }, { on := 5, ground := Ground.phase }, { on := 6, ground := Ground.phase }, { on := 7, ground := Ground.phase }, { on := 8, ground := Ground.phase }, { on := 9, ground := Ground.phase }, { on := 10, ground := Ground.phase }, { on := 11, ground := Ground.textOnly Departure.lateStores }, { on := 12, ground := Ground.phase }, { on := 13, ground := Ground.phase }], guard := none }) (v := .slice Bx m3 dx) rfl (by kernel_rfl) (by kernel_rfl) (by kernel_rfl) (fun _ _ _ h => h) (Or.inl ⟨by rfl, fun W hW => ?_⟩) hHeld ?_
        · obtain ⟨q0, q1, q2, q3, q4, q5, q6, q7⟩ := hW
          go_simp
        simp only [Act.put, List.setIfInBounds_toArray, List.set_cons_zero, List.set_cons_succ]
        refine wpAnyH_take (i := 15) (oi := { dst := some 16, op := Op.assign (Operand.tmp 34), type := 4, pos := "ref.go:75", after := #[{ on := 11, ground := Ground.data }, { on := 14, ground := Ground.chain }, { on := 0, ground := Ground.phase }, { on := 1, ground := Ground.phase }, { on := 2, ground := Ground.phase }, { on := 3, ground := Ground.phase }, { on := 4, ground := Ground.phase }, { on := 5, ground := Ground.phase }, { on := 6, ground := Ground.phase }, { on := 7, ground := Ground.phase }, { on := 8, ground := Ground.phase }, { on := 9, ground := Ground.phase }, { on := 10, ground := Ground.phase }, { on := 11, ground := Ground.phase }, { on := 12, ground := Ground.phase }, { on := 13, ground := Ground.phase }, { on := 14, ground := Ground.phase }], guard := none }) (v := .bool bell) rfl (by kernel_rfl) (by kernel_rfl) (by kernel_rfl) (fun _ _ _ h => h) (Or.inl ⟨by rfl, fun W hW => ?_⟩) hHeld ?_
        · obtain ⟨q0, q1, q2, q3, q4, q5, q6, q7⟩ := hW
          go_simp
        simp only [Act.put, List.setIfInBounds_toArray, List.set_cons_zero, List.set_cons_succ]
        refine wpAnyH_done (by kernel_rfl) ?_ _
        go_wp2_with fail
        go_meet
        exact ⟨_, _, _, _, _, rfl, rfl, rfl, HM⟩
      · go_simp
        refine hK.out _ _ (sPl FS.out (bAlloc (Below.refl _ _) _).drew) (fun hHeld2 => ?_)
        clear hK K hHeld
        have hHeld := hHeld2
        clear hHeld2
        try simp only [Act.put, List.setIfInBounds_toArray, List.set_cons_zero, List.set_cons_succ]
        refine wpAnyH_ready (rs := [7]) (by kernel_rfl) (by simp) ?_
        refine AllReadyH.cons (o := { dst := some 31, op := Op.call { callee := Callee.value (Operand.func 36), args := #[Operand.tmp 24, Operand.tmp 25, Operand.tmp 26, Operand.tmp 30], argTypes := #[25, 3, 30, 5] }, type := 43, pos := "ref.go:75", after := #[{ on := 0, ground := Ground.data }, { on := 1, ground := Ground.data }, { on := 2, ground := Ground.data }, { on := 6, ground := Ground.data }], guard := none }) rfl (fun K hK => ?_) AllReadyH.nil
        go_simp
        with_reducible refine (HKEY.out _ (bAlloc (Below.refl _ _) _).drew).mono ?_
        rintro e w4 ⟨Ax, cx, Bx, dx, Lx, rfl, e1x, e2x, hx, hy, hb4⟩
        have hbb := upD hb4
        have hz0 : SR 30 (wr.alloc (.cells #[.slice none 0 0, .int .i64 0, .bool false, .bool false] 30)).drew wr.heap.size [.slice none 0 0, .int .i64 0, .bool false, .bool false] := heap_alloc_new wr _
        have hz4 := SR.call hz0 hb4 hz0.lt
        have HM := keepd (midg_b (n := n3) (z := (t3 : Int)) (ov := ov3) (li := li3) hz4 (Nat.le_refl _) hbb e1x e2x hx hy)
        obtain ⟨y0, y1, y2, y3, y4, y5, y6, y7, y8⟩ := st_facts hz4
        go_wp2_with fail
        refine hK.out _ _ (sPl FS.out hbb) (fun hHeld2 => ?_)
        clear hK K hHeld
        have hHeld := hHeld2
        clear hHeld2
        try simp only [Act.put, List.setIfInBounds_toArray, List.set_cons_zero, List.set_cons_succ]
        refine wpAnyH_take (i := 8) (oi := { dst := some 23, op := Op.move (Operand.tmp 31), type := 43, pos := "ref.go:75", after := #[{ on := 7, ground := Ground.data }], guard := none }) (v := .tuple #[.agg #[.slice Ax n3 cx, .int .i64 (t3 : Int), .bool ov3, .bool li3], .slice Bx m3 dx, .bool bell]) rfl (by kernel_rfl) (by kernel_rfl) (by kernel_rfl) (fun _ _ _ h => h) (Or.inl ⟨by rfl, fun W hW => ?_⟩) hHeld ?_
        · obtain ⟨q0, q1, q2, q3, q4, q5, q6, q7⟩ := hW
          go_simp
        simp only [Act.put, List.setIfInBounds_toArray, List.set_cons_zero, List.set_cons_succ]
        refine wpAnyH_take (i := 9) (oi := { dst := some 32, op := Op.extract (Operand.tmp 23) 0, type := 30, pos := "ref.go:75", after := #[{ on := 8, ground := Ground.data }], guard := none }) (v := .agg #[.slice Ax n3 cx, .int .i64 (t3 : Int), .bool ov3, .bool li3]) rfl (by kernel_rfl) (by kernel_rfl) (by kernel_rfl) (fun _ _ _ h => h) (Or.inl ⟨by rfl, fun W hW => ?_⟩) hHeld ?_
        · obtain ⟨q0, q1, q2, q3, q4, q5, q6, q7⟩ := hW
          go_simp
        simp only [Act.put, List.setIfInBounds_toArray, List.set_cons_zero, List.set_cons_succ]
        refine wpAnyH_take (i := 10) (oi := { dst := some 33, op := Op.extract (Operand.tmp 23) 1, type := 35, pos := "ref.go:75", after := #[{ on := 8, ground := Ground.data }, { on := 13, ground := Ground.gcOnly Departure.lateStores }], guard := none }) (v := .slice Bx m3 dx) rfl (by kernel_rfl) (by kernel_rfl) (by kernel_rfl) (fun _ _ _ h => h) (Or.inl ⟨by rfl, fun W hW => ?_⟩) hHeld ?_
        · obtain ⟨q0, q1, q2, q3, q4, q5, q6, q7⟩ := hW
          go_simp
        simp only [Act.put, List.setIfInBounds_toArray, List.set_cons_zero, List.set_cons_succ]
        refine wpAnyH_take (i := 11) (oi := { dst := some 34, op := Op.extract (Operand.tmp 23) 2, type := 4, pos := "ref.go:75", after := #[{ on := 8, ground := Ground.data }, { on := 14, ground := Ground.gcOnly Departure.lateStores }], guard := none }) (v := .bool bell) rfl (by kernel_rfl) (by kernel_rfl) (by kernel_rfl) (fun _ _ _ h => h) (Or.inl ⟨by rfl, fun W hW => ?_⟩) hHeld ?_
        · obtain ⟨q0, q1, q2, q3, q4, q5, q6, q7⟩ := hW
          go_simp
        simp only [Act.put, List.setIfInBounds_toArray, List.set_cons_zero, List.set_cons_succ]
        refine wpAnyH_ready (rs := [13]) (by kernel_rfl) (by simp) ?_
        refine AllReadyH.cons (o := { dst := none, op := Op.store 30 (Operand.tmp 14) (Operand.tmp 32), type := 0, pos := "ref.go:75", after := #[{ on := 12, ground := Ground.data }, { on := 9, ground := Ground.data }, { on := 7, ground := Ground.chain }, { on := 0, ground := Ground.phase }, { on := 1, ground := Ground.phase }, { on := 2, ground := Ground.phase }, { on := 3, ground := Ground.phase }, { on := 4, ground := Ground.phase }, { on := 5, ground := Ground.phase }, { on := 6, ground := Ground.phase }, { on := 7, ground := Ground.phase }, { on := 8, ground := Ground.phase }, { on := 9, ground := Ground.phase }, { on := 10, ground := Ground.textOnly Departure.lateStores }, { on := 11, ground := Ground.textOnly Departure.lateStores }, { on := 12, ground := Ground.phase }], guard := none }) rfl (fun K hK => ?_) AllReadyH.nil
        go_simp
        refine hK.out _ _ (sPl FS.out HM.out.2.2.2) (fun hHeld2 => ?_)
        clear hK K hHeld
        have hHeld := hHeld2
        clear hHeld2
        try simp only [Act.put, List.setIfInBounds_toArray, List.set_cons_zero, List.set_cons_succ]
        refine wpAnyH_take (i := 14) (oi := { dst := some 15, op := Op.assign (Operand.tmp 33), type := 35, pos := "ref.go:75", after := #[{ on := 10, ground := Ground.data }, { on := 13, ground := Ground.chain }, { on := 0, ground := Ground.phase }, { on := 1, ground := Ground.phase }, { on := 2, ground := Ground.phase }, { on := 3, ground := Ground.phase }, { on := 4, ground := Ground.phase }, { on := 5, ground := Ground.phase }, { on := 6, ground := Ground.phase }, { on := 7, ground := Ground.phase }, { on := 8, ground := Ground.phase }, { on := 9, ground := Ground.phase }, { on := 10, ground := Ground.phase }, { on := 11, ground := Ground.textOnly Departure.lateStores }, { on := 12, ground := Ground.phase }, { on := 13, ground := Ground.phase }], guard := none }) (v := .slice Bx m3 dx) rfl (by kernel_rfl) (by kernel_rfl) (by kernel_rfl) (fun _ _ _ h => h) (Or.inl ⟨by rfl, fun W hW => ?_⟩) hHeld ?_
        · obtain ⟨q0, q1, q2, q3, q4, q5, q6, q7⟩ := hW
          go_simp
        simp only [Act.put, List.setIfInBounds_toArray, List.set_cons_zero, List.set_cons_succ]
        refine wpAnyH_take (i := 15) (oi := { dst := some 16, op := Op.assign (Operand.tmp 34), type := 4, pos := "ref.go:75", after := #[{ on := 11, ground := Ground.data }, { on := 14, ground := Ground.chain }, { on := 0, ground := Ground.phase }, { on := 1, ground := Ground.phase }, { on := 2, ground := Ground.phase }, { on := 3, ground := Ground.phase }, { on := 4, ground := Ground.phase }, { on := 5, ground := Ground.phase }, { on := 6, ground := Ground.phase }, { on := 7, ground := Ground.phase }, { on := 8, ground := Ground.phase }, { on := 9, ground := Ground.phase }, { on := 10, ground := Ground.phase }, { on := 11, ground := Ground.phase }, { on := 12, ground := Ground.phase }, { on := 13, ground := Ground.phase }, { on := 14, ground := Ground.phase }], guard := none }) (v := .bool bell) rfl (by kernel_rfl) (by kernel_rfl) (by kernel_rfl) (fun _ _ _ h => h) (Or.inl ⟨by rfl, fun W hW => ?_⟩) hHeld ?_
        · obtain ⟨q0, q1, q2, q3, q4, q5, q6, q7⟩ := hW
          go_simp
        simp only [Act.put, List.setIfInBounds_toArray, List.set_cons_zero, List.set_cons_succ]
        refine wpAnyH_done (by kernel_rfl) ?_ _
        go_wp2_with fail
        go_meet
        exact ⟨_, _, _, _, _, rfl, rfl, rfl, HM⟩
    case rest =>
      obtain ⟨b14, Ax, cx, Bx, dx, rfl, rfl, rfl, HMG⟩ := hcut
      obtain ⟨V3, hV3'⟩ : ∃ V3, V3 = wc := ⟨_, rfl⟩
      subst hV3'
      obtain ⟨G1, G2, ⟨Lx, gl1, gl2, G3⟩, G4⟩ := HMG.out
      obtain ⟨p0, p1, p2, p3, _, _, _, _, pt⟩ := st_facts G1
      have hst3 := SR.call HI.out.st G4 HI.out.st.lt
      obtain ⟨k0, k1, k2, k3, s0, s1, s2, s3, kt⟩ := st_facts hst3
      go_upto_region 8 with fail
      generalize hV8 : (((V3.setCell ⟨w.heap.size + 1, 0, none⟩ (.slice Ax n3 cx)).setCell ⟨w.heap.size + 1, 1, none⟩ (.int .i64 (t3 : Int))).setCell ⟨w.heap.size + 1, 2, none⟩ (.bool ov3)).setCell ⟨w.heap.size + 1, 3, none⟩ (.bool li3) = V8
      have hv8 : V8 = set4 V3 (w.heap.size + 1) (.slice Ax n3 cx) (.int .i64 (t3 : Int)) (.bool ov3) (.bool li3) := hV8.symm
      clear hV8
      have hh8 : ∀ g, g ≠ w.heap.size + 1 → V8.heap[g]? = V3.heap[g]? := fun g hg => by rw [hv8]; exact set4_heap _ _ _ _ _ _ hg
      have hsz8 : V8.heap.size = V3.heap.size := by rw [hv8]; exact set4_size _ _ _ _ _ _
      have hr8 : ∀ (B : Option Addr) (y : List UInt8) (q : Nat), Rd V3 V3.heap.size B y q → Rd V8 V8.heap.size B y q := fun B y q h => h.setSt hst3 (by rw [hsz8]; exact Nat.le_refl _) hh8
      have hown3 : OwnE V3 (w.heap.size + 3) (.slice Bv mv dv) L := HI.out.own.of_block fun g hg => G4.block g (HI.out.own.ge g hg).2
      have hnou3 : NoU V3 (.slice Bv mv dv) := HI.out.nou.call HI.out.own G4
      have HO8 : Hid (OwnE V8 (w.heap.size + 3) (.slice Bv mv dv) L) := hown3.of_block fun g hg => hh8 g (by have := (hown3.ge g hg).1; omega)
      have HN8 : Hid (NoU V8 (.slice Bv mv dv)) := hnou3.of_block fun g hg => hh8 g (by have := (hown3.ge g hg).1; omega)
      have HS8 : Hid (SR 30 V8 (w.heap.size + 1) [.slice Ax n3 cx, .int .i64 (t3 : Int), .bool ov3, .bool li3]) := by rw [hv8]; exact set4_sr hst3
      have HR8 := keepd (hr8 _ _ _ G2)
      have HE8 : Hid (RdE V8 Bx Lx dx) := G3.setSt hst3 (by rw [hsz8]; exact Nat.le_refl _) hh8
      have HX8 : Hid (∀ x ∈ L, Rd V8 V8.heap.size x.A x.l x.c) := fun x hx => hr8 _ _ _ ((HI.out.evs x hx).at_ G4)
      have HT8 : Hid (TB V8 w.heap.size X) := (hh8 _ (by omega)).trans (SR.call HI.out.tb G4 (SR.lt HI.out.tb))
      have HZ8 : Hid (SR 30 V8 (w.heap.size + 2) [.slice none 0 0, .int .i64 0, .bool false, .bool false]) := (hh8 _ (by omega)).trans (SR.call HI.out.res G4 HI.out.res.lt)
      have HB8 : Hid (Below w.heap.size w V8) := by rw [hv8]; exact set4_below (bCall HBr.out G4) (by omega)
      have HLX := keepd (And.intro gl1 gl2)
      have hb38 : w.heap.size + 3 ≤ V8.heap.size := by have : w.heap.size + 2 < V8.heap.size := HZ8.out.lt; omega
      clear hv8 hh8 hsz8 hr8 hown3 hnou3 hst3 G1 G2 G3 G4 gl1 gl2 HMG p0 p1 p2 p3 pt k0 k1 k2 k3 s0 s1 s2 s3 kt FS HKEY HBr
      go_wp2_with (at_builtin; refine wpList_appEN _ rfl (.tmp 36) (.tmp 37) rfl (w.heap.size + 3) (.slice Bv mv dv) L rfl HO8.out HN8.out Bx m3 dx Lx rfl HLX.out.2.symm HE8.out ?_ hb38 ?_)
      · have h1 := HFEW.out
        have h2 := HLX.out.2
        have h3 := HM3.out
        have h4 := HMV.out
        omega
      intro v9 w9 ho hno hg hat
      have hn9 : ∀ g, g < w.heap.size + 3 → (Value.slice Bv mv dv).ownBlock ≠ some g := fun g hg e => by have := (HO8.out.ge g e).1; omega
      have HI9 : Hid (RI w X room us S0 (j + 1) v9 (L ++ Lx) Ax l3 n3 cx t3 ov3 li3 (be2 + be3) w9) := by
        refine ⟨ho, hno, fun x hx => ?_, sr_grow HS8.out hg (hn9 _ (by omega)), HN3.out.symm, HR8.out.grow hg HN8.out, sr_grow HT8.out hg (hn9 _ (by omega)), sr_grow HZ8.out hg (hn9 _ (by omega)), ?_, HB8.out.trans ((HO8.out.belowE hg hb38).mono (by omega))⟩
        · rcases List.mem_append.1 hx with hx | hx
          · exact (HX8.out x hx).grow hg HN8.out
          · exact (HE8.out.2.2.2 x hx).grow hg HN8.out
        · rw [HST.out, List.map_append, HLX.out.1]
      clear ho hno hg hat hn9
      cases bell
      · have hb3 : be3 = 0 := by have := HBL.out; simpa using this
        subst hb3
        go_wp2_with fail
        go_roundw
        case rel => exact ⟨j + 1, v9, L ++ Lx, Ax, l3, n3, cx, t3, ov3, li3, be2 + 0, by omega, rfl, by rw [Nat.add_zero], by go_num, HI9⟩
        case measure => simp [intOf]; omega
      · have hb3 : be3 = 1 := by have h1 := HBL.out; have h2 := HFEW.out.2.2; simp only [decide_eq_true_eq] at h1; omega
        subst hb3
        have hbb := HFEW.out.1.2
        have hw : IntKind.i64.wrap ((be2 : Int) + 1) = (be2 : Int) + 1 := by rw [IntKind.wrap_i64]; omega
        go_wp2_with fail
        go_roundw
        case rel => exact ⟨j + 1, v9, L ++ Lx, Ax, l3, n3, cx, t3, ov3, li3, be2 + 1, by omega, rfl, by go_num, by go_num, HI9⟩
        case measure => simp [intOf]; omega

end Go.Proofs.YtjhocmeenejjpaaDoor
