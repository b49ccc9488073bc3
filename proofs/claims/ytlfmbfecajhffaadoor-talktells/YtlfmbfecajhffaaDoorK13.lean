/-
  A key typed in a talk, by the document's own. No conditions beyond those each theorem states.
-/
import Derived.Test.YtlfmbfecajhffaaDoorK12
namespace Go.Proofs.YtlfmbfecajhffaaDoor
open Go.RowKit
set_option maxRecDepth 100000

attribute [local go_sem ↓] ex_ld25 ex_st25 ex_al25 ex_bu25 ex_ix25 ex_eq25 ex_ne25 ex_eq23 ex_ne23 ex_ld25o ex_st65 ex_al65 ex_bu65 ex_bu65s ex_ld25d
attribute [local go_sem] ptrB_at okPtr_at aggC_at agg62 agg69 isC_at isT_at eqV_t eqV_c isRow_new isRow_new65 World.setRow_alloc_new ptr4_at okPtr4_at cutT_at isI_at isS_at bW_at bWs_at ptrD_at okPtrD_at cutD_at

theorem sRt {V W : World} {g b q n c : Nat} {X : Tb} {A : Option Addr} {z : Int} {ov li e f : Bool} {u : UInt8} (hT : TB V g X) (hS : SR 32 V b [.slice A n c, .int .i64 z, .bool ov, .bool li]) (hH : SR 36 V q [.int .u8 (u.toNat : Int), .bool e, .bool f]) (hb : Below V.heap.size V W) :
    rowOf W g = (cs X).toArray ∧ isRow W 25 g 62 = true ∧ W.cell? ⟨b, 0, none⟩ = some (.slice A n c) ∧ W.cell? ⟨b, 1, none⟩ = some (.int .i64 z) ∧ W.cell? ⟨b, 2, none⟩ = some (.bool ov) ∧ W.cell? ⟨b, 3, none⟩ = some (.bool li) ∧ W.cell? ⟨q, 0, none⟩ = some (.int .u8 (u.toNat : Int)) := by
  obtain ⟨a1, a2⟩ := TB.facts (SR.call hT hb (SR.lt hT))
  have h1 := SR.call hS hb hS.lt
  exact ⟨a1, a2, h1.cell 0, h1.cell 1, h1.cell 2, h1.cell 3, (SR.call hH hb hH.lt).cell 0⟩
theorem sRo {W : World} {g b q n c : Nat} {X : Tb} {A : Option Addr} {z : Int} {ov li e f : Bool} {u : UInt8} (hT : TB W g X) (hS : SR 32 W b [.slice A n c, .int .i64 z, .bool ov, .bool li]) (hH : SR 36 W q [.int .u8 (u.toNat : Int), .bool e, .bool f]) :
    rowOf W g = (cs X).toArray ∧ isRow W 25 g 62 = true ∧ W.cell? ⟨b, 0, none⟩ = some (.slice A n c) ∧ W.cell? ⟨b, 1, none⟩ = some (.int .i64 z) ∧ W.cell? ⟨b, 2, none⟩ = some (.bool ov) ∧ W.cell? ⟨b, 3, none⟩ = some (.bool li) ∧ W.cell? ⟨q, 0, none⟩ = some (.int .u8 (u.toNat : Int)) := by
  obtain ⟨a1, a2⟩ := TB.facts hT
  exact ⟨a1, a2, hS.cell 0, hS.cell 1, hS.cell 2, hS.cell 3, hH.cell 0⟩
theorem rtyt_new (w : World) (X : Tb) (a b x y h a' b' x' y' h' k s r p q o : Value) (V : World) (hV : ((((w.alloc (.cells (cs X).toArray 25)).alloc (.cells #[a, b, x, y, h] 34)).alloc (.cells #[p, q, o] 36)).alloc (.cells #[a', b', x', y', h'] 34)).alloc (.cells #[k, s, r] 41) = V) :
    Hid (TB V w.heap.size X) ∧ Hid (SR 34 V (w.heap.size + 1) [a, b, x, y, h]) ∧ Hid (SR 36 V (w.heap.size + 1 + 1) [p, q, o]) ∧ Hid (SR 34 V (w.heap.size + 1 + 1 + 1) [a', b', x', y', h']) ∧ Hid (SR 41 V (w.heap.size + 1 + 1 + 1 + 1) [k, s, r]) ∧ Hid (Below w.heap.size w V) := by
  obtain ⟨h1, h2, h3⟩ := tabtk_new w X a b x y h _ rfl
  have e1 : ((w.alloc (.cells (cs X).toArray 25)).alloc (.cells #[a, b, x, y, h] 34)).heap.size = w.heap.size + 1 + 1 := by simp only [World.size_alloc]
  generalize (w.alloc (.cells (cs X).toArray 25)).alloc (.cells #[a, b, x, y, h] 34) = V1 at *
  have h4 := SR.new 36 V1 [p, q, o]
  have h5 := SR.new 34 (V1.alloc (.cells #[p, q, o] 36)) [a', b', x', y', h']
  have h6 := SR.new 41 ((V1.alloc (.cells #[p, q, o] 36)).alloc (.cells #[a', b', x', y', h'] 34)) [k, s, r]
  simp only [World.size_alloc, e1] at h4 h5 h6
  subst hV
  exact ⟨SR.alloc (SR.alloc (SR.alloc h1.out _) _) _, SR.alloc (SR.alloc (SR.alloc h2.out _) _) _, SR.alloc (SR.alloc h4 _) _, SR.alloc h5 _, h6, bAlloc (bAlloc (bAlloc h3.out _) _) _⟩
theorem how_facts {V : World} {g : Nat} {a b x : Value} (H : SR 36 V g [a, b, x]) : V.cell? ⟨g, 0, none⟩ = some a ∧ V.cell? ⟨g, 1, none⟩ = some b ∧ V.cell? ⟨g, 2, none⟩ = some x ∧ g < V.heap.size := ⟨H.cell 0, H.cell 1, H.cell 2, H.lt⟩

set_option maxHeartbeats 4000000 in
theorem rtype_bad (X : Tb) (room : Int) (A : Option Addr) (l : List UInt8) (n c : Nat) (z : Int) (ov li h : Bool) (u : UInt8) (edit fwd : Bool) (w : World) (hr : Rd w w.heap.size A l c) (hm : mayV n z = false) :
    Calls Tryd.prog 13 #[tv X, .int .i64 room, .agg #[.slice A n c, .int .i64 z, .bool ov, .bool li, .bool h], .agg #[.int .u8 (u.toNat : Int), .bool edit, .bool fwd]] w (GotTy w l n z ov li h [] 0 0 false) := by
  have CM := keepd fun W : World => ermay_any A n c z ov li false W hm
  have HR := keepd hr
  clear hr hm
  go_enter Tryd.func13, Tryd.ntmps13
  go_upto_region 1 with fail
  generalize hV : ((((w.alloc (.cells (cs X).toArray 25)).alloc (.cells #[.slice A n c, .int .i64 z, .bool ov, .bool li, .bool h] 34)).alloc (.cells #[.int .u8 (u.toNat : Int), .bool edit, .bool fwd] 36)).alloc (.cells #[.slice none 0 0, .int .i64 0, .bool false, .bool false, .bool false] 34)).alloc (.cells #[.slice none 0 0, .int .i64 0, .bool false] 41) = V
  obtain ⟨HT, HK, HH, HZ, HY, HB⟩ := rtyt_new _ _ _ _ _ _ _ _ _ _ _ _ _ _ _ _ _ _ _ hV
  obtain ⟨k0, k1, k2, k3, k4, _, _, _, _, _, kt⟩ := tk_facts HK.out
  clear hV
  go_wp2_with fail
  with_reducible refine (CM.out _).mono ?_
  rintro e w1 ⟨rfl, hb1⟩
  have HK1 := keepd (SR.call HK.out hb1 HK.out.lt)
  have HZ1 := keepd (SR.call HZ.out hb1 HZ.out.lt)
  have HY1 := keepd (SR.call HY.out hb1 HY.out.lt)
  have HB1 := keepd (bCall HB.out hb1)
  clear k0 k1 k2 k3 k4 kt hb1 CM HT HK HZ HY HB
  obtain ⟨k0, k1, k2, k3, k4, _, _, _, _, _, kt⟩ := tk_facts HK1.out
  obtain ⟨j0, j1, j2, j3, j4, r0, r1, r2, r3, r4, jt⟩ := tk_facts HZ1.out
  obtain ⟨i0, i1, i2, s0, s1, s2, it⟩ := ty_facts HY1.out
  obtain ⟨E1, E2, E3, E4⟩ := set8_end HZ1.out HY1.out (by omega) HB1.out (by omega) (by omega) A n c z ov li h (.slice none 0 0) (.int .i64 0) (.bool false)
  have HE1 := keepd (E1 _ _ _ (HR.out.at_ HB1.out))
  have HE2 := keepd E2
  clear E1 E2 E3 E4
  go_wp2_with fail
  refine bodyPost_ret (v := .tuple #[.agg #[.slice A n c, .int .i64 z, .bool ov, .bool li, .bool h], .agg #[.slice none 0 0, .int .i64 0, .bool false]]) (by simp [results, Tryd.results13, go_sem, j0, j1, j2, j3, j4, i0, i1, i2]) rfl ?_
  exact ⟨A, c, none, 0, rfl, HE1.out, Rd.nil _ _, HE2.out⟩

set_option maxHeartbeats 16000000 in
theorem rtype_good (X : Tb) (hX : TbO X) (room : Int) (A : Option Addr) (l : List UInt8) (n c t : Nat) (ov li h : Bool) (u : UInt8) (edit fwd : Bool) (w : World) (hn : n = l.length) (hr : Rd w w.heap.size A l c) (h1 : t ≤ n) (h2 : n ≤ 4096)
    (l1 : List UInt8) (n1 t1 : Nat) (ov1 li1 h' : Bool) (ks : List UInt8) (m sg be : Nat) (bell : Bool) (hp : typeT X room ⟨⟨l, t, ov, li⟩, h⟩ u edit fwd = (⟨⟨l1, t1, ov1, li1⟩, h'⟩, ⟨ks, sg, be⟩)) (hn1 : l1.length = n1) (hm : ks.length = m) (hb : decide (0 < be) = bell) :
    Calls Tryd.prog 13 #[tv X, .int .i64 room, .agg #[.slice A n c, .int .i64 (t : Int), .bool ov, .bool li, .bool h], .agg #[.int .u8 (u.toNat : Int), .bool edit, .bool fwd]] w (GotTy w l1 n1 (t1 : Int) ov1 li1 h' ks m (sg : Int) bell) := by
  have hmay : mayV n (t : Int) = true := mayV_nat h2 h1
  have hok : Ed.ok ⟨l, t, ov, li⟩ := ⟨by rw [← hn]; exact h1, by rw [← hn]; exact h2⟩
  obtain ⟨es, hes⟩ : ∃ es, (keyE X room ⟨l, t, ov, li⟩ u).es = es := ⟨_, rfl⟩
  obtain ⟨m1, hm1⟩ : ∃ m1, es.length = m1 := ⟨_, rfl⟩
  have hkey : keyE X room ⟨l, t, ov, li⟩ u = ⟨⟨l1, t1, ov1, li1⟩, es, be⟩ := by
    obtain ⟨e1, e2⟩ := typeT_s X room ⟨⟨l, t, ov, li⟩, h⟩ u edit fwd
    rw [hp] at e1 e2
    simp only at e1 e2
    rw [← hes, e1, e2]
  have hok1 : Ed.ok ⟨l1, t1, ov1, li1⟩ := by have := keyE_ok hok X room u; rw [hkey] at this; exact this
  obtain ⟨q, hq⟩ : ∃ q, isZ ⟨l, t, ov, li⟩ = q := ⟨_, rfl⟩
  obtain ⟨d, hd⟩ : ∃ d, byKey h q edit m1 = d := ⟨_, rfl⟩
  have HD := keepd hd
  have hd' : byKey h (isZ ⟨l, t, ov, li⟩) edit (keyE X room ⟨l, t, ov, li⟩ u).es.length = d := by rw [hq, hes, hm1]; exact hd
  have HTY : Hid (if d then h' = false ∧ ks = (if h then keysL X ⟨l, t, ov, li⟩ else []) ++ [u] ∧ sg = sgT X ⟨l, t, ov, li⟩ u else sg = 0 ∧ h' = !(fwd && !isZ ⟨l1, t1, ov1, li1⟩) ∧ ks = if fwd && !isZ ⟨l1, t1, ov1, li1⟩ then keysL X ⟨l1, t1, ov1, li1⟩ else []) := by
    show ite _ _ _
    cases d
    · have e := (typeT_not (fwd := fwd) hd').symm.trans hp
      rw [hkey] at e
      simp only [Bool.false_eq_true, if_false]
      cases hc : (fwd && !isZ ⟨l1, t1, ov1, li1⟩)
      · rw [hc] at e
        simp only [Bool.false_eq_true, if_false, Prod.mk.injEq, Tk.mk.injEq, Ty.mk.injEq] at e
        exact ⟨e.2.2.1.symm, e.1.2.symm, e.2.1.symm⟩
      · rw [hc] at e
        simp only [if_true, Prod.mk.injEq, Tk.mk.injEq, Ty.mk.injEq] at e
        exact ⟨e.2.2.1.symm, e.1.2.symm, e.2.1.symm⟩
    · have e := (typeT_by (fwd := fwd) hd').symm.trans hp
      rw [hkey] at e
      simp only [Prod.mk.injEq, Tk.mk.injEq, Ty.mk.injEq] at e
      simp only [if_true]
      exact ⟨e.1.2.symm, e.2.1.symm, e.2.2.1.symm⟩
  have CM := keepd fun W : World => ermay_any A n c (t : Int) ov li true W hmay
  have CY := keepd fun (W : World) (hb' : Below w.heap.size w W) => rek_any X room A l n c t ov li u W hn (hr.at_ hb') h1 h2 l1 n1 t1 ov1 li1 es m1 be bell hkey hn1 hm1 hb
  have CE := keepd fun (W : World) (hb' : Below w.heap.size w W) => ersame_any A none l [] n 0 c 0 (t : Int) 0 ov false li false q W hn rfl (hr.at_ hb') (Rd.nil _ _) (by rw [← isZ_same, hq])
  obtain ⟨L, hL⟩ : ∃ L, keysL X ⟨l, t, ov, li⟩ = L := ⟨_, rfl⟩
  have hLle : L.length ≤ 20000 := by rw [← hL]; have := (keysL_len X ⟨l, t, ov, li⟩).1; have h3 : l.length ≤ 4096 := hok.2; simp only at this; omega
  obtain ⟨L1, hL1⟩ : ∃ L1, keysL X ⟨l1, t1, ov1, li1⟩ = L1 := ⟨_, rfl⟩
  obtain ⟨kL0, hkL0⟩ : ∃ k, L.length = k := ⟨_, rfl⟩
  have CP := keepd fun (W : World) (hb' : Below w.heap.size w W) => rkgood_any X hX A l n c t ov li W hn (hr.at_ hb') h1 h2 L kL0 hL hkL0
  obtain ⟨mu, hmu⟩ : ∃ mu, meanF X (u.toNat : Int) = mu := ⟨_, rfl⟩
  obtain ⟨sg1, hsg1⟩ : ∃ sg1, sgT X ⟨l, t, ov, li⟩ u = sg1 := ⟨_, rfl⟩
  have CU := keepd fun W : World => refMeaning_any X (u.toNat : Int) mu hmu W
  have HSG : Hid ((if li || decide (9 < mu) then 0 else mu) = sg1) := by show ite _ _ _ = _; rw [← hsg1]; unfold sgT; rw [hmu]
  obtain ⟨q1, hq1⟩ : ∃ q1, isZ ⟨l1, t1, ov1, li1⟩ = q1 := ⟨_, rfl⟩
  rw [hL, hsg1, hq1, hL1] at HTY
  have CZ := keepd fun (W : World) (A1 : Option Addr) (c1 : Nat) (hr' : Rd W W.heap.size A1 l1 c1) => ersame_any A1 none l1 [] n1 0 c1 0 (t1 : Int) 0 ov1 false li1 false q1 W hn1.symm rfl hr' (Rd.nil _ _) (by rw [← isZ_same]; exact hq1)
  have CK1x := keepd fun (W : World) (A1 : Option Addr) (c1 : Nat) (hks : ks = L1) (hr' : Rd W W.heap.size A1 l1 c1) => rkgood_any X hX A1 l1 n1 c1 t1 ov1 li1 W hn1.symm hr' (by rw [← hn1]; exact hok1.1) (by rw [← hn1]; exact hok1.2) ks m (by rw [hks]; exact hL1) hm
  have HKL := keepd hkL0
  have HLE := keepd hLle
  have HM := keepd hm
  have HM1 := keepd hm1
  clear hX hn hr h1 h2 hp hn1 hm hb hmay hok hes hm1 hkey hok1 hq hd hd' hL hLle hL1 hmu hsg1 hq1 hkL0
  go_enter Tryd.func13, Tryd.ntmps13
  go_upto_region 1 with fail
  generalize hV : ((((w.alloc (.cells (cs X).toArray 25)).alloc (.cells #[.slice A n c, .int .i64 (t : Int), .bool ov, .bool li, .bool h] 34)).alloc (.cells #[.int .u8 (u.toNat : Int), .bool edit, .bool fwd] 36)).alloc (.cells #[.slice none 0 0, .int .i64 0, .bool false, .bool false, .bool false] 34)).alloc (.cells #[.slice none 0 0, .int .i64 0, .bool false] 41) = V
  obtain ⟨HT, HK, HH, HZ, HY, HB⟩ := rtyt_new _ _ _ _ _ _ _ _ _ _ _ _ _ _ _ _ _ _ _ hV
  obtain ⟨k0, k1, k2, k3, k4, _, _, _, _, _, kt⟩ := tk_facts HK.out
  clear hV
  go_wp2_with fail
  with_reducible refine (CM.out _).mono ?_
  rintro e w1 ⟨rfl, hb1⟩
  have HT1 := keepd (SR.call HT.out hb1 (SR.lt HT.out))
  have HK1 := keepd (SR.call HK.out hb1 HK.out.lt)
  have HH1 := keepd (SR.call HH.out hb1 HH.out.lt)
  have HZ1 := keepd (SR.call HZ.out hb1 HZ.out.lt)
  have HY1 := keepd (SR.call HY.out hb1 HY.out.lt)
  have HB1 := keepd (bCall HB.out hb1)
  clear k0 k1 k2 k3 k4 kt hb1 CM HT HK HH HZ HY HB
  obtain ⟨k0, k1, k2, k3, k4, _, _, _, _, _, kt⟩ := tk_facts HK1.out
  obtain ⟨q0, q1'⟩ := TB.facts HT1.out
  obtain ⟨f0, f1, f2, ft⟩ := how_facts HH1.out
  go_wp2_with fail
  with_reducible refine (CY.out _ HB1.out).mono ?_
  rintro e w4 ⟨A1, c1, B1, d1, Le, rfl, _, hLm, hr4, _, hb4⟩
  have HT4 := keepd (SR.call HT1.out hb4 (SR.lt HT1.out))
  have HK4 := keepd (SR.call HK1.out hb4 HK1.out.lt)
  have HH4 := keepd (SR.call HH1.out hb4 HH1.out.lt)
  have HZ4 := keepd (SR.call HZ1.out hb4 HZ1.out.lt)
  have HY4 := keepd (SR.call HY1.out hb4 HY1.out.lt)
  have HB4 := keepd (bCall HB1.out hb4)
  have HO4 := keepd hr4
  clear k0 k1 k2 k3 k4 kt q0 q1' f0 f1 f2 ft hb4 hr4 hLm CY HT1 HK1 HH1 HZ1 HY1 HB1
  go_upto_region 5 with fail
  generalize hV : (w4.alloc (.cells #[.slice A1 n1 c1, .int .i64 (t1 : Int), .bool ov1, .bool li1] 32)).alloc (.cells #[.slice none 0 0, .int .i64 0, .bool false, .bool false] 32) = V5
  generalize hb10 : w4.heap.size = b10
  obtain ⟨HS5, HN5, HBx⟩ := st_new2 _ _ _ _ _ _ _ _ _ _ hV
  rw [hb10] at HS5 HN5
  have HT5 : Hid (TB V5 w.heap.size X) := SR.call HT4.out HBx.out (SR.lt HT4.out)
  have HK5 := keepd (SR.call HK4.out HBx.out HK4.out.lt)
  have HH5 := keepd (SR.call HH4.out HBx.out HH4.out.lt)
  have HZ5 := keepd (SR.call HZ4.out HBx.out HZ4.out.lt)
  have HY5 := keepd (SR.call HY4.out HBx.out HY4.out.lt)
  have HB5 := keepd (bCall HB4.out HBx.out)
  have HR5 := keepd (HO4.out.at_ HBx.out)
  have LBT : Hid (w.heap.size + 1 + 1 + 1 + 1 < b10) := by show _ < _; rw [← hb10]; exact HY4.out.lt
  clear hV hb10 HBx HT4 HK4 HH4 HZ4 HY4 HB4 HO4
  obtain ⟨k0, k1, k2, k3, k4, _, _, _, _, _, kt⟩ := tk_facts HK5.out
  go_cut [14] from 35 to 42 (fun s14 wx => s14 = .bool (h || q) ∧ Hid (Below V5.heap.size V5 wx))
  case first =>
    obtain ⟨n0, n1', n2, n3, _, _, _, _, nt⟩ := st_facts HN5.out
    cases h
    case true =>
      go_wp2_with fail
      go_meet
      exact ⟨rfl, Below.refl _ _⟩
    case false =>
      go_wp2_with fail
      with_reducible refine (CE.out _ HB5.out).mono ?_
      rintro e w6 ⟨rfl, hb6⟩
      have HB6 := keepd hb6
      clear hb6
      go_wp2_with fail
      go_meet
      exact ⟨rfl, HB6.out⟩
  case rest =>
    obtain ⟨rfl, HBc⟩ := hcut
    obtain ⟨V6, hV6⟩ : ∃ V6, V6 = wc := ⟨_, rfl⟩
    subst hV6
    clear k0 k1 k2 k3 k4 kt CE
    obtain ⟨aa, haa⟩ : ∃ aa, (h || q) = aa := ⟨_, rfl⟩
    rw [haa]
    obtain ⟨f0, f1, f2, ft⟩ := how_facts (show SR 36 V6 (w.heap.size + 1 + 1) _ from SR.call HH5.out HBc.out HH5.out.lt)
    go_upto_region 6 with fail
    go_cut [52] from 43 to 52 (fun s52 wx => s52 = .bool (!d) ∧ V6 = wx)
    case first =>
      cases edit
      case false =>
        obtain rfl : d = true := by rw [← HD.out]; rfl
        go_wp2_with fail
        go_meet
        exact ⟨rfl, rfl⟩
      case true =>
        cases aa
        case false =>
          obtain rfl : d = true := by rw [← HD.out]; unfold byKey; cases h <;> cases q <;> simp_all
          go_wp2_with fail
          go_meet
          exact ⟨rfl, rfl⟩
        case true =>
          by_cases hm0 : m1 = 0
          · obtain rfl : d = false := by rw [← HD.out]; unfold byKey; cases h <;> cases q <;> simp_all
            have a1 : ((m1 : Int) == 0) = true := by simp [hm0]
            go_wp2_with fail
            go_meet
            exact ⟨rfl, rfl⟩
          · obtain rfl : d = true := by rw [← HD.out]; unfold byKey; have : 0 < m1 := by omega
                                        simp [this]
            have a1 : ((m1 : Int) == 0) = false := by simp [hm0]
            have a2 : ¬ (m1 : Int) = 0 := by omega
            go_wp2_with fail
            go_meet
            exact ⟨rfl, rfl⟩
    case rest =>
      obtain ⟨rfl, rfl⟩ := hcut
      clear f0 f1 f2 ft haa HD
      cases d
      case false =>
        obtain ⟨rfl, hh', hks⟩ := (show _ ∧ _ ∧ _ by have := HTY.out; rwa [if_neg (by decide)] at this : sg = 0 ∧ h' = !(fwd && !q1) ∧ ks = if fwd && !q1 then L1 else [])
        obtain ⟨f0, f1, f2, ft⟩ := how_facts (show SR 36 V6 (w.heap.size + 1 + 1) _ from SR.call HH5.out HBc.out HH5.out.lt)
        obtain ⟨v0, v1, v2, v3, _, _, _, _, vt⟩ := st_facts (show SR 32 V6 b10 _ from SR.call HS5.out HBc.out HS5.out.lt)
        obtain ⟨n0, n1', n2, n3, _, _, _, _, nt⟩ := st_facts (show SR 32 V6 (b10 + 1) _ from SR.call HN5.out HBc.out HN5.out.lt)
        have fin : ∀ W : World, Below V5.heap.size V5 W → ks = [] → h' = true → GotTy w l1 n1 (t1 : Int) ov1 li1 h' ks m 0 bell (.returned (.tuple #[.agg #[.slice A1 n1 c1, .int .i64 (t1 : Int), .bool ov1, .bool li1, .bool true], .agg #[.slice none 0 0, .int .i64 0, .bool bell]])) (set3 (set5 W (w.heap.size + 1 + 1 + 1) (.slice A1 n1 c1) (.int .i64 (t1 : Int)) (.bool ov1) (.bool li1) (.bool true)) (w.heap.size + 1 + 1 + 1 + 1) (.slice none 0 0) (.int .i64 0) (.bool bell)) := by
          intro W hb hk1 hh1
          obtain ⟨E1, E2, E3, E4⟩ := set8_end (SR.call HZ5.out hb HZ5.out.lt) (SR.call HY5.out hb HY5.out.lt) (by omega) (bCall HB5.out hb) (by omega) (by omega) A1 n1 c1 (t1 : Int) ov1 li1 true (.slice none 0 0) (.int .i64 0) (.bool bell)
          have hm0 := HM.out
          rw [hk1] at hm0 ⊢
          obtain rfl : m = 0 := hm0.symm
          subst hh1
          exact ⟨A1, c1, none, 0, rfl, E1 _ _ _ (HR5.out.at_ hb), Rd.nil _ _, E2⟩
        have FIN := keepd fin
        clear fin
        cases fwd
        case false =>
          have F := keepd (FIN.out V6 HBc.out hks hh')
          obtain ⟨j0, j1, j2, j3, j4, r0, r1, r2, r3, r4, jt⟩ := tk_facts (SR.call HZ5.out HBc.out HZ5.out.lt)
          obtain ⟨i0, i1, i2, s0, s1, s2, it⟩ := ty_facts (SR.call HY5.out HBc.out HY5.out.lt)
          clear hks hh'
          go_wp2_with fail
          refine bodyPost_ret (v := .tuple #[.agg #[.slice A1 n1 c1, .int .i64 (t1 : Int), .bool ov1, .bool li1, .bool true], .agg #[.slice none 0 0, .int .i64 0, .bool bell]]) (by simp [results, Tryd.results13, go_sem, j0, j1, j2, j3, j4, i0, i1, i2]) rfl ?_
          exact F.out
        case true =>
          have CZx := keepd (CZ.out V6 A1 c1 (HR5.out.at_ HBc.out))
          cases q1
          case true =>
            go_wp2_with fail
            with_reducible refine CZx.out.mono ?_
            rintro e w8 ⟨rfl, hb8⟩
            have hbx := bCall HBc.out hb8
            have F := keepd (FIN.out w8 hbx hks hh')
            clear f0 f1 f2 ft v0 v1 v2 v3 vt n0 n1' n2 n3 nt
            obtain ⟨v0, v1, v2, v3, _, _, _, _, vt⟩ := st_facts (show SR 32 w8 b10 _ from SR.call HS5.out hbx HS5.out.lt)
            obtain ⟨j0, j1, j2, j3, j4, r0, r1, r2, r3, r4, jt⟩ := tk_facts (SR.call HZ5.out hbx HZ5.out.lt)
            obtain ⟨i0, i1, i2, s0, s1, s2, it⟩ := ty_facts (SR.call HY5.out hbx HY5.out.lt)
            clear hks hh' hb8 hbx
            go_wp2_with fail
            refine bodyPost_ret (v := .tuple #[.agg #[.slice A1 n1 c1, .int .i64 (t1 : Int), .bool ov1, .bool li1, .bool true], .agg #[.slice none 0 0, .int .i64 0, .bool bell]]) (by simp [results, Tryd.results13, go_sem, j0, j1, j2, j3, j4, i0, i1, i2]) rfl ?_
            exact F.out
          case false =>
            obtain rfl : h' = false := hh'
            have HKS1 : Hid (ks = L1) := hks
            clear hks FIN
            go_wp2_with fail
            with_reducible refine CZx.out.mono ?_
            rintro e w8 ⟨rfl, hb8⟩
            have HB8 := keepd (bCall HBc.out hb8)
            have HT8 : Hid (TB w8 w.heap.size X) := SR.call HT5.out HB8.out (SR.lt HT5.out)
            have HS8 := keepd (SR.call HS5.out HB8.out HS5.out.lt)
            have HH8 := keepd (SR.call HH5.out HB8.out HH5.out.lt)
            have HZ8 := keepd (SR.call HZ5.out HB8.out HZ5.out.lt)
            have HY8 := keepd (SR.call HY5.out HB8.out HY5.out.lt)
            have HBw8 := keepd (bCall HB5.out HB8.out)
            have HR8 := keepd (HR5.out.at_ HB8.out)
            clear f0 f1 f2 ft v0 v1 v2 v3 vt n0 n1' n2 n3 nt hb8 CZx CZ HT5 HS5 HH5 HZ5 HY5 HB5 HR5 HN5 HBc HB8 HK5
            obtain ⟨V5', hV5'⟩ : ∃ V, V = w8 := ⟨_, rfl⟩
            have CK1 := keepd fun (W : World) (hb : Below w8.heap.size w8 W) => CK1x.out W A1 c1 HKS1.out (HR8.out.at_ hb)
            clear V5' hV5' CK1x
            go_upto_region 8 with fail
            refine wp_region_held_drew (S := fun W => rowOf W w.heap.size = (cs X).toArray ∧ isRow W 25 w.heap.size 62 = true ∧ W.cell? ⟨b10, 0, none⟩ = some (.slice A1 n1 c1) ∧ W.cell? ⟨b10, 1, none⟩ = some (.int .i64 (t1 : Int)) ∧ W.cell? ⟨b10, 2, none⟩ = some (.bool ov1) ∧ W.cell? ⟨b10, 3, none⟩ = some (.bool li1) ∧ W.cell? ⟨w.heap.size + 1 + 1, 0, none⟩ = some (.int .u8 (u.toNat : Int))) (by kernel_rfl) (sRt HT8.out HS8.out HH8.out (Below.refl w8.heap.size w8).drew) (fun hHeld => ?_)
            refine wpAnyH_take (i := 0) (oi := { dst := some 61, op := Op.load 32 (Operand.tmp 10), type := 32, pos := "ref.go:38", after := #[], guard := none }) (v := .agg #[.slice A1 n1 c1, .int .i64 (t1 : Int), .bool ov1, .bool li1]) rfl (by kernel_rfl) (by kernel_rfl) (by kernel_rfl) (fun _ _ _ h => h) (Or.inl ⟨by rfl, fun W hW => ?_⟩) hHeld ?_
            · obtain ⟨q0, q1, q2, q3, q4, q5, q6⟩ := hW
              go_simp
            simp only [Act.put, List.setIfInBounds_toArray, List.set_cons_zero, List.set_cons_succ]
            refine wpAnyH_take (i := 1) (oi := { dst := some 62, op := Op.build 34 #[(0, Operand.tmp 61)], type := 34, pos := "ref.go:38", after := #[{ on := 0, ground := Ground.data }], guard := none }) (v := .agg #[.slice A1 n1 c1, .int .i64 (t1 : Int), .bool ov1, .bool li1, .bool false]) rfl (by kernel_rfl) (by kernel_rfl) (by kernel_rfl) (fun _ _ _ h => h) (Or.inl ⟨by rfl, fun W hW => ?_⟩) hHeld ?_
            · obtain ⟨q0, q1, q2, q3, q4, q5, q6⟩ := hW
              go_simp
            simp only [Act.put, List.setIfInBounds_toArray, List.set_cons_zero, List.set_cons_succ]
            refine wpAnyH_take (i := 2) (oi := { dst := some 63, op := Op.load 25 (Operand.tmp 4), type := 25, pos := "ref.go:38", after := #[], guard := none }) (v := tv X) rfl (by kernel_rfl) (by kernel_rfl) (by kernel_rfl) (fun _ _ _ h => h) (Or.inl ⟨by rfl, fun W hW => ?_⟩) hHeld ?_
            · obtain ⟨q0, q1, q2, q3, q4, q5, q6⟩ := hW
              go_simp
            simp only [Act.put, List.setIfInBounds_toArray, List.set_cons_zero, List.set_cons_succ]
            refine wpAnyH_take (i := 3) (oi := { dst := some 64, op := Op.load 32 (Operand.tmp 10), type := 32, pos := "ref.go:38", after := #[], guard := none }) (v := .agg #[.slice A1 n1 c1, .int .i64 (t1 : Int), .bool ov1, .bool li1]) rfl (by kernel_rfl) (by kernel_rfl) (by kernel_rfl) (fun _ _ _ h => h) (Or.inl ⟨by rfl, fun W hW => ?_⟩) hHeld ?_
            · obtain ⟨q0, q1, q2, q3, q4, q5, q6⟩ := hW
              go_simp
            simp only [Act.put, List.setIfInBounds_toArray, List.set_cons_zero, List.set_cons_succ]
            refine wpAnyH_take (i := 5) (oi := { dst := some 66, op := Op.move (Operand.tmp 12), type := 4, pos := "ref.go:38", after := #[{ on := 7, ground := Ground.gcOnly Departure.lateStores }], guard := none }) (v := .bool bell) rfl (by kernel_rfl) (by kernel_rfl) (by kernel_rfl) (fun _ _ _ h => h) (Or.inl ⟨by rfl, fun W hW => ?_⟩) hHeld ?_
            · obtain ⟨q0, q1, q2, q3, q4, q5, q6⟩ := hW
              go_simp
            simp only [Act.put, List.setIfInBounds_toArray, List.set_cons_zero, List.set_cons_succ]
            refine wpAnyH_ready (rs := [4]) (by kernel_rfl) (by simp) ?_
            refine AllReadyH.cons (o := { dst := some 65, op := Op.call { callee := Callee.value (Operand.func 34), args := #[Operand.tmp 63, Operand.tmp 64], argTypes := #[25, 32] }, type := 28, pos := "ref.go:38", after := #[{ on := 2, ground := Ground.data }, { on := 3, ground := Ground.data }], guard := none }) rfl (fun K hK => ?_) AllReadyH.nil
            go_simp
            with_reducible refine (CK1.out (w8).drew (Below.refl w8.heap.size w8).drew).mono ?_
            rintro e wx1 ⟨⟨A2, c2, rfl, hox1⟩, hcx1⟩
            have hbx1 : Below w8.heap.size w8 wx1 := bCall (Below.refl w8.heap.size w8).drew hcx1
            have hrx1 := hox1.rdOf
            go_wp2_with fail
            refine hK.out _ _ (sRt HT8.out HS8.out HH8.out hbx1) (fun hHeld2 => ?_)
            clear hK K hHeld
            have hHeld := hHeld2
            clear hHeld2
            try simp only [Act.put, List.setIfInBounds_toArray, List.set_cons_zero, List.set_cons_succ]
            refine wpAnyH_take (i := 6) (oi := { dst := some 67, op := Op.build 41 #[(0, Operand.tmp 65), (2, Operand.tmp 66)], type := 41, pos := "ref.go:38", after := #[{ on := 4, ground := Ground.data }, { on := 5, ground := Ground.data }, { on := 7, ground := Ground.gcOnly Departure.lateStores }], guard := none }) (v := .agg #[.slice A2 m c2, .int .i64 0, .bool bell]) rfl (by kernel_rfl) (by kernel_rfl) (by kernel_rfl) (fun _ _ _ h => h) (Or.inl ⟨by rfl, fun W hW => ?_⟩) hHeld ?_
            · obtain ⟨q0, q1, q2, q3, q4, q5, q6⟩ := hW
              go_simp
            simp only [Act.put, List.setIfInBounds_toArray, List.set_cons_zero, List.set_cons_succ]
            have hZ9 := SR.call HZ8.out hbx1 HZ8.out.lt
            have hY9 := SR.call HY8.out hbx1 HY8.out.lt
            have hB9 := bCall HBw8.out hbx1
            have hT9 : TB _ _ X := SR.call HT8.out hbx1 (SR.lt HT8.out)
            have hS9 := SR.call HS8.out hbx1 HS8.out.lt
            have hH9 := SR.call HH8.out hbx1 HH8.out.lt
            obtain ⟨j0, j1, j2, j3, j4, r0, r1, r2, r3, r4, jt⟩ := tk_facts hZ9
            obtain ⟨E1, E2, E3, E4⟩ := set8_end hZ9 hY9 (by omega) hB9 (by omega) (by omega) A1 n1 c1 (t1 : Int) ov1 li1 false (.slice A2 m c2) (.int .i64 0) (.bool bell)
            have HE1 := keepd (E1 _ _ _ (HR8.out.below hbx1 (Below.size hbx1)))
            have HE5 := keepd (E1 _ _ _ hrx1)
            have HE2 := keepd E2
            have HE3 := keepd E3
            have HE4 := keepd E4
            clear E1 E2 E3 E4
            have hyS : SR 41 (set5 wx1 (w.heap.size + 1 + 1 + 1) (.slice A1 n1 c1) (.int .i64 (t1 : Int)) (.bool ov1) (.bool li1) (.bool false)) (w.heap.size + 1 + 1 + 1 + 1) [.slice none 0 0, .int .i64 0, .bool false] := set5_far hY9 (by omega)
            refine wpAnyH_ready (rs := [7]) (by kernel_rfl) (by simp) ?_
            refine AllReadyH.cons (o := { dst := none, op := Op.store 34 (Operand.tmp 8) (Operand.tmp 62), type := 0, pos := "ref.go:38", after := #[{ on := 1, ground := Ground.data }, { on := 4, ground := Ground.chain }, { on := 0, ground := Ground.phase }, { on := 1, ground := Ground.phase }, { on := 2, ground := Ground.textOnly Departure.lateStores }, { on := 3, ground := Ground.textOnly Departure.lateStores }, { on := 4, ground := Ground.textOnly Departure.lateStoresUnsure }, { on := 5, ground := Ground.textOnly Departure.lateStores }, { on := 6, ground := Ground.textOnly Departure.lateStores }], guard := none }) rfl (fun K hK => ?_) AllReadyH.nil
            go_simp
            refine hK.out _ (set5 wx1 (w.heap.size + 1 + 1 + 1) (.slice A1 n1 c1) (.int .i64 (t1 : Int)) (.bool ov1) (.bool li1) (.bool false)) (sRo (set5_far hT9 (by have h0 := LBT.out; omega)) (set5_far hS9 (by have h0 := LBT.out; omega)) (set5_far hH9 (by have h0 := LBT.out; omega))) (fun hHeld2 => ?_)
            clear hK K hHeld
            have hHeld := hHeld2
            clear hHeld2
            try simp only [Act.put, List.setIfInBounds_toArray, List.set_cons_zero, List.set_cons_succ]
            clear j0 j1 j2 j3 j4 r0 r1 r2 r3 r4 jt
            obtain ⟨j0, j1, j2, r0, r1, r2, jt⟩ := ty_facts hyS
            refine wpAnyH_ready (rs := [8]) (by kernel_rfl) (by simp) ?_
            refine AllReadyH.cons (o := { dst := none, op := Op.store 41 (Operand.tmp 9) (Operand.tmp 67), type := 0, pos := "ref.go:38", after := #[{ on := 6, ground := Ground.data }, { on := 7, ground := Ground.chain }, { on := 0, ground := Ground.phase }, { on := 1, ground := Ground.phase }, { on := 2, ground := Ground.phase }, { on := 3, ground := Ground.phase }, { on := 4, ground := Ground.phase }, { on := 5, ground := Ground.phase }, { on := 6, ground := Ground.phase }, { on := 7, ground := Ground.phase }], guard := none }) rfl (fun K hK => ?_) AllReadyH.nil
            go_simp
            refine hK.out _ (set3 (set5 wx1 (w.heap.size + 1 + 1 + 1) (.slice A1 n1 c1) (.int .i64 (t1 : Int)) (.bool ov1) (.bool li1) (.bool false)) (w.heap.size + 1 + 1 + 1 + 1) (.slice A2 m c2) (.int .i64 0) (.bool bell)) (sRo (set3_far (set5_far hT9 (by have h0 := LBT.out; omega)) (by have h0 := LBT.out; omega)) (set3_far (set5_far hS9 (by have h0 := LBT.out; omega)) (by have h0 := LBT.out; omega)) (set3_far (set5_far hH9 (by have h0 := LBT.out; omega)) (by have h0 := LBT.out; omega))) (fun hHeld2 => ?_)
            clear hK K hHeld
            have hHeld := hHeld2
            clear hHeld2
            try simp only [Act.put, List.setIfInBounds_toArray, List.set_cons_zero, List.set_cons_succ]
            refine wpAnyH_done (by kernel_rfl) ?_ _
            clear j0 j1 j2 r0 r1 r2 jt hZ9 hY9 hB9 hT9 hS9 hH9 hyS
            generalize (set3 (set5 wx1 (w.heap.size + 1 + 1 + 1) (.slice A1 n1 c1) (.int .i64 (t1 : Int)) (.bool ov1) (.bool li1) (.bool false)) (w.heap.size + 1 + 1 + 1 + 1) (.slice A2 m c2) (.int .i64 0) (.bool bell)) = V9 at *
            obtain ⟨j0, j1, j2, j3, j4, _, _, _, _, _, jt⟩ := tk_facts HE3.out
            obtain ⟨i0, i1, i2, _, _, _, it⟩ := ty_facts HE4.out
            go_wp2_with fail
            refine bodyPost_ret (v := .tuple #[.agg #[.slice A1 n1 c1, .int .i64 (t1 : Int), .bool ov1, .bool li1, .bool false], .agg #[.slice A2 m c2, .int .i64 0, .bool bell]]) (by simp [results, Tryd.results13, go_sem, j0, j1, j2, j3, j4, i0, i1, i2]) rfl ?_
            exact ⟨A1, c1, _, _, rfl, HE1.out, HE5.out, HE2.out⟩
      case true =>
        obtain ⟨rfl, hks, rfl⟩ := (show _ ∧ _ ∧ _ by have := HTY.out; rwa [if_pos rfl] at this : h' = false ∧ ks = (if h then L else []) ++ [u] ∧ sg = sg1)
        clear CZ CK1x HTY
        cases h
        case false =>
          have V12 := V6
          have HKS : Hid (([] : List UInt8) ++ [u] = ks) := hks.symm
          have HLL : Hid (([] : List UInt8).length ≤ 20000) := by show _ ≤ _; simp
          have HML : Hid ((([] : List UInt8) ++ [u]).length = m) := by have h0 := HM.out; rw [hks] at h0; exact h0
          clear hks V12 CP
          obtain ⟨k0, k1, k2, k3, k4, _, _, _, _, _, kt⟩ := tk_facts (show SR 34 V6 (w.heap.size + 1) _ from SR.call HK5.out HBc.out HK5.out.lt)
          have HB12 := keepd HBc.out
          have HO12 : Hid (Own V6 V5.heap.size (.slice none 0 0) []) := Own.nil _ _
          obtain ⟨f0, f1, f2, ft⟩ := how_facts (show SR 36 V6 (w.heap.size + 1 + 1) _ from SR.call HH5.out HB12.out HH5.out.lt)
          obtain ⟨q0, q1'⟩ := TB.facts (show TB V6 w.heap.size X from SR.call HT5.out HB12.out (SR.lt HT5.out))
          go_wp2_with fail
          with_reducible refine (CU.out _).mono ?_
          rintro e V14 ⟨rfl, hb14⟩
          have HB14 := keepd (bCall HB12.out hb14)
          have HO14 := keepd (HO12.out.below hb14)
          clear k0 k1 k2 k3 k4 kt f0 f1 f2 ft q0 q1' hb14 CU HO12 HB12
          obtain ⟨k0, k1, k2, k3, k4, _, _, _, _, _, kt⟩ := tk_facts (show SR 34 V14 (w.heap.size + 1) _ from SR.call HK5.out HB14.out HK5.out.lt)
          obtain ⟨ee, hee⟩ : ∃ ee, (li || decide (9 < mu)) = ee := ⟨_, rfl⟩
          have HSG2 : Hid ((if ee then 0 else mu) = sg) := by have h0 := HSG.out; rw [hee] at h0; exact h0
          go_upto_region 14 with fail
          go_cut [88] from 82 to 88 (fun s88 wx => s88 = .bool ee ∧ V14 = wx)
          case first =>
            cases li
            case true =>
              obtain rfl : ee = true := by rw [← hee]; rfl
              go_wp2_with fail
              go_meet
              exact ⟨rfl, rfl⟩
            case false =>
              by_cases h9 : 9 < mu
              · obtain rfl : ee = true := by rw [← hee]; simp [h9]
                have a1 : (mu : Int) > 9 := by omega
                have a2 : (9 : Int) < (mu : Int) := by omega
                go_wp2_with fail
                go_meet
                exact ⟨rfl, rfl⟩
              · obtain rfl : ee = false := by rw [← hee]; simp [h9]
                have a1 : ¬ (mu : Int) > 9 := by omega
                have a2 : ¬ (9 : Int) < (mu : Int) := by omega
                go_wp2_with fail
                go_meet
                exact ⟨rfl, rfl⟩
          case rest =>
            obtain ⟨rfl, rfl⟩ := hcut
            clear hee k0 k1 k2 k3 k4 kt
            go_upto_if 88 with fail
            go_cut [16] from 89 to 98 (fun s16 wx => s16 = .int .i64 (sg : Int) ∧ V14 = wx)
            case first =>
              cases ee
              · obtain rfl : mu = sg := HSG2.out
                go_wp2_with fail
                go_meet
                exact ⟨rfl, rfl⟩
              · obtain rfl : 0 = sg := HSG2.out
                go_wp2_with fail
                go_meet
                exact ⟨rfl, rfl⟩
            case rest =>
              obtain ⟨rfl, rfl⟩ := hcut
              go_upto_region 16 with fail
              refine wp_region_held_drew (S := fun W => rowOf W w.heap.size = (cs X).toArray ∧ isRow W 25 w.heap.size 62 = true ∧ W.cell? ⟨b10, 0, none⟩ = some (.slice A1 n1 c1) ∧ W.cell? ⟨b10, 1, none⟩ = some (.int .i64 (t1 : Int)) ∧ W.cell? ⟨b10, 2, none⟩ = some (.bool ov1) ∧ W.cell? ⟨b10, 3, none⟩ = some (.bool li1) ∧ W.cell? ⟨w.heap.size + 1 + 1, 0, none⟩ = some (.int .u8 (u.toNat : Int))) (by kernel_rfl) (sRt HT5.out HS5.out HH5.out (Below.drew HB14.out)) (fun hHeld => ?_)
              refine wpAnyH_take (i := 0) (oi := { dst := some 89, op := Op.load 32 (Operand.tmp 10), type := 32, pos := "ref.go:50", after := #[], guard := none }) (v := .agg #[.slice A1 n1 c1, .int .i64 (t1 : Int), .bool ov1, .bool li1]) rfl (by kernel_rfl) (by kernel_rfl) (by kernel_rfl) (fun _ _ _ h => h) (Or.inl ⟨by rfl, fun W hW => ?_⟩) hHeld ?_
              · obtain ⟨q0, q1, q2, q3, q4, q5, q6⟩ := hW
                go_simp
              simp only [Act.put, List.setIfInBounds_toArray, List.set_cons_zero, List.set_cons_succ]
              refine wpAnyH_take (i := 1) (oi := { dst := some 90, op := Op.build 34 #[(0, Operand.tmp 89)], type := 34, pos := "ref.go:50", after := #[{ on := 0, ground := Ground.data }], guard := none }) (v := .agg #[.slice A1 n1 c1, .int .i64 (t1 : Int), .bool ov1, .bool li1, .bool false]) rfl (by kernel_rfl) (by kernel_rfl) (by kernel_rfl) (fun _ _ _ h => h) (Or.inl ⟨by rfl, fun W hW => ?_⟩) hHeld ?_
              · obtain ⟨q0, q1, q2, q3, q4, q5, q6⟩ := hW
                go_simp
              simp only [Act.put, List.setIfInBounds_toArray, List.set_cons_zero, List.set_cons_succ]
              refine wpAnyH_take (i := 2) (oi := { dst := some 91, op := Op.move (Operand.tmp 15), type := 28, pos := "ref.go:50", after := #[], guard := none }) (v := .slice none 0 0) rfl (by kernel_rfl) (by kernel_rfl) (by kernel_rfl) (fun _ _ _ h => h) (Or.inl ⟨by rfl, fun W hW => ?_⟩) hHeld ?_
              · obtain ⟨q0, q1, q2, q3, q4, q5, q6⟩ := hW
                go_simp
              simp only [Act.put, List.setIfInBounds_toArray, List.set_cons_zero, List.set_cons_succ]
              refine wpAnyH_take (i := 3) (oi := { dst := some 92, op := Op.fieldAddr 36 (Operand.tmp 7) 0, type := 0, pos := "ref.go:50", after := #[], guard := none }) (v := .pointer (some ⟨w.heap.size + 1 + 1, 0, none⟩)) rfl (by kernel_rfl) (by kernel_rfl) (by kernel_rfl) (fun _ _ _ h => h) (Or.inl ⟨by rfl, fun W hW => ?_⟩) hHeld ?_
              · obtain ⟨q0, q1, q2, q3, q4, q5, q6⟩ := hW
                go_simp
              simp only [Act.put, List.setIfInBounds_toArray, List.set_cons_zero, List.set_cons_succ]
              refine wpAnyH_take (i := 4) (oi := { dst := some 93, op := Op.load 5 (Operand.tmp 92), type := 5, pos := "ref.go:50", after := #[{ on := 3, ground := Ground.data }], guard := none }) (v := .int .u8 (u.toNat : Int)) rfl (by kernel_rfl) (by kernel_rfl) (by kernel_rfl) (fun _ _ _ h => h) (Or.inl ⟨by rfl, fun W hW => ?_⟩) hHeld ?_
              · obtain ⟨q0, q1, q2, q3, q4, q5, q6⟩ := hW
                go_simp
              simp only [Act.put, List.setIfInBounds_toArray, List.set_cons_zero, List.set_cons_succ]
              refine wpAnyH_take (i := 7) (oi := { dst := some 96, op := Op.move (Operand.tmp 16), type := 3, pos := "ref.go:50", after := #[{ on := 10, ground := Ground.gcOnly Departure.lateStores }], guard := none }) (v := .int .i64 (sg : Int)) rfl (by kernel_rfl) (by kernel_rfl) (by kernel_rfl) (fun _ _ _ h => h) (Or.inl ⟨by rfl, fun W hW => ?_⟩) hHeld ?_
              · obtain ⟨q0, q1, q2, q3, q4, q5, q6⟩ := hW
                go_simp
              simp only [Act.put, List.setIfInBounds_toArray, List.set_cons_zero, List.set_cons_succ]
              refine wpAnyH_take (i := 8) (oi := { dst := some 97, op := Op.move (Operand.tmp 12), type := 4, pos := "ref.go:50", after := #[{ on := 10, ground := Ground.gcOnly Departure.lateStores }], guard := none }) (v := .bool bell) rfl (by kernel_rfl) (by kernel_rfl) (by kernel_rfl) (fun _ _ _ h => h) (Or.inl ⟨by rfl, fun W hW => ?_⟩) hHeld ?_
              · obtain ⟨q0, q1, q2, q3, q4, q5, q6⟩ := hW
                go_simp
              simp only [Act.put, List.setIfInBounds_toArray, List.set_cons_zero, List.set_cons_succ]
              refine wpAnyH_ready (rs := [5]) (by kernel_rfl) (by simp) ?_
              refine AllReadyH.cons (o := { dst := some 94, op := Op.buildSlice 28 1 #[(0, Operand.tmp 93)], type := 28, pos := "ref.go:50", after := #[{ on := 4, ground := Ground.data }], guard := none }) rfl (fun K hK => ?_) AllReadyH.nil
              go_simp
              have hbx1 : Below V5.heap.size V5 ((V14.alloc (.cells #[.int .u8 (u.toNat : Int)] 5)).drew) := bAlloc (Below.drew HB14.out) (.cells #[.int .u8 (u.toNat : Int)] 5)
              have hox1 : Own ((V14.alloc (.cells #[.int .u8 (u.toNat : Int)] 5)).drew) V5.heap.size (.slice none 0 0) ([] : List UInt8) := Own.alloc HO14.out _
              have hux1 : Rd ((V14.alloc (.cells #[.int .u8 (u.toNat : Int)] 5)).drew) ((V14.alloc (.cells #[.int .u8 (u.toNat : Int)] 5)).drew).heap.size (some ⟨V14.heap.size, 0, none⟩) [u] 1 := by have h0 := one_rdb V14 u; rw [← World.size_alloc V14 (.cells #[.int .u8 (u.toNat : Int)] 5)] at h0; exact h0
              obtain ⟨bU, hbU⟩ : ∃ b, b = V14.heap.size := ⟨_, rfl⟩
              rw [← hbU] at hux1 ⊢
              clear hbU
              refine hK.out _ _ (sRt HT5.out HS5.out HH5.out hbx1) (fun hHeld2 => ?_)
              clear hK K hHeld
              have hHeld := hHeld2
              clear hHeld2
              try simp only [Act.put, List.setIfInBounds_toArray, List.set_cons_zero, List.set_cons_succ]
              generalize hWx1 : (V14.alloc (.cells #[.int .u8 (u.toNat : Int)] 5)).drew = Wx1 at *
              clear hWx1
              refine wpAnyH_ready (rs := [6]) (by kernel_rfl) (by simp) ?_
              refine AllReadyH.cons (o := { dst := some 95, op := Op.call { callee := Callee.builtin Builtin.append, args := #[Operand.tmp 91, Operand.tmp 94], argTypes := #[28, 28] }, type := 28, pos := "ref.go:50", after := #[{ on := 2, ground := Ground.data }, { on := 5, ground := Ground.data }], guard := none }) rfl (fun K hK => ?_) AllReadyH.nil
              refine step_app _ rfl (.tmp 91) (.tmp 94) rfl V5.heap.size (.slice none 0 0) ([] : List UInt8) rfl hox1 _ (some ⟨bU, 0, none⟩) 1 1 [u] rfl rfl hux1 ?_ (Below.size hbx1) ?_
              · have h0 := HLL.out; simp only [List.length_cons, List.length_nil]; omega
              intro vx2 wx2 hox2 hgx2 _
              have hbx2 : Below V5.heap.size V5 wx2 := (hbx1).trans (grown_below hox1 hgx2 (Below.size hbx1))
              obtain ⟨A2, c2, hvx2e, hrx2⟩ := hox2.rd
              rw [show (([] : List UInt8) ++ [u]).length = m from HML.out] at hvx2e
              rw [show ([] : List UInt8) ++ [u] = ks from HKS.out] at hrx2
              subst hvx2e
              clear hox2 hgx2
              refine hK.out _ _ (sRt HT5.out HS5.out HH5.out hbx2) (fun hHeld2 => ?_)
              clear hK K hHeld
              have hHeld := hHeld2
              clear hHeld2
              try simp only [Act.put, List.setIfInBounds_toArray, List.set_cons_zero, List.set_cons_succ]
              refine wpAnyH_take (i := 9) (oi := { dst := some 98, op := Op.build 41 #[(0, Operand.tmp 95), (1, Operand.tmp 96), (2, Operand.tmp 97)], type := 41, pos := "ref.go:50", after := #[{ on := 6, ground := Ground.data }, { on := 7, ground := Ground.data }, { on := 8, ground := Ground.data }, { on := 10, ground := Ground.gcOnly Departure.lateStores }], guard := none }) (v := .agg #[.slice A2 m c2, .int .i64 (sg : Int), .bool bell]) rfl (by kernel_rfl) (by kernel_rfl) (by kernel_rfl) (fun _ _ _ h => h) (Or.inl ⟨by rfl, fun W hW => ?_⟩) hHeld ?_
              · obtain ⟨q0, q1, q2, q3, q4, q5, q6⟩ := hW
                go_simp
              simp only [Act.put, List.setIfInBounds_toArray, List.set_cons_zero, List.set_cons_succ]
              have hZ9 := SR.call HZ5.out hbx2 HZ5.out.lt
              have hY9 := SR.call HY5.out hbx2 HY5.out.lt
              have hB9 := bCall HB5.out hbx2
              have hT9 : TB _ _ X := SR.call HT5.out hbx2 (SR.lt HT5.out)
              have hS9 := SR.call HS5.out hbx2 HS5.out.lt
              have hH9 := SR.call HH5.out hbx2 HH5.out.lt
              obtain ⟨j0, j1, j2, j3, j4, r0, r1, r2, r3, r4, jt⟩ := tk_facts hZ9
              obtain ⟨E1, E2, E3, E4⟩ := set8_end hZ9 hY9 (by omega) hB9 (by omega) (by omega) A1 n1 c1 (t1 : Int) ov1 li1 false (.slice A2 m c2) (.int .i64 (sg : Int)) (.bool bell)
              have HE1 := keepd (E1 _ _ _ (HR5.out.below hbx2 (Below.size hbx2)))
              have HE5 := keepd (E1 _ _ _ hrx2)
              have HE2 := keepd E2
              have HE3 := keepd E3
              have HE4 := keepd E4
              clear E1 E2 E3 E4
              have hyS : SR 41 (set5 wx2 (w.heap.size + 1 + 1 + 1) (.slice A1 n1 c1) (.int .i64 (t1 : Int)) (.bool ov1) (.bool li1) (.bool false)) (w.heap.size + 1 + 1 + 1 + 1) [.slice none 0 0, .int .i64 0, .bool false] := set5_far hY9 (by omega)
              refine wpAnyH_ready (rs := [10]) (by kernel_rfl) (by simp) ?_
              refine AllReadyH.cons (o := { dst := none, op := Op.store 34 (Operand.tmp 8) (Operand.tmp 90), type := 0, pos := "ref.go:50", after := #[{ on := 1, ground := Ground.data }, { on := 6, ground := Ground.chain }, { on := 0, ground := Ground.phase }, { on := 1, ground := Ground.phase }, { on := 2, ground := Ground.textOnly Departure.lateStores }, { on := 3, ground := Ground.textOnly Departure.lateStores }, { on := 4, ground := Ground.textOnly Departure.lateStores }, { on := 5, ground := Ground.textOnly Departure.lateStores }, { on := 6, ground := Ground.textOnly Departure.lateStoresUnsure }, { on := 7, ground := Ground.textOnly Departure.lateStores }, { on := 8, ground := Ground.textOnly Departure.lateStores }, { on := 9, ground := Ground.textOnly Departure.lateStores }], guard := none }) rfl (fun K hK => ?_) AllReadyH.nil
              go_simp
              refine hK.out _ (set5 wx2 (w.heap.size + 1 + 1 + 1) (.slice A1 n1 c1) (.int .i64 (t1 : Int)) (.bool ov1) (.bool li1) (.bool false)) (sRo (set5_far hT9 (by have h0 := LBT.out; omega)) (set5_far hS9 (by have h0 := LBT.out; omega)) (set5_far hH9 (by have h0 := LBT.out; omega))) (fun hHeld2 => ?_)
              clear hK K hHeld
              have hHeld := hHeld2
              clear hHeld2
              try simp only [Act.put, List.setIfInBounds_toArray, List.set_cons_zero, List.set_cons_succ]
              clear j0 j1 j2 j3 j4 r0 r1 r2 r3 r4 jt
              obtain ⟨j0, j1, j2, r0, r1, r2, jt⟩ := ty_facts hyS
              refine wpAnyH_ready (rs := [11]) (by kernel_rfl) (by simp) ?_
              refine AllReadyH.cons (o := { dst := none, op := Op.store 41 (Operand.tmp 9) (Operand.tmp 98), type := 0, pos := "ref.go:50", after := #[{ on := 9, ground := Ground.data }, { on := 10, ground := Ground.chain }, { on := 0, ground := Ground.phase }, { on := 1, ground := Ground.phase }, { on := 2, ground := Ground.phase }, { on := 3, ground := Ground.phase }, { on := 4, ground := Ground.phase }, { on := 5, ground := Ground.phase }, { on := 6, ground := Ground.phase }, { on := 7, ground := Ground.phase }, { on := 8, ground := Ground.phase }, { on := 9, ground := Ground.phase }, { on := 10, ground := Ground.phase }], guard := none }) rfl (fun K hK => ?_) AllReadyH.nil
              go_simp
              refine hK.out _ (set3 (set5 wx2 (w.heap.size + 1 + 1 + 1) (.slice A1 n1 c1) (.int .i64 (t1 : Int)) (.bool ov1) (.bool li1) (.bool false)) (w.heap.size + 1 + 1 + 1 + 1) (.slice A2 m c2) (.int .i64 (sg : Int)) (.bool bell)) (sRo (set3_far (set5_far hT9 (by have h0 := LBT.out; omega)) (by have h0 := LBT.out; omega)) (set3_far (set5_far hS9 (by have h0 := LBT.out; omega)) (by have h0 := LBT.out; omega)) (set3_far (set5_far hH9 (by have h0 := LBT.out; omega)) (by have h0 := LBT.out; omega))) (fun hHeld2 => ?_)
              clear hK K hHeld
              have hHeld := hHeld2
              clear hHeld2
              try simp only [Act.put, List.setIfInBounds_toArray, List.set_cons_zero, List.set_cons_succ]
              refine wpAnyH_done (by kernel_rfl) ?_ _
              clear j0 j1 j2 r0 r1 r2 jt hZ9 hY9 hB9 hT9 hS9 hH9 hyS
              generalize (set3 (set5 wx2 (w.heap.size + 1 + 1 + 1) (.slice A1 n1 c1) (.int .i64 (t1 : Int)) (.bool ov1) (.bool li1) (.bool false)) (w.heap.size + 1 + 1 + 1 + 1) (.slice A2 m c2) (.int .i64 (sg : Int)) (.bool bell)) = V9 at *
              obtain ⟨j0, j1, j2, j3, j4, _, _, _, _, _, jt⟩ := tk_facts HE3.out
              obtain ⟨i0, i1, i2, _, _, _, it⟩ := ty_facts HE4.out
              go_wp2_with fail
              refine bodyPost_ret (v := .tuple #[.agg #[.slice A1 n1 c1, .int .i64 (t1 : Int), .bool ov1, .bool li1, .bool false], .agg #[.slice A2 m c2, .int .i64 (sg : Int), .bool bell]]) (by simp [results, Tryd.results13, go_sem, j0, j1, j2, j3, j4, i0, i1, i2]) rfl ?_
              exact ⟨A1, c1, _, _, rfl, HE1.out, HE5.out, HE2.out⟩
        case true =>
          have HKS : Hid (L ++ [u] = ks) := hks.symm
          have HLL : Hid (L.length ≤ 20000) := HLE.out
          have HML : Hid ((L ++ [u]).length = m) := by have h0 := HM.out; rw [hks] at h0; exact h0
          clear hks
          obtain ⟨k0, k1, k2, k3, k4, _, _, _, _, _, kt⟩ := tk_facts (show SR 34 V6 (w.heap.size + 1) _ from SR.call HK5.out HBc.out HK5.out.lt)
          obtain ⟨q0, q1'⟩ := TB.facts (show TB V6 w.heap.size X from SR.call HT5.out HBc.out (SR.lt HT5.out))
          have CPx := keepd (CP.out V6 (bCall HB5.out HBc.out))
          go_wp2_with fail
          with_reducible refine CPx.out.mono ?_
          rintro e w12 ⟨⟨A9, c9, rfl, ho12⟩, hb12⟩
          have HB12 := keepd (bCall HBc.out hb12)
          have HO12 : Hid (Own w12 V5.heap.size (.slice A9 kL0 c9) L) := ho12.base HBc.out.size
          clear k0 k1 k2 k3 k4 kt q0 q1' hb12 ho12 CPx CP
          obtain ⟨k0, k1, k2, k3, k4, _, _, _, _, _, kt⟩ := tk_facts (show SR 34 w12 (w.heap.size + 1) _ from SR.call HK5.out HB12.out HK5.out.lt)
          obtain ⟨f0, f1, f2, ft⟩ := how_facts (show SR 36 w12 (w.heap.size + 1 + 1) _ from SR.call HH5.out HB12.out HH5.out.lt)
          obtain ⟨q0, q1'⟩ := TB.facts (show TB w12 w.heap.size X from SR.call HT5.out HB12.out (SR.lt HT5.out))
          go_wp2_with fail
          with_reducible refine (CU.out _).mono ?_
          rintro e V14 ⟨rfl, hb14⟩
          have HB14 := keepd (bCall HB12.out hb14)
          have HO14 := keepd (HO12.out.below hb14)
          clear k0 k1 k2 k3 k4 kt f0 f1 f2 ft q0 q1' hb14 CU HO12 HB12
          obtain ⟨k0, k1, k2, k3, k4, _, _, _, _, _, kt⟩ := tk_facts (show SR 34 V14 (w.heap.size + 1) _ from SR.call HK5.out HB14.out HK5.out.lt)
          obtain ⟨ee, hee⟩ : ∃ ee, (li || decide (9 < mu)) = ee := ⟨_, rfl⟩
          have HSG2 : Hid ((if ee then 0 else mu) = sg) := by have h0 := HSG.out; rw [hee] at h0; exact h0
          go_upto_region 14 with fail
          go_cut [88] from 82 to 88 (fun s88 wx => s88 = .bool ee ∧ V14 = wx)
          case first =>
            cases li
            case true =>
              obtain rfl : ee = true := by rw [← hee]; rfl
              go_wp2_with fail
              go_meet
              exact ⟨rfl, rfl⟩
            case false =>
              by_cases h9 : 9 < mu
              · obtain rfl : ee = true := by rw [← hee]; simp [h9]
                have a1 : (mu : Int) > 9 := by omega
                have a2 : (9 : Int) < (mu : Int) := by omega
                go_wp2_with fail
                go_meet
                exact ⟨rfl, rfl⟩
              · obtain rfl : ee = false := by rw [← hee]; simp [h9]
                have a1 : ¬ (mu : Int) > 9 := by omega
                have a2 : ¬ (9 : Int) < (mu : Int) := by omega
                go_wp2_with fail
                go_meet
                exact ⟨rfl, rfl⟩
          case rest =>
            obtain ⟨rfl, rfl⟩ := hcut
            clear hee k0 k1 k2 k3 k4 kt
            go_upto_if 88 with fail
            go_cut [16] from 89 to 98 (fun s16 wx => s16 = .int .i64 (sg : Int) ∧ V14 = wx)
            case first =>
              cases ee
              · obtain rfl : mu = sg := HSG2.out
                go_wp2_with fail
                go_meet
                exact ⟨rfl, rfl⟩
              · obtain rfl : 0 = sg := HSG2.out
                go_wp2_with fail
                go_meet
                exact ⟨rfl, rfl⟩
            case rest =>
              obtain ⟨rfl, rfl⟩ := hcut
              go_upto_region 16 with fail
              refine wp_region_held_drew (S := fun W => rowOf W w.heap.size = (cs X).toArray ∧ isRow W 25 w.heap.size 62 = true ∧ W.cell? ⟨b10, 0, none⟩ = some (.slice A1 n1 c1) ∧ W.cell? ⟨b10, 1, none⟩ = some (.int .i64 (t1 : Int)) ∧ W.cell? ⟨b10, 2, none⟩ = some (.bool ov1) ∧ W.cell? ⟨b10, 3, none⟩ = some (.bool li1) ∧ W.cell? ⟨w.heap.size + 1 + 1, 0, none⟩ = some (.int .u8 (u.toNat : Int))) (by kernel_rfl) (sRt HT5.out HS5.out HH5.out (Below.drew HB14.out)) (fun hHeld => ?_)
              refine wpAnyH_take (i := 0) (oi := { dst := some 89, op := Op.load 32 (Operand.tmp 10), type := 32, pos := "ref.go:50", after := #[], guard := none }) (v := .agg #[.slice A1 n1 c1, .int .i64 (t1 : Int), .bool ov1, .bool li1]) rfl (by kernel_rfl) (by kernel_rfl) (by kernel_rfl) (fun _ _ _ h => h) (Or.inl ⟨by rfl, fun W hW => ?_⟩) hHeld ?_
              · obtain ⟨q0, q1, q2, q3, q4, q5, q6⟩ := hW
                go_simp
              simp only [Act.put, List.setIfInBounds_toArray, List.set_cons_zero, List.set_cons_succ]
              refine wpAnyH_take (i := 1) (oi := { dst := some 90, op := Op.build 34 #[(0, Operand.tmp 89)], type := 34, pos := "ref.go:50", after := #[{ on := 0, ground := Ground.data }], guard := none }) (v := .agg #[.slice A1 n1 c1, .int .i64 (t1 : Int), .bool ov1, .bool li1, .bool false]) rfl (by kernel_rfl) (by kernel_rfl) (by kernel_rfl) (fun _ _ _ h => h) (Or.inl ⟨by rfl, fun W hW => ?_⟩) hHeld ?_
              · obtain ⟨q0, q1, q2, q3, q4, q5, q6⟩ := hW
                go_simp
              simp only [Act.put, List.setIfInBounds_toArray, List.set_cons_zero, List.set_cons_succ]
              refine wpAnyH_take (i := 2) (oi := { dst := some 91, op := Op.move (Operand.tmp 15), type := 28, pos := "ref.go:50", after := #[], guard := none }) (v := .slice A9 kL0 c9) rfl (by kernel_rfl) (by kernel_rfl) (by kernel_rfl) (fun _ _ _ h => h) (Or.inl ⟨by rfl, fun W hW => ?_⟩) hHeld ?_
              · obtain ⟨q0, q1, q2, q3, q4, q5, q6⟩ := hW
                go_simp
              simp only [Act.put, List.setIfInBounds_toArray, List.set_cons_zero, List.set_cons_succ]
              refine wpAnyH_take (i := 3) (oi := { dst := some 92, op := Op.fieldAddr 36 (Operand.tmp 7) 0, type := 0, pos := "ref.go:50", after := #[], guard := none }) (v := .pointer (some ⟨w.heap.size + 1 + 1, 0, none⟩)) rfl (by kernel_rfl) (by kernel_rfl) (by kernel_rfl) (fun _ _ _ h => h) (Or.inl ⟨by rfl, fun W hW => ?_⟩) hHeld ?_
              · obtain ⟨q0, q1, q2, q3, q4, q5, q6⟩ := hW
                go_simp
              simp only [Act.put, List.setIfInBounds_toArray, List.set_cons_zero, List.set_cons_succ]
              refine wpAnyH_take (i := 4) (oi := { dst := some 93, op := Op.load 5 (Operand.tmp 92), type := 5, pos := "ref.go:50", after := #[{ on := 3, ground := Ground.data }], guard := none }) (v := .int .u8 (u.toNat : Int)) rfl (by kernel_rfl) (by kernel_rfl) (by kernel_rfl) (fun _ _ _ h => h) (Or.inl ⟨by rfl, fun W hW => ?_⟩) hHeld ?_
              · obtain ⟨q0, q1, q2, q3, q4, q5, q6⟩ := hW
                go_simp
              simp only [Act.put, List.setIfInBounds_toArray, List.set_cons_zero, List.set_cons_succ]
              refine wpAnyH_take (i := 7) (oi := { dst := some 96, op := Op.move (Operand.tmp 16), type := 3, pos := "ref.go:50", after := #[{ on := 10, ground := Ground.gcOnly Departure.lateStores }], guard := none }) (v := .int .i64 (sg : Int)) rfl (by kernel_rfl) (by kernel_rfl) (by kernel_rfl) (fun _ _ _ h => h) (Or.inl ⟨by rfl, fun W hW => ?_⟩) hHeld ?_
              · obtain ⟨q0, q1, q2, q3, q4, q5, q6⟩ := hW
                go_simp
              simp only [Act.put, List.setIfInBounds_toArray, List.set_cons_zero, List.set_cons_succ]
              refine wpAnyH_take (i := 8) (oi := { dst := some 97, op := Op.move (Operand.tmp 12), type := 4, pos := "ref.go:50", after := #[{ on := 10, ground := Ground.gcOnly Departure.lateStores }], guard := none }) (v := .bool bell) rfl (by kernel_rfl) (by kernel_rfl) (by kernel_rfl) (fun _ _ _ h => h) (Or.inl ⟨by rfl, fun W hW => ?_⟩) hHeld ?_
              · obtain ⟨q0, q1, q2, q3, q4, q5, q6⟩ := hW
                go_simp
              simp only [Act.put, List.setIfInBounds_toArray, List.set_cons_zero, List.set_cons_succ]
              refine wpAnyH_ready (rs := [5]) (by kernel_rfl) (by simp) ?_
              refine AllReadyH.cons (o := { dst := some 94, op := Op.buildSlice 28 1 #[(0, Operand.tmp 93)], type := 28, pos := "ref.go:50", after := #[{ on := 4, ground := Ground.data }], guard := none }) rfl (fun K hK => ?_) AllReadyH.nil
              go_simp
              have hbx1 : Below V5.heap.size V5 ((V14.alloc (.cells #[.int .u8 (u.toNat : Int)] 5)).drew) := bAlloc (Below.drew HB14.out) (.cells #[.int .u8 (u.toNat : Int)] 5)
              have hox1 : Own ((V14.alloc (.cells #[.int .u8 (u.toNat : Int)] 5)).drew) V5.heap.size (.slice A9 kL0 c9) L := Own.alloc HO14.out _
              have hux1 : Rd ((V14.alloc (.cells #[.int .u8 (u.toNat : Int)] 5)).drew) ((V14.alloc (.cells #[.int .u8 (u.toNat : Int)] 5)).drew).heap.size (some ⟨V14.heap.size, 0, none⟩) [u] 1 := by have h0 := one_rdb V14 u; rw [← World.size_alloc V14 (.cells #[.int .u8 (u.toNat : Int)] 5)] at h0; exact h0
              obtain ⟨bU, hbU⟩ : ∃ b, b = V14.heap.size := ⟨_, rfl⟩
              rw [← hbU] at hux1 ⊢
              clear hbU
              refine hK.out _ _ (sRt HT5.out HS5.out HH5.out hbx1) (fun hHeld2 => ?_)
              clear hK K hHeld
              have hHeld := hHeld2
              clear hHeld2
              try simp only [Act.put, List.setIfInBounds_toArray, List.set_cons_zero, List.set_cons_succ]
              generalize hWx1 : (V14.alloc (.cells #[.int .u8 (u.toNat : Int)] 5)).drew = Wx1 at *
              clear hWx1
              refine wpAnyH_ready (rs := [6]) (by kernel_rfl) (by simp) ?_
              refine AllReadyH.cons (o := { dst := some 95, op := Op.call { callee := Callee.builtin Builtin.append, args := #[Operand.tmp 91, Operand.tmp 94], argTypes := #[28, 28] }, type := 28, pos := "ref.go:50", after := #[{ on := 2, ground := Ground.data }, { on := 5, ground := Ground.data }], guard := none }) rfl (fun K hK => ?_) AllReadyH.nil
              refine step_app _ rfl (.tmp 91) (.tmp 94) rfl V5.heap.size (.slice A9 kL0 c9) L rfl hox1 _ (some ⟨bU, 0, none⟩) 1 1 [u] rfl rfl hux1 ?_ (Below.size hbx1) ?_
              · have h0 := HLL.out; simp only [List.length_cons, List.length_nil]; omega
              intro vx2 wx2 hox2 hgx2 _
              have hbx2 : Below V5.heap.size V5 wx2 := (hbx1).trans (grown_below hox1 hgx2 (Below.size hbx1))
              obtain ⟨A2, c2, hvx2e, hrx2⟩ := hox2.rd
              rw [show (L ++ [u]).length = m from HML.out] at hvx2e
              rw [show L ++ [u] = ks from HKS.out] at hrx2
              subst hvx2e
              clear hox2 hgx2
              refine hK.out _ _ (sRt HT5.out HS5.out HH5.out hbx2) (fun hHeld2 => ?_)
              clear hK K hHeld
              have hHeld := hHeld2
              clear hHeld2
              try simp only [Act.put, List.setIfInBounds_toArray, List.set_cons_zero, List.set_cons_succ]
              refine wpAnyH_take (i := 9) (oi := { dst := some 98, op := Op.build 41 #[(0, Operand.tmp 95), (1, Operand.tmp 96), (2, Operand.tmp 97)], type := 41, pos := "ref.go:50", after := #[{ on := 6, ground := Ground.data }, { on := 7, ground := Ground.data }, { on := 8, ground := Ground.data }, { on := 10, ground := Ground.gcOnly Departure.lateStores }], guard := none }) (v := .agg #[.slice A2 m c2, .int .i64 (sg : Int), .bool bell]) rfl (by kernel_rfl) (by kernel_rfl) (by kernel_rfl) (fun _ _ _ h => h) (Or.inl ⟨by rfl, fun W hW => ?_⟩) hHeld ?_
              · obtain ⟨q0, q1, q2, q3, q4, q5, q6⟩ := hW
                go_simp
              simp only [Act.put, List.setIfInBounds_toArray, List.set_cons_zero, List.set_cons_succ]
              have hZ9 := SR.call HZ5.out hbx2 HZ5.out.lt
              have hY9 := SR.call HY5.out hbx2 HY5.out.lt
              have hB9 := bCall HB5.out hbx2
              have hT9 : TB _ _ X := SR.call HT5.out hbx2 (SR.lt HT5.out)
              have hS9 := SR.call HS5.out hbx2 HS5.out.lt
              have hH9 := SR.call HH5.out hbx2 HH5.out.lt
              obtain ⟨j0, j1, j2, j3, j4, r0, r1, r2, r3, r4, jt⟩ := tk_facts hZ9
              obtain ⟨E1, E2, E3, E4⟩ := set8_end hZ9 hY9 (by omega) hB9 (by omega) (by omega) A1 n1 c1 (t1 : Int) ov1 li1 false (.slice A2 m c2) (.int .i64 (sg : Int)) (.bool bell)
              have HE1 := keepd (E1 _ _ _ (HR5.out.below hbx2 (Below.size hbx2)))
              have HE5 := keepd (E1 _ _ _ hrx2)
              have HE2 := keepd E2
              have HE3 := keepd E3
              have HE4 := keepd E4
              clear E1 E2 E3 E4
              have hyS : SR 41 (set5 wx2 (w.heap.size + 1 + 1 + 1) (.slice A1 n1 c1) (.int .i64 (t1 : Int)) (.bool ov1) (.bool li1) (.bool false)) (w.heap.size + 1 + 1 + 1 + 1) [.slice none 0 0, .int .i64 0, .bool false] := set5_far hY9 (by omega)
              refine wpAnyH_ready (rs := [10]) (by kernel_rfl) (by simp) ?_
              refine AllReadyH.cons (o := { dst := none, op := Op.store 34 (Operand.tmp 8) (Operand.tmp 90), type := 0, pos := "ref.go:50", after := #[{ on := 1, ground := Ground.data }, { on := 6, ground := Ground.chain }, { on := 0, ground := Ground.phase }, { on := 1, ground := Ground.phase }, { on := 2, ground := Ground.textOnly Departure.lateStores }, { on := 3, ground := Ground.textOnly Departure.lateStores }, { on := 4, ground := Ground.textOnly Departure.lateStores }, { on := 5, ground := Ground.textOnly Departure.lateStores }, { on := 6, ground := Ground.textOnly Departure.lateStoresUnsure }, { on := 7, ground := Ground.textOnly Departure.lateStores }, { on := 8, ground := Ground.textOnly Departure.lateStores }, { on := 9, ground := Ground.textOnly Departure.lateStores }], guard := none }) rfl (fun K hK => ?_) AllReadyH.nil
              go_simp
              refine hK.out _ (set5 wx2 (w.heap.size + 1 + 1 + 1) (.slice A1 n1 c1) (.int .i64 (t1 : Int)) (.bool ov1) (.bool li1) (.bool false)) (sRo (set5_far hT9 (by have h0 := LBT.out; omega)) (set5_far hS9 (by have h0 := LBT.out; omega)) (set5_far hH9 (by have h0 := LBT.out; omega))) (fun hHeld2 => ?_)
              clear hK K hHeld
              have hHeld := hHeld2
              clear hHeld2
              try simp only [Act.put, List.setIfInBounds_toArray, List.set_cons_zero, List.set_cons_succ]
              clear j0 j1 j2 j3 j4 r0 r1 r2 r3 r4 jt
              obtain ⟨j0, j1, j2, r0, r1, r2, jt⟩ := ty_facts hyS
              refine wpAnyH_ready (rs := [11]) (by kernel_rfl) (by simp) ?_
              refine AllReadyH.cons (o := { dst := none, op := Op.store 41 (Operand.tmp 9) (Operand.tmp 98), type := 0, pos := "ref.go:50", after := #[{ on := 9, ground := Ground.data }, { on := 10, ground := Ground.chain }, { on := 0, ground := Ground.phase }, { on := 1, ground := Ground.phase }, { on := 2, ground := Ground.phase }, { on := 3, ground := Ground.phase }, { on := 4, ground := Ground.phase }, { on := 5, ground := Ground.phase }, { on := 6, ground := Ground.phase }, { on := 7, ground := Ground.phase }, { on := 8, ground := Ground.phase }, { on := 9, ground := Ground.phase }, { on := 10, ground := Ground.phase }], guard := none }) rfl (fun K hK => ?_) AllReadyH.nil
              go_simp
              refine hK.out _ (set3 (set5 wx2 (w.heap.size + 1 + 1 + 1) (.slice A1 n1 c1) (.int .i64 (t1 : Int)) (.bool ov1) (.bool li1) (.bool false)) (w.heap.size + 1 + 1 + 1 + 1) (.slice A2 m c2) (.int .i64 (sg : Int)) (.bool bell)) (sRo (set3_far (set5_far hT9 (by have h0 := LBT.out; omega)) (by have h0 := LBT.out; omega)) (set3_far (set5_far hS9 (by have h0 := LBT.out; omega)) (by have h0 := LBT.out; omega)) (set3_far (set5_far hH9 (by have h0 := LBT.out; omega)) (by have h0 := LBT.out; omega))) (fun hHeld2 => ?_)
              clear hK K hHeld
              have hHeld := hHeld2
              clear hHeld2
              try simp only [Act.put, List.setIfInBounds_toArray, List.set_cons_zero, List.set_cons_succ]
              refine wpAnyH_done (by kernel_rfl) ?_ _
              clear j0 j1 j2 r0 r1 r2 jt hZ9 hY9 hB9 hT9 hS9 hH9 hyS
              generalize (set3 (set5 wx2 (w.heap.size + 1 + 1 + 1) (.slice A1 n1 c1) (.int .i64 (t1 : Int)) (.bool ov1) (.bool li1) (.bool false)) (w.heap.size + 1 + 1 + 1 + 1) (.slice A2 m c2) (.int .i64 (sg : Int)) (.bool bell)) = V9 at *
              obtain ⟨j0, j1, j2, j3, j4, _, _, _, _, _, jt⟩ := tk_facts HE3.out
              obtain ⟨i0, i1, i2, _, _, _, it⟩ := ty_facts HE4.out
              go_wp2_with fail
              refine bodyPost_ret (v := .tuple #[.agg #[.slice A1 n1 c1, .int .i64 (t1 : Int), .bool ov1, .bool li1, .bool false], .agg #[.slice A2 m c2, .int .i64 (sg : Int), .bool bell]]) (by simp [results, Tryd.results13, go_sem, j0, j1, j2, j3, j4, i0, i1, i2]) rfl ?_
              exact ⟨A1, c1, _, _, rfl, HE1.out, HE5.out, HE2.out⟩

end Go.Proofs.YtlfmbfecajhffaaDoor
