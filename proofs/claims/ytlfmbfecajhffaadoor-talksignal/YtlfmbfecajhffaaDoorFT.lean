/-
  A key typed in a talk: the contract of Type, the octets in new memory. No conditions beyond those each theorem states.
-/
import Derived.Test.YtlfmbfecajhffaaDoorFK
import Derived.Test.YtlfmbfecajhffaaDoorK5
namespace Go.Proofs.YtlfmbfecajhffaaDoor.Fr
open Go.RowKit
set_option maxRecDepth 100000

attribute [local go_sem ↓] ex_ld25 ex_st25 ex_al25 ex_bu25 ex_ix25 ex_eq25 ex_ne25 ex_eq23 ex_ne23 ex_ld25o ex_st65 ex_al65 ex_bu65 ex_bu65s ex_ld25d
attribute [local go_sem] ptrB_at okPtr_at aggC_at agg62 agg69 isC_at isT_at eqV_t eqV_c isRow_new isRow_new65 World.setRow_alloc_new ptr4_at okPtr4_at cutT_at isI_at isS_at bW_at bWs_at ptrD_at okPtrD_at cutD_at

/-- What is answered of a key typed, the talk's octets in new memory. -/
def GotTyF (w : World) (l : List UInt8) (n : Nat) (z : Int) (ov li h : Bool) (ks : List UInt8) (m : Nat) (sg : Int) (bell : Bool) (e : Ending) (w' : World) : Prop :=
  ∃ A c B d, e = .returned (.tuple #[.agg #[.slice A n c, .int .i64 z, .bool ov, .bool li, .bool h], .agg #[.slice B m d, .int .i64 sg, .bool bell]]) ∧ Rd w' w'.heap.size A l c ∧ Rd w' w'.heap.size B ks d ∧ Below w.heap.size w w' ∧ Frs w A

set_option maxHeartbeats 16000000 in
theorem type_own (X : Tb) (hX : TbO X) (room : Int) (A : Option Addr) (l : List UInt8) (n c t : Nat) (ov li h : Bool) (u : UInt8) (edit fwd : Bool) (w : World) (hn : n = l.length) (hr : Rd w w.heap.size A l c) (h1 : t ≤ n) (h2 : n ≤ 4096)
    (l1 : List UInt8) (n1 t1 : Nat) (ov1 li1 h' : Bool) (ks : List UInt8) (m sg be : Nat) (bell : Bool) (hp : typeT X room ⟨⟨l, t, ov, li⟩, h⟩ u edit fwd = (⟨⟨l1, t1, ov1, li1⟩, h'⟩, ⟨ks, sg, be⟩)) (hn1 : l1.length = n1) (hm : ks.length = m) (hb : decide (0 < be) = bell) :
    Calls Tryd.prog 11 #[tv X, .int .i64 room, .agg #[.slice A n c, .int .i64 (t : Int), .bool ov, .bool li, .bool h], .int .u8 (u.toNat : Int), .bool edit, .bool fwd] w (GotTyF w l1 n1 (t1 : Int) ov1 li1 h' ks m (sg : Int) bell) := by
  have hmf : ∀ (fn : Fn) (first cap : Array Value) (w : World), (Instr.makeFunc fn first cap).run Tryd.prog w = .ok (.func fn first cap) w := fun _ _ _ _ => rfl
  have hmay : mayV n (t : Int) = true := mayV_nat h2 h1
  have hok : Ed.ok ⟨l, t, ov, li⟩ := ⟨by rw [← hn]; exact h1, by rw [← hn]; exact h2⟩
  obtain ⟨es, hes⟩ : ∃ es, (keyE X room ⟨l, t, ov, li⟩ u).es = es := ⟨_, rfl⟩
  obtain ⟨m1, hm1⟩ : ∃ m1, es.length = m1 := ⟨_, rfl⟩
  have hkey : keyE X room ⟨l, t, ov, li⟩ u = ⟨⟨l1, t1, ov1, li1⟩, es, be⟩ := by
    obtain ⟨e1, e2⟩ := typeT_s X room ⟨⟨l, t, ov, li⟩, h⟩ u edit fwd
    rw [hp] at e1 e2
    simp only at e1 e2
    rw [← hes, e1, e2]
  have hok1 : Ed.ok ⟨l1, t1, ov1, li1⟩ := by have := keyE_ok hok X room u; rw [hkey] at this; exact this
  obtain ⟨q, hq⟩ : ∃ q, isZ ⟨l, t, ov, li⟩ = q := ⟨_, rfl⟩
  obtain ⟨d, hd⟩ : ∃ d, byKey h q edit m1 = d := ⟨_, rfl⟩
  have HD := keepd hd
  have hd' : byKey h (isZ ⟨l, t, ov, li⟩) edit (keyE X room ⟨l, t, ov, li⟩ u).es.length = d := by rw [hq, hes, hm1]; exact hd
  have HTY : Hid (if d then h' = false ∧ ks = (if h then keysL X ⟨l, t, ov, li⟩ else []) ++ [u] ∧ sg = sgT X ⟨l, t, ov, li⟩ u else sg = 0 ∧ h' = !(fwd && !isZ ⟨l1, t1, ov1, li1⟩) ∧ ks = if fwd && !isZ ⟨l1, t1, ov1, li1⟩ then keysL X ⟨l1, t1, ov1, li1⟩ else []) := by
    show ite _ _ _
    cases d
    · have e := (typeT_not (fwd := fwd) hd').symm.trans hp
      rw [hkey] at e
      simp only [Bool.false_eq_true, if_false]
      cases hc : (fwd && !isZ ⟨l1, t1, ov1, li1⟩)
      · rw [hc] at e
        simp only [Bool.false_eq_true, if_false, Prod.mk.injEq, Tk.mk.injEq, Ty.mk.injEq] at e
        exact ⟨e.2.2.1.symm, e.1.2.symm, e.2.1.symm⟩
      · rw [hc] at e
        simp only [if_true, Prod.mk.injEq, Tk.mk.injEq, Ty.mk.injEq] at e
        exact ⟨e.2.2.1.symm, e.1.2.symm, e.2.1.symm⟩
    · have e := (typeT_by (fwd := fwd) hd').symm.trans hp
      rw [hkey] at e
      simp only [Prod.mk.injEq, Tk.mk.injEq, Ty.mk.injEq] at e
      simp only [if_true]
      exact ⟨e.1.2.symm, e.2.1.symm, e.2.2.1.symm⟩
  have CC := keepd fun W : World => tcheck_ok A n c (t : Int) ov li h W hmay
  have CY := keepd fun (W : World) (hb' : Below w.heap.size w W) => key_own X room A l n c t ov li u W hn (hr.at_ hb') h1 h2 l1 n1 t1 ov1 li1 es m1 be bell hkey hn1 hm1 hb
  have CN := keepd fun (W : World) (hb' : Below w.heap.size w W) => known_any A l n c (t : Int) ov li h (!h && !q) W hn (hr.at_ hb') (by rw [← isZ_same, hq])
  obtain ⟨L, hL⟩ : ∃ L, keysL X ⟨l, t, ov, li⟩ = L := ⟨_, rfl⟩
  have hLle : L.length ≤ 20000 := by rw [← hL]; have := (keysL_len X ⟨l, t, ov, li⟩).1; have h3 : l.length ≤ 4096 := hok.2; simp only at this; omega
  obtain ⟨L1, hL1⟩ : ∃ L1, keysL X ⟨l1, t1, ov1, li1⟩ = L1 := ⟨_, rfl⟩
  have hL1le : L1.length ≤ 20000 := by rw [← hL1]; have := (keysL_len X ⟨l1, t1, ov1, li1⟩).1; have h3 : l1.length ≤ 4096 := hok1.2; simp only at this; omega
  have CP := keepd fun (g : Nat) (W : World) (hg : GA W g []) (hb' : Below w.heap.size w W) => passHeld_any X hX A l n c (t : Int) ov li h g [] L _ W hg hn (hr.at_ hb') (by rw [← hL]; unfold keysG; rw [← hn, hmay]; simp) rfl (by simp only [List.length_nil]; omega)
  obtain ⟨mu, hmu⟩ : ∃ mu, meanF X (u.toNat : Int) = mu := ⟨_, rfl⟩
  obtain ⟨sg1, hsg1⟩ : ∃ sg1, sgT X ⟨l, t, ov, li⟩ u = sg1 := ⟨_, rfl⟩
  have CS := keepd fun W : World => signalOf_any X A n c (t : Int) ov li u sg1 mu W hmu (by rw [← hsg1]; unfold sgT; rw [hmu])
  obtain ⟨q1, hq1⟩ : ∃ q1, isZ ⟨l1, t1, ov1, li1⟩ = q1 := ⟨_, rfl⟩
  rw [hL, hsg1, hq1, hL1] at HTY
  have CZ := keepd fun (W : World) (A1 : Option Addr) (c1 : Nat) (hr' : Rd W W.heap.size A1 l1 c1) => zero_any A1 l1 n1 c1 (t1 : Int) ov1 li1 q1 W hn1.symm hr' (by rw [← isZ_same]; exact hq1)
  obtain ⟨k1m, hk1m⟩ : ∃ k1m, L1.length = k1m := ⟨_, rfl⟩
  have CK1 := keepd fun (W : World) (A1 : Option Addr) (c1 : Nat) (hr' : Rd W W.heap.size A1 l1 c1) => kgood_any X hX A1 l1 n1 c1 t1 ov1 li1 W hn1.symm hr' (by rw [← hn1]; exact hok1.1) (by rw [← hn1]; exact hok1.2) L1 k1m hL1 hk1m
  have HL1 := keepd (And.intro hk1m hL1le)
  have HLL := keepd hLle
  have HM := keepd hm
  have HM1 := keepd hm1
  clear hX hn hr h1 h2 hp hn1 hm hb hmay hok hes hm1 hkey hok1 hq hd hd' hL hLle hL1 hL1le hmu hsg1 hq1 hk1m
  go_enter Tryd.func11, Tryd.ntmps11
  go_upto_region 1 with fail
  generalize hV : (((w.alloc (.cells (cs X).toArray 25)).alloc (.cells #[.slice A n c, .int .i64 (t : Int), .bool ov, .bool li, .bool h] 34)).alloc (.cells #[.slice none 0 0, .int .i64 0, .bool false, .bool false, .bool false] 34)).alloc (.cells #[.slice none 0 0, .int .i64 0, .bool false] 41) = V
  obtain ⟨HT, HK, HZ, HY, HB⟩ := tyt_new _ _ _ _ _ _ _ _ _ _ _ _ _ _ _ _ hV
  obtain ⟨k0, k1, k2, k3, k4, _, _, _, _, _, kt⟩ := tk_facts HK.out
  clear hV
  go_wp2_with fail
  with_reducible refine (CC.out _).mono ?_
  rintro e w1 ⟨rfl, hb1⟩
  have HT1 := keepd (SR.call HT.out hb1 (SR.lt HT.out))
  have HK1 := keepd (SR.call HK.out hb1 HK.out.lt)
  have HZ1 := keepd (SR.call HZ.out hb1 HZ.out.lt)
  have HY1 := keepd (SR.call HY.out hb1 HY.out.lt)
  have HB1 := keepd (bCall HB.out hb1)
  clear k0 k1 k2 k3 k4 kt hb1 CC HT HK HZ HY HB
  obtain ⟨k0, k1, k2, k3, k4, _, _, _, _, _, kt⟩ := tk_facts HK1.out
  obtain ⟨q0, q1'⟩ := TB.facts HT1.out
  go_wp2_with fail
  with_reducible refine (CY.out _ HB1.out).mono ?_
  rintro e w4 ⟨A1, c1, B1, d1, Le, rfl, _, hLm, hr4, _, hb4, _, hf4, _⟩
  have HFR : Hid (Frs w A1) := fun ad had => Nat.le_trans HB1.out.size (hf4 ad had)
  clear hf4
  have HT4 := keepd (SR.call HT1.out hb4 (SR.lt HT1.out))
  have HK4 := keepd (SR.call HK1.out hb4 HK1.out.lt)
  have HZ4 := keepd (SR.call HZ1.out hb4 HZ1.out.lt)
  have HY4 := keepd (SR.call HY1.out hb4 HY1.out.lt)
  have HB4 := keepd (bCall HB1.out hb4)
  have HO4 := keepd hr4
  clear k0 k1 k2 k3 k4 kt q0 q1' hb4 hr4 hLm CY HT1 HK1 HZ1 HY1 HB1
  go_upto_region 8 with fail
  generalize hV : (w4.alloc (.cells #[.slice A1 n1 c1, .int .i64 (t1 : Int), .bool ov1, .bool li1] 32)).alloc (.cells #[.slice none 0 0] 73) = V6
  generalize hb14 : w4.heap.size = b14
  generalize hg9 : b14 + 1 = g9
  have hs5 : (w4.alloc (.cells #[.slice A1 n1 c1, .int .i64 (t1 : Int), .bool ov1, .bool li1] 32)).heap.size = g9 := by rw [World.size_alloc, hb14, hg9]
  have hb60 : Below g9 (w4.alloc (.cells #[.slice A1 n1 c1, .int .i64 (t1 : Int), .bool ov1, .bool li1] 32)) V6 := by rw [← hV, ← hs5]; exact bAlloc (Below.refl _ _) _
  have hb45 : Below w4.heap.size w4 (w4.alloc (.cells #[.slice A1 n1 c1, .int .i64 (t1 : Int), .bool ov1, .bool li1] 32)) := bAlloc (Below.refl _ _) _
  have hb46 : Below w4.heap.size w4 V6 := by rw [← hV]; exact bAlloc hb45 _
  have HG6 : Hid (GA V6 g9 []) := by rw [← hV, ← hs5]; exact GA.new _
  have HS6 : Hid (SR 32 V6 b14 [.slice A1 n1 c1, .int .i64 (t1 : Int), .bool ov1, .bool li1]) := by rw [← hV, ← hb14]; exact SR.alloc (SR.new 32 w4 _) _
  have HT6 : Hid (TB V6 w.heap.size X) := SR.call HT4.out hb46 (SR.lt HT4.out)
  have HK6 : Hid (SR 34 V6 (w.heap.size + 1) [.slice A n c, .int .i64 (t : Int), .bool ov, .bool li, .bool h]) := SR.call HK4.out hb46 HK4.out.lt
  have HZ6 : Hid (SR 34 V6 (w.heap.size + 1 + 1) [.slice none 0 0, .int .i64 0, .bool false, .bool false, .bool false]) := SR.call HZ4.out hb46 HZ4.out.lt
  have HY6 : Hid (SR 41 V6 (w.heap.size + 1 + 1 + 1) [.slice none 0 0, .int .i64 0, .bool false]) := SR.call HY4.out hb46 HY4.out.lt
  have HB6 : Hid (Below w.heap.size w V6) := bCall HB4.out hb46
  have ho5 : Rd (w4.alloc (.cells #[.slice A1 n1 c1, .int .i64 (t1 : Int), .bool ov1, .bool li1] 32)) g9 A1 l1 c1 := by have := HO4.out.at_ hb45; rw [hs5] at this; exact this
  have HO6 : Hid (∀ W, Below g9 V6 W → g9 ≤ W.heap.size → Rd W W.heap.size A1 l1 c1) := fun W hb h => ho5.below (hb60.trans hb) h
  have LV : Hid (w.heap.size + 1 + 1 + 1 < b14) := by show _ < _; rw [← hb14]; exact HY4.out.lt
  have LB : Hid (b14 < g9) := by show _ < _; omega
  have LY : Hid (w.heap.size + 1 + 1 + 1 < g9) := by have := LV.out; show _ < _; omega
  have LZ : Hid (w.heap.size + 1 + 1 < g9) := by have := LV.out; show _ < _; omega
  have LK : Hid (w.heap.size + 1 < g9) := by have := LV.out; show _ < _; omega
  have LT : Hid (w.heap.size < g9) := by have := LV.out; show _ < _; omega
  have LW : Hid (w.heap.size ≤ g9) := by have := LV.out; show _ ≤ _; omega
  have HB66 : Hid (Below g9 V6 V6) := Below.refl _ _
  clear hV hb14 hg9 hs5 hb60 hb45 hb46 ho5 HT4 HK4 HZ4 HY4 HB4 HO4
  go_cut [38] from 39 to 49 (fun s38 wx => s38 = .bool d ∧ Hid (Below V6.heap.size V6 wx))
  case first =>
    obtain ⟨k0, k1, k2, k3, k4, _, _, _, _, _, kt⟩ := tk_facts HK6.out
    cases edit
    case false =>
      obtain rfl : d = true := by rw [← HD.out]; rfl
      go_wp2_with fail
      go_meet
      exact ⟨rfl, (Below.refl _ _)⟩
    case true =>
      cases hkn : (!h && !q)
      case true =>
        obtain rfl : d = true := by rw [← HD.out]; unfold byKey; rw [hkn]; rfl
        rw [hkn] at CN
        go_wp2_with fail
        with_reducible refine (CN.out _ HB6.out).mono ?_
        rintro e w7 ⟨rfl, hb7⟩
        have HB7 := keepd hb7
        clear hb7
        go_wp2_with fail
        go_meet
        exact ⟨rfl, HB7.out⟩
      case false =>
        rw [hkn] at CN
        by_cases hm0 : 0 < m1
        · obtain rfl : d = true := by rw [← HD.out]; unfold byKey; rw [hkn]; simp [hm0]
          have a1 : (m1 : Int) > 0 := by omega
          have a2 : (0 : Int) < (m1 : Int) := by omega
          go_wp2_with fail
          with_reducible refine (CN.out _ HB6.out).mono ?_
          rintro e w7 ⟨rfl, hb7⟩
          have HB7 := keepd hb7
          clear hb7
          go_wp2_with fail
          go_meet
          exact ⟨rfl, HB7.out⟩
        · obtain rfl : d = false := by rw [← HD.out]; unfold byKey; rw [hkn]; simp [hm0]
          have a1 : ¬ (m1 : Int) > 0 := by omega
          have a2 : ¬ (0 : Int) < (m1 : Int) := by omega
          go_wp2_with fail
          with_reducible refine (CN.out _ HB6.out).mono ?_
          rintro e w7 ⟨rfl, hb7⟩
          have HB7 := keepd hb7
          clear hb7
          go_wp2_with fail
          go_meet
          exact ⟨rfl, HB7.out⟩
  case rest =>
    obtain ⟨rfl, hbc⟩ := hcut
    obtain ⟨w7, hw7⟩ : ∃ w7, w7 = wc := ⟨_, rfl⟩
    subst hw7
    have HG7 := keepd (HG6.out.call hbc.out)
    have HB7 : Hid (Below g9 V6 w7) := hbc.out.mono (Nat.le_of_lt HG6.out.lt)
    have HBW7 := keepd (bCall HB6.out hbc.out)
    clear hbc CN HD
    obtain ⟨k0, k1, k2, k3, k4, _, _, _, _, _, kt⟩ := tk_facts (show SR 34 w7 (w.heap.size + 1) _ from SR.call HK6.out HB7.out LK.out)
    obtain ⟨q0, q1'⟩ := TB.facts (show TB w7 w.heap.size X from SR.call HT6.out HB7.out LT.out)
    cases d
    case true =>
      obtain ⟨rfl, hks, rfl⟩ := (show _ ∧ _ ∧ _ by have := HTY.out; rwa [if_pos rfl] at this : h' = false ∧ ks = (if h then L else []) ++ [u] ∧ sg = sg1)
      have HKS := keepd hks
      clear hks
      have CPx := keepd (CP.out g9 w7 HG7.out HBW7.out)
      go_wp2_with fail
      with_reducible refine CPx.out.mono ?_
      rintro e w8 ⟨rfl, hg8, hb8⟩
      have HB8 : Hid (Below g9 V6 w8) := HB7.out.trans hb8
      have HG8 := keepd hg8
      clear hg8 hb8 CPx CP k0 k1 k2 k3 k4 kt q0 q1'
      have hbo : Below w8.heap.size w8 (w8.alloc (.cells #[.int .u8 (u.toNat : Int)] 5)) := bAlloc (Below.refl _ _) _
      have CAx := keepd (add_any g9 ([] ++ if h then L else []) (some ⟨w8.heap.size, 0, none⟩) [u] 1 1 _ (HG8.out.call hbo) rfl (by rw [World.size_alloc]; exact one_rdb w8 u) (by have := HLL.out; simp only [List.length_append, List.length_nil, List.length_cons]; split <;> simp <;> omega))
      have HLB8 := keepd (Nat.le_of_lt HG8.out.lt)
      have hbo9 := HB8.out.trans (hbo.mono HLB8.out)
      have HBO9 := keepd hbo9
      clear hbo hbo9
      go_wp2_with fail
      with_reducible refine CAx.out.mono ?_
      rintro e w9 ⟨rfl, hg9', hb9⟩
      have HB9 : Hid (Below g9 V6 w9) := HBO9.out.trans hb9
      have HG9 : Hid (GA w9 g9 ks) := by have := hg9'; rw [List.nil_append, ← show ks = _ from HKS.out] at this; exact this
      clear hg9' hb9 CAx HBO9 HG8 HB8
      obtain ⟨k0, k1, k2, k3, k4, _, _, _, _, _, kt⟩ := tk_facts (show SR 34 w9 (w.heap.size + 1) _ from SR.call HK6.out HB9.out LK.out)
      obtain ⟨q0, q1'⟩ := TB.facts (show TB w9 w.heap.size X from SR.call HT6.out HB9.out LT.out)
      go_wp2_with fail
      with_reducible refine (CS.out _).mono ?_
      rintro e w10 ⟨rfl, hb10⟩
      have HGw10 := keepd (HG9.out.call hb10)
      have HBw10 : Hid (Below g9 V6 w10) := HB9.out.trans (hb10.mono (Nat.le_of_lt HG9.out.lt))
      clear k0 k1 k2 k3 k4 kt q0 q1' hb10 CS
      go_upto_region 14 with fail
      obtain ⟨B9, d9, hs9, hr9, _⟩ := HGw10.out.rd
      rw [show ks.length = m from HM.out] at hs9
      have e0 := hs9.cell 0
      simp only [List.getElem?_cons_zero] at e0
      have HR9 := keepd hr9
      clear hs9 hr9
      have HSx := keepd (SR.call HS6.out HBw10.out LB.out)
      have HZx := keepd (SR.call HZ6.out HBw10.out LZ.out)
      have HYx := keepd (SR.call HY6.out HBw10.out LY.out)
      have HBw := keepd (HB6.out.trans (HBw10.out.mono LW.out))
      have HOx := keepd (HO6.out w10 HBw10.out (Nat.le_of_lt HGw10.out.lt))
      obtain ⟨k0, k1, k2, k3, _, _, _, _, kt⟩ := st_facts HSx.out
      obtain ⟨j0, j1, j2, j3, j4, r0, r1, r2, r3, r4, jt⟩ := tk_facts HZx.out
      obtain ⟨i0, i1, i2, s0, s1, s2, it⟩ := ty_facts HYx.out
      have z1 : ¬ w.heap.size + 1 + 1 = g9 := by have := LZ.out; omega
      have z2 : ¬ g9 = w.heap.size + 1 + 1 := by have := LZ.out; omega
      have z3 : ¬ w.heap.size + 1 + 1 + 1 = g9 := by have := LY.out; omega
      have z4 : ¬ g9 = w.heap.size + 1 + 1 + 1 := by have := LY.out; omega
      have z5 : ¬ w.heap.size + 1 + 1 = b14 := by have := LV.out; omega
      have z6 : ¬ b14 = w.heap.size + 1 + 1 := by have := LV.out; omega
      have z7 : ¬ w.heap.size + 1 + 1 + 1 = b14 := by have := LV.out; omega
      have z8 : ¬ b14 = w.heap.size + 1 + 1 + 1 := by have := LV.out; omega
      obtain ⟨E1, E2, E3, E4⟩ := set8_end HZx.out HYx.out (by omega) HBw.out (by omega) (by omega) A1 n1 c1 (t1 : Int) ov1 li1 false (.slice B9 m d9) (.int .i64 (sg : Int)) (.bool bell)
      have HE1 := keepd (E1 _ _ _ HOx.out)
      have HE2 := keepd E2
      have HE3 := keepd E3
      have HE4 := keepd E4
      have HE5 := keepd (E1 _ _ _ HR9.out)
      clear E1 E2 E3 E4
      go_region
      generalize hV : ((((((((w10.setCell ⟨w.heap.size + 1 + 1, 0, none⟩ (.slice A1 n1 c1)).setCell ⟨w.heap.size + 1 + 1, 1, none⟩ (.int .i64 (t1 : Int))).setCell ⟨w.heap.size + 1 + 1, 2, none⟩ (.bool ov1)).setCell ⟨w.heap.size + 1 + 1, 3, none⟩ (.bool li1)).setCell ⟨w.heap.size + 1 + 1, 4, none⟩ (.bool false)).setCell ⟨w.heap.size + 1 + 1 + 1, 0, none⟩ (.slice B9 m d9)).setCell ⟨w.heap.size + 1 + 1 + 1, 1, none⟩ (.int .i64 (sg : Int))).setCell ⟨w.heap.size + 1 + 1 + 1, 2, none⟩ (.bool bell)).drew = V9
      have hv9 : V9 = (set3 (set5 w10 (w.heap.size + 1 + 1) (.slice A1 n1 c1) (.int .i64 (t1 : Int)) (.bool ov1) (.bool li1) (.bool false)) (w.heap.size + 1 + 1 + 1) (.slice B9 m d9) (.int .i64 (sg : Int)) (.bool bell)).drew := hV.symm
      have HF1 : Hid (Rd V9 V9.heap.size A1 l1 c1) := by rw [hv9]; exact rd_drew HE1.out
      have HF2 : Hid (Below w.heap.size w V9) := by rw [hv9]; exact HE2.out.drew
      have HF3 : Hid (SR 34 V9 (w.heap.size + 1 + 1) [.slice A1 n1 c1, .int .i64 (t1 : Int), .bool ov1, .bool li1, .bool false]) := by rw [hv9]; exact sr_drew HE3.out
      have HF4 : Hid (SR 41 V9 (w.heap.size + 1 + 1 + 1) [.slice B9 m d9, .int .i64 (sg : Int), .bool bell]) := by rw [hv9]; exact sr_drew HE4.out
      have HF5 : Hid (Rd V9 V9.heap.size B9 ks d9) := by rw [hv9]; exact rd_drew HE5.out
      clear hv9 hV HE1 HE2 HE3 HE4 HE5 k0 k1 k2 k3 kt j0 j1 j2 j3 j4 r0 r1 r2 r3 r4 jt i0 i1 i2 s0 s1 s2 it e0 z1 z2 z3 z4 z5 z6 z7 z8
      obtain ⟨j0, j1, j2, j3, j4, _, _, _, _, _, jt⟩ := tk_facts HF3.out
      obtain ⟨i0, i1, i2, _, _, _, it⟩ := ty_facts HF4.out
      go_wp2_with fail
      refine bodyPost_ret (v := .tuple #[.agg #[.slice A1 n1 c1, .int .i64 (t1 : Int), .bool ov1, .bool li1, .bool false], .agg #[.slice B9 m d9, .int .i64 (sg : Int), .bool bell]]) (by simp [results, Tryd.results11, go_sem, j0, j1, j2, j3, j4, i0, i1, i2]) rfl ?_
      exact ⟨A1, c1, B9, d9, rfl, HF1.out, HF5.out, HF2.out, HFR.out⟩
    case false =>
      obtain ⟨rfl, hh', hks⟩ := (show _ ∧ _ ∧ _ by have := HTY.out; rwa [if_neg (by decide)] at this : sg = 0 ∧ h' = !(fwd && !q1) ∧ ks = if fwd && !q1 then L1 else [])
      have HST7 := keepd (SR.call HS6.out HB7.out LB.out)
      obtain ⟨v0, v1, v2, v3, _, _, _, _, vt⟩ := st_facts HST7.out
      clear k0 k1 k2 k3 k4 kt CP CS
      have HOw7 := keepd (HO6.out w7 HB7.out (Nat.le_of_lt HG7.out.lt))
      cases fwd
      case false =>
        obtain rfl : h' = true := hh'
        have HKE : Hid (ks = []) := hks
        have HGw7 : Hid (GA w7 g9 ks) := by rw [show ks = [] from HKE.out]; exact HG7.out
        clear hks
        have HBw7 := keepd HB7.out
        clear q0 q1' v0 v1 v2 v3 vt
        go_upto_region 14 with fail
        obtain ⟨B9, d9, hs9, hr9, _⟩ := HGw7.out.rd
        rw [show ks.length = m from HM.out] at hs9
        have e0 := hs9.cell 0
        simp only [List.getElem?_cons_zero] at e0
        have HR9 := keepd hr9
        clear hs9 hr9
        have HSx := keepd (SR.call HS6.out HBw7.out LB.out)
        have HZx := keepd (SR.call HZ6.out HBw7.out LZ.out)
        have HYx := keepd (SR.call HY6.out HBw7.out LY.out)
        have HBw := keepd (HB6.out.trans (HBw7.out.mono LW.out))
        have HOx := keepd (HO6.out w7 HBw7.out (Nat.le_of_lt HGw7.out.lt))
        obtain ⟨k0, k1, k2, k3, _, _, _, _, kt⟩ := st_facts HSx.out
        obtain ⟨j0, j1, j2, j3, j4, r0, r1, r2, r3, r4, jt⟩ := tk_facts HZx.out
        obtain ⟨i0, i1, i2, s0, s1, s2, it⟩ := ty_facts HYx.out
        have z1 : ¬ w.heap.size + 1 + 1 = g9 := by have := LZ.out; omega
        have z2 : ¬ g9 = w.heap.size + 1 + 1 := by have := LZ.out; omega
        have z3 : ¬ w.heap.size + 1 + 1 + 1 = g9 := by have := LY.out; omega
        have z4 : ¬ g9 = w.heap.size + 1 + 1 + 1 := by have := LY.out; omega
        have z5 : ¬ w.heap.size + 1 + 1 = b14 := by have := LV.out; omega
        have z6 : ¬ b14 = w.heap.size + 1 + 1 := by have := LV.out; omega
        have z7 : ¬ w.heap.size + 1 + 1 + 1 = b14 := by have := LV.out; omega
        have z8 : ¬ b14 = w.heap.size + 1 + 1 + 1 := by have := LV.out; omega
        obtain ⟨E1, E2, E3, E4⟩ := set8_end HZx.out HYx.out (by omega) HBw.out (by omega) (by omega) A1 n1 c1 (t1 : Int) ov1 li1 true (.slice B9 m d9) (.int .i64 0) (.bool bell)
        have HE1 := keepd (E1 _ _ _ HOx.out)
        have HE2 := keepd E2
        have HE3 := keepd E3
        have HE4 := keepd E4
        have HE5 := keepd (E1 _ _ _ HR9.out)
        clear E1 E2 E3 E4
        go_region
        generalize hV : ((((((((w7.setCell ⟨w.heap.size + 1 + 1, 0, none⟩ (.slice A1 n1 c1)).setCell ⟨w.heap.size + 1 + 1, 1, none⟩ (.int .i64 (t1 : Int))).setCell ⟨w.heap.size + 1 + 1, 2, none⟩ (.bool ov1)).setCell ⟨w.heap.size + 1 + 1, 3, none⟩ (.bool li1)).setCell ⟨w.heap.size + 1 + 1, 4, none⟩ (.bool true)).setCell ⟨w.heap.size + 1 + 1 + 1, 0, none⟩ (.slice B9 m d9)).setCell ⟨w.heap.size + 1 + 1 + 1, 1, none⟩ (.int .i64 0)).setCell ⟨w.heap.size + 1 + 1 + 1, 2, none⟩ (.bool bell)).drew = V9
        have hv9 : V9 = (set3 (set5 w7 (w.heap.size + 1 + 1) (.slice A1 n1 c1) (.int .i64 (t1 : Int)) (.bool ov1) (.bool li1) (.bool true)) (w.heap.size + 1 + 1 + 1) (.slice B9 m d9) (.int .i64 0) (.bool bell)).drew := hV.symm
        have HF1 : Hid (Rd V9 V9.heap.size A1 l1 c1) := by rw [hv9]; exact rd_drew HE1.out
        have HF2 : Hid (Below w.heap.size w V9) := by rw [hv9]; exact HE2.out.drew
        have HF3 : Hid (SR 34 V9 (w.heap.size + 1 + 1) [.slice A1 n1 c1, .int .i64 (t1 : Int), .bool ov1, .bool li1, .bool true]) := by rw [hv9]; exact sr_drew HE3.out
        have HF4 : Hid (SR 41 V9 (w.heap.size + 1 + 1 + 1) [.slice B9 m d9, .int .i64 0, .bool bell]) := by rw [hv9]; exact sr_drew HE4.out
        have HF5 : Hid (Rd V9 V9.heap.size B9 ks d9) := by rw [hv9]; exact rd_drew HE5.out
        clear hv9 hV HE1 HE2 HE3 HE4 HE5 k0 k1 k2 k3 kt j0 j1 j2 j3 j4 r0 r1 r2 r3 r4 jt i0 i1 i2 s0 s1 s2 it e0 z1 z2 z3 z4 z5 z6 z7 z8
        obtain ⟨j0, j1, j2, j3, j4, _, _, _, _, _, jt⟩ := tk_facts HF3.out
        obtain ⟨i0, i1, i2, _, _, _, it⟩ := ty_facts HF4.out
        go_wp2_with fail
        refine bodyPost_ret (v := .tuple #[.agg #[.slice A1 n1 c1, .int .i64 (t1 : Int), .bool ov1, .bool li1, .bool true], .agg #[.slice B9 m d9, .int .i64 0, .bool bell]]) (by simp [results, Tryd.results11, go_sem, j0, j1, j2, j3, j4, i0, i1, i2]) rfl ?_
        exact ⟨A1, c1, B9, d9, rfl, HF1.out, HF5.out, HF2.out, HFR.out⟩
      case true =>
        cases q1
        case true =>
          obtain rfl : h' = true := hh'
          have HKE : Hid (ks = []) := hks
          clear hks
          go_wp2_with fail
          with_reducible refine (CZ.out _ A1 c1 HOw7.out).mono ?_
          rintro e w8 ⟨rfl, hb8⟩
          have HGw8 : Hid (GA w8 g9 ks) := by rw [show ks = [] from HKE.out]; exact HG7.out.call hb8
          have HBw8 : Hid (Below g9 V6 w8) := HB7.out.trans (hb8.mono (Nat.le_of_lt HG7.out.lt))
          clear q0 q1' v0 v1 v2 v3 vt hb8
          go_upto_region 14 with fail
          obtain ⟨B9, d9, hs9, hr9, _⟩ := HGw8.out.rd
          rw [show ks.length = m from HM.out] at hs9
          have e0 := hs9.cell 0
          simp only [List.getElem?_cons_zero] at e0
          have HR9 := keepd hr9
          clear hs9 hr9
          have HSx := keepd (SR.call HS6.out HBw8.out LB.out)
          have HZx := keepd (SR.call HZ6.out HBw8.out LZ.out)
          have HYx := keepd (SR.call HY6.out HBw8.out LY.out)
          have HBw := keepd (HB6.out.trans (HBw8.out.mono LW.out))
          have HOx := keepd (HO6.out w8 HBw8.out (Nat.le_of_lt HGw8.out.lt))
          obtain ⟨k0, k1, k2, k3, _, _, _, _, kt⟩ := st_facts HSx.out
          obtain ⟨j0, j1, j2, j3, j4, r0, r1, r2, r3, r4, jt⟩ := tk_facts HZx.out
          obtain ⟨i0, i1, i2, s0, s1, s2, it⟩ := ty_facts HYx.out
          have z1 : ¬ w.heap.size + 1 + 1 = g9 := by have := LZ.out; omega
          have z2 : ¬ g9 = w.heap.size + 1 + 1 := by have := LZ.out; omega
          have z3 : ¬ w.heap.size + 1 + 1 + 1 = g9 := by have := LY.out; omega
          have z4 : ¬ g9 = w.heap.size + 1 + 1 + 1 := by have := LY.out; omega
          have z5 : ¬ w.heap.size + 1 + 1 = b14 := by have := LV.out; omega
          have z6 : ¬ b14 = w.heap.size + 1 + 1 := by have := LV.out; omega
          have z7 : ¬ w.heap.size + 1 + 1 + 1 = b14 := by have := LV.out; omega
          have z8 : ¬ b14 = w.heap.size + 1 + 1 + 1 := by have := LV.out; omega
          obtain ⟨E1, E2, E3, E4⟩ := set8_end HZx.out HYx.out (by omega) HBw.out (by omega) (by omega) A1 n1 c1 (t1 : Int) ov1 li1 true (.slice B9 m d9) (.int .i64 0) (.bool bell)
          have HE1 := keepd (E1 _ _ _ HOx.out)
          have HE2 := keepd E2
          have HE3 := keepd E3
          have HE4 := keepd E4
          have HE5 := keepd (E1 _ _ _ HR9.out)
          clear E1 E2 E3 E4
          go_region
          generalize hV : ((((((((w8.setCell ⟨w.heap.size + 1 + 1, 0, none⟩ (.slice A1 n1 c1)).setCell ⟨w.heap.size + 1 + 1, 1, none⟩ (.int .i64 (t1 : Int))).setCell ⟨w.heap.size + 1 + 1, 2, none⟩ (.bool ov1)).setCell ⟨w.heap.size + 1 + 1, 3, none⟩ (.bool li1)).setCell ⟨w.heap.size + 1 + 1, 4, none⟩ (.bool true)).setCell ⟨w.heap.size + 1 + 1 + 1, 0, none⟩ (.slice B9 m d9)).setCell ⟨w.heap.size + 1 + 1 + 1, 1, none⟩ (.int .i64 0)).setCell ⟨w.heap.size + 1 + 1 + 1, 2, none⟩ (.bool bell)).drew = V9
          have hv9 : V9 = (set3 (set5 w8 (w.heap.size + 1 + 1) (.slice A1 n1 c1) (.int .i64 (t1 : Int)) (.bool ov1) (.bool li1) (.bool true)) (w.heap.size + 1 + 1 + 1) (.slice B9 m d9) (.int .i64 0) (.bool bell)).drew := hV.symm
          have HF1 : Hid (Rd V9 V9.heap.size A1 l1 c1) := by rw [hv9]; exact rd_drew HE1.out
          have HF2 : Hid (Below w.heap.size w V9) := by rw [hv9]; exact HE2.out.drew
          have HF3 : Hid (SR 34 V9 (w.heap.size + 1 + 1) [.slice A1 n1 c1, .int .i64 (t1 : Int), .bool ov1, .bool li1, .bool true]) := by rw [hv9]; exact sr_drew HE3.out
          have HF4 : Hid (SR 41 V9 (w.heap.size + 1 + 1 + 1) [.slice B9 m d9, .int .i64 0, .bool bell]) := by rw [hv9]; exact sr_drew HE4.out
          have HF5 : Hid (Rd V9 V9.heap.size B9 ks d9) := by rw [hv9]; exact rd_drew HE5.out
          clear hv9 hV HE1 HE2 HE3 HE4 HE5 k0 k1 k2 k3 kt j0 j1 j2 j3 j4 r0 r1 r2 r3 r4 jt i0 i1 i2 s0 s1 s2 it e0 z1 z2 z3 z4 z5 z6 z7 z8
          obtain ⟨j0, j1, j2, j3, j4, _, _, _, _, _, jt⟩ := tk_facts HF3.out
          obtain ⟨i0, i1, i2, _, _, _, it⟩ := ty_facts HF4.out
          go_wp2_with fail
          refine bodyPost_ret (v := .tuple #[.agg #[.slice A1 n1 c1, .int .i64 (t1 : Int), .bool ov1, .bool li1, .bool true], .agg #[.slice B9 m d9, .int .i64 0, .bool bell]]) (by simp [results, Tryd.results11, go_sem, j0, j1, j2, j3, j4, i0, i1, i2]) rfl ?_
          exact ⟨A1, c1, B9, d9, rfl, HF1.out, HF5.out, HF2.out, HFR.out⟩
        case false =>
          obtain rfl : h' = false := hh'
          have HKS : Hid (ks = L1) := hks
          clear hks
          go_wp2_with fail
          with_reducible refine (CZ.out _ A1 c1 HOw7.out).mono ?_
          rintro e w8 ⟨rfl, hb8⟩
          have HG8 := keepd (HG7.out.call hb8)
          have HB8 : Hid (Below g9 V6 w8) := HB7.out.trans (hb8.mono (Nat.le_of_lt HG7.out.lt))
          have HO8 := keepd (HOw7.out.at_ hb8)
          clear q0 q1' v0 v1 v2 v3 vt hb8
          obtain ⟨v0, v1, v2, v3, _, _, _, _, vt⟩ := st_facts (show SR 32 w8 b14 _ from SR.call HS6.out HB8.out LB.out)
          obtain ⟨q0, q1'⟩ := TB.facts (show TB w8 w.heap.size X from SR.call HT6.out HB8.out LT.out)
          go_wp2_with fail
          with_reducible refine (CK1.out _ A1 c1 HO8.out).mono ?_
          rintro e w9 ⟨⟨A9, c9, rfl, ho9⟩, hb9⟩
          have HG9 := keepd (HG8.out.call hb9)
          have HB9 : Hid (Below g9 V6 w9) := HB8.out.trans (hb9.mono (Nat.le_of_lt HG8.out.lt))
          have CAx := keepd (add_any g9 [] A9 L1 k1m c9 w9 HG9.out HL1.out.1.symm ho9.rdOf (by have := HL1.out.2; simp only [List.length_nil]; omega))
          clear q0 q1' v0 v1 v2 v3 vt hb9 ho9
          go_wp2_with fail
          with_reducible refine CAx.out.mono ?_
          rintro e w10 ⟨rfl, hg10, hb10⟩
          have HBw10 : Hid (Below g9 V6 w10) := HB9.out.trans hb10
          have HGw10 : Hid (GA w10 g9 ks) := by rw [show ks = L1 from HKS.out]; exact hg10
          clear hg10 hb10 CAx
          go_upto_region 14 with fail
          obtain ⟨B9, d9, hs9, hr9, _⟩ := HGw10.out.rd
          rw [show ks.length = m from HM.out] at hs9
          have e0 := hs9.cell 0
          simp only [List.getElem?_cons_zero] at e0
          have HR9 := keepd hr9
          clear hs9 hr9
          have HSx := keepd (SR.call HS6.out HBw10.out LB.out)
          have HZx := keepd (SR.call HZ6.out HBw10.out LZ.out)
          have HYx := keepd (SR.call HY6.out HBw10.out LY.out)
          have HBw := keepd (HB6.out.trans (HBw10.out.mono LW.out))
          have HOx := keepd (HO6.out w10 HBw10.out (Nat.le_of_lt HGw10.out.lt))
          obtain ⟨k0, k1, k2, k3, _, _, _, _, kt⟩ := st_facts HSx.out
          obtain ⟨j0, j1, j2, j3, j4, r0, r1, r2, r3, r4, jt⟩ := tk_facts HZx.out
          obtain ⟨i0, i1, i2, s0, s1, s2, it⟩ := ty_facts HYx.out
          have z1 : ¬ w.heap.size + 1 + 1 = g9 := by have := LZ.out; omega
          have z2 : ¬ g9 = w.heap.size + 1 + 1 := by have := LZ.out; omega
          have z3 : ¬ w.heap.size + 1 + 1 + 1 = g9 := by have := LY.out; omega
          have z4 : ¬ g9 = w.heap.size + 1 + 1 + 1 := by have := LY.out; omega
          have z5 : ¬ w.heap.size + 1 + 1 = b14 := by have := LV.out; omega
          have z6 : ¬ b14 = w.heap.size + 1 + 1 := by have := LV.out; omega
          have z7 : ¬ w.heap.size + 1 + 1 + 1 = b14 := by have := LV.out; omega
          have z8 : ¬ b14 = w.heap.size + 1 + 1 + 1 := by have := LV.out; omega
          obtain ⟨E1, E2, E3, E4⟩ := set8_end HZx.out HYx.out (by omega) HBw.out (by omega) (by omega) A1 n1 c1 (t1 : Int) ov1 li1 false (.slice B9 m d9) (.int .i64 0) (.bool bell)
          have HE1 := keepd (E1 _ _ _ HOx.out)
          have HE2 := keepd E2
          have HE3 := keepd E3
          have HE4 := keepd E4
          have HE5 := keepd (E1 _ _ _ HR9.out)
          clear E1 E2 E3 E4
          go_region
          generalize hV : ((((((((w10.setCell ⟨w.heap.size + 1 + 1, 0, none⟩ (.slice A1 n1 c1)).setCell ⟨w.heap.size + 1 + 1, 1, none⟩ (.int .i64 (t1 : Int))).setCell ⟨w.heap.size + 1 + 1, 2, none⟩ (.bool ov1)).setCell ⟨w.heap.size + 1 + 1, 3, none⟩ (.bool li1)).setCell ⟨w.heap.size + 1 + 1, 4, none⟩ (.bool false)).setCell ⟨w.heap.size + 1 + 1 + 1, 0, none⟩ (.slice B9 m d9)).setCell ⟨w.heap.size + 1 + 1 + 1, 1, none⟩ (.int .i64 0)).setCell ⟨w.heap.size + 1 + 1 + 1, 2, none⟩ (.bool bell)).drew = V9
          have hv9 : V9 = (set3 (set5 w10 (w.heap.size + 1 + 1) (.slice A1 n1 c1) (.int .i64 (t1 : Int)) (.bool ov1) (.bool li1) (.bool false)) (w.heap.size + 1 + 1 + 1) (.slice B9 m d9) (.int .i64 0) (.bool bell)).drew := hV.symm
          have HF1 : Hid (Rd V9 V9.heap.size A1 l1 c1) := by rw [hv9]; exact rd_drew HE1.out
          have HF2 : Hid (Below w.heap.size w V9) := by rw [hv9]; exact HE2.out.drew
          have HF3 : Hid (SR 34 V9 (w.heap.size + 1 + 1) [.slice A1 n1 c1, .int .i64 (t1 : Int), .bool ov1, .bool li1, .bool false]) := by rw [hv9]; exact sr_drew HE3.out
          have HF4 : Hid (SR 41 V9 (w.heap.size + 1 + 1 + 1) [.slice B9 m d9, .int .i64 0, .bool bell]) := by rw [hv9]; exact sr_drew HE4.out
          have HF5 : Hid (Rd V9 V9.heap.size B9 ks d9) := by rw [hv9]; exact rd_drew HE5.out
          clear hv9 hV HE1 HE2 HE3 HE4 HE5 k0 k1 k2 k3 kt j0 j1 j2 j3 j4 r0 r1 r2 r3 r4 jt i0 i1 i2 s0 s1 s2 it e0 z1 z2 z3 z4 z5 z6 z7 z8
          obtain ⟨j0, j1, j2, j3, j4, _, _, _, _, _, jt⟩ := tk_facts HF3.out
          obtain ⟨i0, i1, i2, _, _, _, it⟩ := ty_facts HF4.out
          go_wp2_with fail
          refine bodyPost_ret (v := .tuple #[.agg #[.slice A1 n1 c1, .int .i64 (t1 : Int), .bool ov1, .bool li1, .bool false], .agg #[.slice B9 m d9, .int .i64 0, .bool bell]]) (by simp [results, Tryd.results11, go_sem, j0, j1, j2, j3, j4, i0, i1, i2]) rfl ?_
          exact ⟨A1, c1, B9, d9, rfl, HF1.out, HF5.out, HF2.out, HFR.out⟩

end Go.Proofs.YtlfmbfecajhffaaDoor.Fr
