/-
  Several texts in one: K3 K4. No conditions beyond those each theorem states.
-/
import Derived.Test.YtlfmbfecajhffaaDoorK2
/-
  What a talk has passed on: the contract of Pass. No conditions beyond those each theorem states.
-/
namespace Go.Proofs.YtlfmbfecajhffaaDoor
open Go.RowKit
set_option maxRecDepth 100000

attribute [local go_sem ↓] ex_ld25 ex_st25 ex_al25 ex_bu25 ex_ix25 ex_eq25 ex_ne25 ex_eq23 ex_ne23 ex_ld25o ex_st65 ex_al65 ex_bu65 ex_bu65s ex_ld25d
attribute [local go_sem] ptrB_at okPtr_at aggC_at agg62 agg69 isC_at isT_at eqV_t eqV_c isRow_new isRow_new65 World.setRow_alloc_new ptr4_at okPtr4_at cutT_at isI_at isS_at bW_at bWs_at ptrD_at okPtrD_at cutD_at

theorem rd_drew {w : World} {A : Option Addr} {l : List UInt8} {c : Nat} (h : Rd w w.heap.size A l c) : Rd w.drew w.drew.heap.size A l c := h
theorem sr_drew {t : TypeId} {w : World} {b : Nat} {cs : List Value} (h : SR t w b cs) : SR t w.drew b cs := h
/-- A talk in the block g, stored whole. -/
def set5 (w : World) (g : Nat) (a b x y h : Value) : World := ((((w.setCell ⟨g, 0, none⟩ a).setCell ⟨g, 1, none⟩ b).setCell ⟨g, 2, none⟩ x).setCell ⟨g, 3, none⟩ y).setCell ⟨g, 4, none⟩ h
theorem set5_heap (w : World) (g : Nat) (a b x y h : Value) {k : Nat} (hk : k ≠ g) : (set5 w g a b x y h).heap[k]? = w.heap[k]? := by
  unfold set5
  rw [Below.heap_setCell _ ⟨g, 4, none⟩ _ k hk, Below.heap_setCell _ ⟨g, 3, none⟩ _ k hk, Below.heap_setCell _ ⟨g, 2, none⟩ _ k hk, Below.heap_setCell _ ⟨g, 1, none⟩ _ k hk, Below.heap_setCell _ ⟨g, 0, none⟩ _ k hk]
theorem set5_size (w : World) (g : Nat) (a b x y h : Value) : (set5 w g a b x y h).heap.size = w.heap.size := by simp [set5, World.setCell]
theorem set5_below {B : Nat} {w W : World} {g : Nat} {a b x y h : Value} (H : Below B w W) (hg : B ≤ g) : Below B w (set5 W g a b x y h) :=
  ((((H.setCell (p := ⟨g, 0, none⟩) hg _).setCell (p := ⟨g, 1, none⟩) hg _).setCell (p := ⟨g, 2, none⟩) hg _).setCell (p := ⟨g, 3, none⟩) hg _).setCell (p := ⟨g, 4, none⟩) hg _
theorem set5_sr {t : TypeId} {w : World} {g : Nat} {a b x y h a' b' x' y' h' : Value} (H : SR t w g [a', b', x', y', h']) : SR t (set5 w g a b x y h) g [a, b, x, y, h] := ((((H.set 0 a).set 1 b).set 2 x).set 3 y).set 4 h
theorem set5_far {t : TypeId} {w : World} {g p : Nat} {a b x y h : Value} {cs : List Value} (H : SR t w p cs) (hp : p ≠ g) : SR t (set5 w g a b x y h) p cs := (set5_heap w g a b x y h hp).trans H
theorem set5_own {W : World} {B b : Nat} {v a x y z h : Value} {l : List UInt8} (H : Own W B v l) (hb : b < B) : Own (set5 W b a x y z h) B v l := set1_own (set1_own (set1_own (set1_own (set1_own H hb) hb) hb) hb) hb
theorem tk_no {A : Option Addr} {n c : Nat} {z : Int} {ov li h : Bool} : ∀ u ∈ ([.slice A n c, .int .i64 z, .bool ov, .bool li, .bool h] : List Value), isU u = false := by
  intro u hu
  simp only [List.mem_cons, List.not_mem_nil, or_false] at hu
  rcases hu with rfl | rfl | rfl | rfl | rfl <;> rfl
/-- Behind the store of a talk that is answered. -/
theorem set5_end {w W : World} {g B0 : Nat} {A' : Option Addr} {n' c' : Nat} {z' : Int} {ov' li' h' : Bool} (hz : SR 34 W g [.slice A' n' c', .int .i64 z', .bool ov', .bool li', .bool h']) (hb : Below B0 w W) (hg : B0 ≤ g) (a b x y h : Value) :
    (∀ (B : Option Addr) (l : List UInt8) (k : Nat), Rd W W.heap.size B l k → Rd (set5 W g a b x y h) (set5 W g a b x y h).heap.size B l k) ∧ Below B0 w (set5 W g a b x y h) :=
  ⟨fun _ _ _ hr => hr.setNo hz tk_no (by rw [set5_size]; exact Nat.le_refl _) fun _ hk => set5_heap _ _ _ _ _ _ _ hk, set5_below hb hg⟩
theorem ptk_new (w : World) (X : Tb) (a b x y h a' b' x' y' h' : Value) (V : World) (hV : ((w.alloc (.cells (cs X).toArray 25)).alloc (.cells #[a, b, x, y, h] 34)).alloc (.cells #[a', b', x', y', h'] 34) = V) :
    Hid (TB V w.heap.size X) ∧ Hid (SR 34 V (w.heap.size + 1) [a, b, x, y, h]) ∧ Hid (SR 34 V (w.heap.size + 1 + 1) [a', b', x', y', h']) ∧ Hid (Below w.heap.size w V) := by
  obtain ⟨h1, h2, h3⟩ := tk_new2 (w.alloc (.cells (cs X).toArray 25)) _ _ _ _ _ _ _ _ _ _ _ hV
  rw [World.size_alloc] at h1 h2
  exact ⟨SR.call (heap_alloc_new w _) h3.out (by simp), h1, h2, upA h3.out⟩

theorem GA.setLow {w : World} {g b i : Nat} {l : List UInt8} (h : GA w g l) (hb : b < g) (u : Value) : GA (w.setCell ⟨b, i, none⟩ u) g l := by
  obtain ⟨v, h1, h2, h3⟩ := h
  exact ⟨v, h1.far (by show g ≠ b; omega) _, set1_own h2 hb, h3⟩
/-- What is answered when what a talk has is passed on: the talk, and keys. -/
def GotPs (w : World) (l : List UInt8) (n : Nat) (z : Int) (ov li h : Bool) (ks : List UInt8) (m : Nat) (e : Ending) (w' : World) : Prop :=
  ∃ A c B d, e = .returned (.tuple #[.agg #[.slice A n c, .int .i64 z, .bool ov, .bool li, .bool h], .slice B m d]) ∧ Rd w' w'.heap.size A l c ∧ Own w' w.heap.size (.slice B m d) ks ∧ Below w.heap.size w w'
set_option maxHeartbeats 2000000 in
theorem pass_any (X : Tb) (hX : TbO X) (A : Option Addr) (l : List UInt8) (n c : Nat) (z : Int) (ov li h : Bool) (w : World) (hn : n = l.length) (hr : Rd w w.heap.size A l c) (hl : n ≤ 1000000)
    (h' : Bool) (hh : passH n z h = h') (ks : List UInt8) (hk : passK X l z ov li h = ks) (m : Nat) (hm : ks.length = m) :
    Calls Tryd.prog 10 #[tv X, .agg #[.slice A n c, .int .i64 z, .bool ov, .bool li, .bool h]] w (GotPs w l n z ov li h' ks m) := by
  have HM := keepd hm
  have HN := keepd hn
  have CO := keepd fun (W : World) (hb : Below w.heap.size w W) => town_any A l n c z ov li h W hn (hr.at_ hb) hl
  obtain ⟨L, hL⟩ : ∃ L, keysG X l z ov li = L := ⟨_, rfl⟩
  have hLle : L.length ≤ 20000 := by
    rw [← hL]
    unfold keysG
    split
    · rename_i hq
      have h1 := (mayV_ok (ov := ov) (li := li) hq).1.2
      have := (keysL_len X ⟨l, z.toNat, ov, li⟩).1
      simp only at this h1
      omega
    · simp
  have HLL := keepd hLle
  have CP := keepd fun (g : Nat) (W : World) (B : Option Addr) (d : Nat) (hg : GA W g []) (hr : Rd W W.heap.size B l d) => passHeld_any X hX B l n d z ov li h g [] L _ W hg hn hr hL rfl (by have := HLL.out; simp only [List.length_nil]; omega)
  obtain ⟨q, hq⟩ : ∃ q, mayV n z = q := ⟨_, rfl⟩
  have HH : Hid ((if q then false else h) = h') := by show _ = _; rw [← hh]; unfold passH; rw [hq]
  have HK : Hid ((if q && h then L else []) = ks) := by
    show _ = _
    rw [← hk, ← hL]
    unfold passK keysG
    rw [hn] at hq
    rw [hq]
    cases q <;> cases h <;> rfl
  have HQ := keepd hq
  clear hX hm hn hr hh hk hL hLle hq
  have hmf : ∀ (fn : Fn) (first cap : Array Value) (w : World), (Instr.makeFunc fn first cap).run Tryd.prog w = .ok (.func fn first cap) w := fun _ _ _ _ => rfl
  go_enter Tryd.func10, Tryd.ntmps10
  go_upto_region 1 with fail
  generalize hV : ((w.alloc (.cells (cs X).toArray 25)).alloc (.cells #[.slice A n c, .int .i64 z, .bool ov, .bool li, .bool h] 34)).alloc (.cells #[.slice none 0 0, .int .i64 0, .bool false, .bool false, .bool false] 34) = V
  obtain ⟨HT, HS, HZ, HB⟩ := ptk_new _ _ _ _ _ _ _ _ _ _ _ _ _ hV
  obtain ⟨k0, k1, k2, k3, k4, r0, r1, r2, r3, r4, kt⟩ := tk_facts HS.out
  clear hV
  have HZL := keepd HZ.out.lt
  go_wp2_with fail
  with_reducible refine (CO.out _ HB.out).mono ?_
  rintro e w1 ⟨A1, c1, rfl, ho, hb1⟩
  have HT1 := keepd (SR.call HT.out hb1 (SR.lt HT.out))
  have HS1 := keepd (SR.call HS.out hb1 HS.out.lt)
  have HZ1 := keepd (SR.call HZ.out hb1 HZ.out.lt)
  have HB1 := keepd (bCall HB.out hb1)
  have HO1 := keepd ho
  have LS := keepd HS.out.lt
  clear hb1 ho k0 k1 k2 k3 k4 r0 r1 r2 r3 r4 kt CO HT HS HZ HB
  obtain ⟨k0, k1, k2, k3, k4, r0, r1, r2, r3, r4, kt⟩ := tk_facts HS1.out
  go_upto_region 2 with fail
  generalize hV : ((((w1.setCell ⟨w.heap.size + 1, 0, none⟩ (.slice A1 n c1)).setCell ⟨w.heap.size + 1, 1, none⟩ (.int .i64 z)).setCell ⟨w.heap.size + 1, 2, none⟩ (.bool ov)).setCell ⟨w.heap.size + 1, 3, none⟩ (.bool li)).setCell ⟨w.heap.size + 1, 4, none⟩ (.bool h) = V2
  have HV2 : V2 = set5 w1 (w.heap.size + 1) (.slice A1 n c1) (.int .i64 z) (.bool ov) (.bool li) (.bool h) := hV.symm
  have HT2 : Hid (TB V2 w.heap.size X) := by rw [HV2]; exact set5_far HT1.out (by omega)
  have HS2 : Hid (SR 34 V2 (w.heap.size + 1) [.slice A1 n c1, .int .i64 z, .bool ov, .bool li, .bool h]) := by rw [HV2]; exact set5_sr HS1.out
  have HZ2 : Hid (SR 34 V2 (w.heap.size + 1 + 1) [.slice none 0 0, .int .i64 0, .bool false, .bool false, .bool false]) := by rw [HV2]; exact set5_far HZ1.out (by omega)
  have HB2 : Hid (Below w.heap.size w V2) := by rw [HV2]; exact set5_below HB1.out (by omega)
  have HO2 : Hid (Rd V2 V2.heap.size A1 l c1) := by rw [HV2]; exact (set5_own HO1.out LS.out).rdOf
  clear hV HV2 HT1 HS1 HZ1 HB1 HO1 LS HZL k0 k1 k2 k3 k4 r0 r1 r2 r3 r4 kt
  obtain ⟨k0, k1, k2, k3, k4, _, _, _, _, _, kt⟩ := tk_facts HS2.out
  cases q
  case false =>
    have CK := keepd (tcheck_bad A1 n c1 z ov li h V2 HQ.out)
    go_wp2_with fail
    with_reducible refine CK.out.mono ?_
    rintro e w3 ⟨rfl, hb3⟩
    have HS3 := keepd (SR.call HS2.out hb3 HS2.out.lt)
    have HZ3 := keepd (SR.call HZ2.out hb3 HZ2.out.lt)
    have HB3 := keepd (bCall HB2.out hb3)
    have HO3 := keepd (HO2.out.at_ hb3)
    clear k0 k1 k2 k3 k4 kt hb3 CK
    obtain ⟨k0, k1, k2, k3, k4, _, _, _, _, _, kt⟩ := tk_facts HS3.out
    obtain ⟨j0, j1, j2, j3, j4, r0, r1, r2, r3, r4, jt⟩ := tk_facts HZ3.out
    obtain ⟨E1, E2⟩ := set5_end HZ3.out HB3.out (by omega) (.slice A1 n c1) (.int .i64 z) (.bool ov) (.bool li) (.bool h)
    have HE1 := keepd (E1 _ _ _ HO3.out)
    have HE2 := keepd E2
    clear E1 E2
    obtain rfl : h = h' := HH.out
    obtain rfl : ks = [] := HK.out.symm
    obtain rfl : m = 0 := HM.out.symm
    go_wp2_with fail
    refine bodyPost_ret (v := .tuple #[.agg #[.slice A1 n c1, .int .i64 z, .bool ov, .bool li, .bool h], .slice none 0 0]) (by simp [results, Tryd.results10, go_sem, j0, j1, j2, j3, j4]) rfl ?_
    exact ⟨A1, c1, none, 0, rfl, HE1.out, Own.nil _ _, HE2.out⟩
  case true =>
    have CK := keepd (tcheck_ok A1 n c1 z ov li h V2 HQ.out)
    go_wp2_with fail
    with_reducible refine CK.out.mono ?_
    rintro e w3 ⟨rfl, hb3⟩
    have HT3 := keepd (SR.call HT2.out hb3 (SR.lt HT2.out))
    have HS3 := keepd (SR.call HS2.out hb3 HS2.out.lt)
    have HZ3 := keepd (SR.call HZ2.out hb3 HZ2.out.lt)
    have HB3 := keepd (bCall HB2.out hb3)
    have HO3 := keepd (HO2.out.at_ hb3)
    clear k0 k1 k2 k3 k4 kt hb3 CK HT2 HS2 HZ2 HB2 HO2
    go_upto_region 5 with fail
    generalize hV : w3.alloc (.cells #[.slice none 0 0] 73) = V4
    generalize hg9 : w3.heap.size = g9
    have HG4 : Hid (GA V4 g9 []) := by rw [← hV, ← hg9]; exact GA.new w3
    have hbx : Below w3.heap.size w3 V4 := by rw [← hV]; exact bAlloc (Below.refl _ _) _
    have HT4 := keepd (SR.call HT3.out hbx (SR.lt HT3.out))
    have HS4 := keepd (SR.call HS3.out hbx HS3.out.lt)
    have HZ4 := keepd (SR.call HZ3.out hbx HZ3.out.lt)
    have HB4 := keepd (bCall HB3.out hbx)
    have HO4 := keepd (HO3.out.at_ hbx)
    have LT5 : Hid (w.heap.size < g9) := by rw [← hg9]; exact SR.lt HT3.out
    have LS : Hid (w.heap.size + 1 < g9) := by rw [← hg9]; exact HS3.out.lt
    have LZ : Hid (w.heap.size + 1 + 1 < g9) := by rw [← hg9]; exact HZ3.out.lt
    have LW : Hid (w.heap.size ≤ g9) := by have := LS.out; show _ ≤ _; omega
    have ho3 : Rd w3 g9 A1 l c1 := hg9 ▸ HO3.out
    have hb40 : Below g9 w3 V4 := by rw [← hV, ← hg9]; exact bAlloc (Below.refl _ _) _
    have HOG : Hid (∀ W, Below g9 V4 W → g9 ≤ W.heap.size → Rd W W.heap.size A1 l c1) := fun W hb h => ho3.below (hb40.trans hb) h
    clear ho3 hb40
    clear hV hg9 hbx HT3 HS3 HZ3 HB3 HO3
    obtain ⟨k0, k1, k2, k3, k4, _, _, _, _, _, kt⟩ := tk_facts HS4.out
    obtain ⟨q0, q1⟩ := TB.facts HT4.out
    have CPx := keepd (CP.out g9 V4 A1 c1 HG4.out HO4.out)
    go_wp2_with fail
    with_reducible refine CPx.out.mono ?_
    rintro e w5 ⟨rfl, hg5, hb5⟩
    have hlt5 := hg5.lt
    have HT5 := keepd (SR.call HT4.out hb5 LT5.out)
    have HS5 := keepd (SR.call HS4.out hb5 LS.out)
    have HZ5 := keepd (SR.call HZ4.out hb5 LZ.out)
    have HB5 := keepd (HB4.out.trans (hb5.mono LW.out))
    have HO5 := keepd (HOG.out w5 hb5 (Nat.le_of_lt hlt5))
    have HG5 := keepd hg5
    clear hb5 hg5 hlt5 CPx CP HG4 HT4 HS4 HZ4 HB4 HO4 HOG k0 k1 k2 k3 k4 kt q0 q1
    obtain ⟨k0, k1, k2, k3, k4, r0, r1, r2, r3, r4, kt⟩ := tk_facts HS5.out
    go_upto_region 7 with fail
    generalize hV : w5.setCell ⟨w.heap.size + 1, 4, none⟩ (.bool false) = V6
    have HS6 : Hid (SR 34 V6 (w.heap.size + 1) [.slice A1 n c1, .int .i64 z, .bool ov, .bool li, .bool false]) := by rw [← hV]; exact HS5.out.set 4 _
    have HZ6 : Hid (SR 34 V6 (w.heap.size + 1 + 1) [.slice none 0 0, .int .i64 0, .bool false, .bool false, .bool false]) := by rw [← hV]; exact HZ5.out.far (by show w.heap.size + 1 + 1 ≠ w.heap.size + 1; omega) _
    have HG6 : Hid (GA V6 g9 ([] ++ if h then L else [])) := by rw [← hV]; exact HG5.out.setLow LS.out _
    have HB6 : Hid (Below w.heap.size w V6) := by rw [← hV]; exact bSet HB5.out (by omega) _
    have HO6 : Hid (Rd V6 V6.heap.size A1 l c1) := by rw [← hV]; exact HO5.out.setNo HS5.out tk_no (by simp [World.setCell]) fun k hk => Below.heap_setCell _ ⟨w.heap.size + 1, 4, none⟩ _ k hk
    clear hV HT5 HS5 HZ5 HG5 HB5 HO5 k0 k1 k2 k3 k4 r0 r1 r2 r3 r4 kt
    obtain ⟨k0, k1, k2, k3, k4, _, _, _, _, _, kt⟩ := tk_facts HS6.out
    obtain ⟨j0, j1, j2, j3, j4, r0, r1, r2, r3, r4, jt⟩ := tk_facts HZ6.out
    have hg6 := HG6.out
    rw [show ([] ++ (if h then L else []) : List UInt8) = ks from HK.out] at hg6
    obtain ⟨B9, d9, hs9, hr9, ho9⟩ := hg6.rd
    rw [show ks.length = m from HM.out] at hs9 ho9
    have e0 := hs9.cell 0
    simp only [List.getElem?_cons_zero] at e0
    have HO9 := keepd ho9
    clear hs9 hr9 ho9 hg6
    obtain rfl : false = h' := HH.out
    have z1 : ¬ w.heap.size + 1 + 1 = g9 := by have := LZ.out; omega
    have z2 : ¬ g9 = w.heap.size + 1 + 1 := by have := LZ.out; omega
    obtain ⟨E1, E2⟩ := set5_end HZ6.out HB6.out (by omega) (.slice A1 n c1) (.int .i64 z) (.bool ov) (.bool li) (.bool false)
    have E3 : SR 34 (set5 V6 (w.heap.size + 1 + 1) (.slice A1 n c1) (.int .i64 z) (.bool ov) (.bool li) (.bool false)) (w.heap.size + 1 + 1) [.slice A1 n c1, .int .i64 z, .bool ov, .bool li, .bool false] := set5_sr HZ6.out
    have E4 : Own (set5 V6 (w.heap.size + 1 + 1) (.slice A1 n c1) (.int .i64 z) (.bool ov) (.bool li) (.bool false)) g9 (.slice B9 m d9) ks := set5_own HO9.out LZ.out
    have HE1 := keepd (E1 _ _ _ HO6.out)
    have HE2 := keepd E2
    have HE3 := keepd E3
    have HE4 := keepd E4
    clear E1 E2 E3 E4
    go_region
    generalize hV : (((((V6.setCell ⟨w.heap.size + 1 + 1, 0, none⟩ (.slice A1 n c1)).setCell ⟨w.heap.size + 1 + 1, 1, none⟩ (.int .i64 z)).setCell ⟨w.heap.size + 1 + 1, 2, none⟩ (.bool ov)).setCell ⟨w.heap.size + 1 + 1, 3, none⟩ (.bool li)).setCell ⟨w.heap.size + 1 + 1, 4, none⟩ (.bool false)).drew = V9
    have hv9 : V9 = (set5 V6 (w.heap.size + 1 + 1) (.slice A1 n c1) (.int .i64 z) (.bool ov) (.bool li) (.bool false)).drew := hV.symm
    have HF1 : Hid (Rd V9 V9.heap.size A1 l c1) := by rw [hv9]; exact rd_drew HE1.out
    have HF2 : Hid (Below w.heap.size w V9) := by rw [hv9]; exact HE2.out.drew
    have HF3 : Hid (SR 34 V9 (w.heap.size + 1 + 1) [.slice A1 n c1, .int .i64 z, .bool ov, .bool li, .bool false]) := by rw [hv9]; exact sr_drew HE3.out
    have HF4 : Hid (Own V9 g9 (.slice B9 m d9) ks) := by rw [hv9]; exact HE4.out.drew
    clear hv9
    clear hV HE1 HE2 HE3 HE4 k0 k1 k2 k3 k4 kt j0 j1 j2 j3 j4 r0 r1 r2 r3 r4 jt e0 z1 z2
    obtain ⟨j0, j1, j2, j3, j4, _, _, _, _, _, jt⟩ := tk_facts HF3.out
    go_wp2_with fail
    refine bodyPost_ret (v := .tuple #[.agg #[.slice A1 n c1, .int .i64 z, .bool ov, .bool li, .bool false], .slice B9 m d9]) (by simp [results, Tryd.results10, go_sem, j0, j1, j2, j3, j4]) rfl ?_
    exact ⟨A1, c1, B9, d9, rfl, HF1.out, HF4.out.base LW.out, HF2.out⟩

end Go.Proofs.YtlfmbfecajhffaaDoor
/-
  A key typed in a talk that may not be; talks and what is typed in memory. No conditions beyond those each theorem states.
-/
namespace Go.Proofs.YtlfmbfecajhffaaDoor
open Go.RowKit
set_option maxRecDepth 100000

attribute [local go_sem ↓] ex_ld25 ex_st25 ex_al25 ex_bu25 ex_ix25 ex_eq25 ex_ne25 ex_eq23 ex_ne23 ex_ld25o ex_st65 ex_al65 ex_bu65 ex_bu65s ex_ld25d
attribute [local go_sem] ptrB_at okPtr_at aggC_at agg62 agg69 isC_at isT_at eqV_t eqV_c isRow_new isRow_new65 World.setRow_alloc_new ptr4_at okPtr4_at cutT_at isI_at isS_at bW_at bWs_at ptrD_at okPtrD_at cutD_at

/-- What is typed in the block g, stored whole. -/
def set3 (w : World) (g : Nat) (a b x : Value) : World := ((w.setCell ⟨g, 0, none⟩ a).setCell ⟨g, 1, none⟩ b).setCell ⟨g, 2, none⟩ x
theorem set3_heap (w : World) (g : Nat) (a b x : Value) {k : Nat} (hk : k ≠ g) : (set3 w g a b x).heap[k]? = w.heap[k]? := by
  unfold set3
  rw [Below.heap_setCell _ ⟨g, 2, none⟩ _ k hk, Below.heap_setCell _ ⟨g, 1, none⟩ _ k hk, Below.heap_setCell _ ⟨g, 0, none⟩ _ k hk]
theorem set3_size (w : World) (g : Nat) (a b x : Value) : (set3 w g a b x).heap.size = w.heap.size := by simp [set3, World.setCell]
theorem set3_below {B : Nat} {w W : World} {g : Nat} {a b x : Value} (H : Below B w W) (hg : B ≤ g) : Below B w (set3 W g a b x) :=
  ((H.setCell (p := ⟨g, 0, none⟩) hg _).setCell (p := ⟨g, 1, none⟩) hg _).setCell (p := ⟨g, 2, none⟩) hg _
theorem set3_sr {t : TypeId} {w : World} {g : Nat} {a b x a' b' x' : Value} (H : SR t w g [a', b', x']) : SR t (set3 w g a b x) g [a, b, x] := ((H.set 0 a).set 1 b).set 2 x
theorem set3_far {t : TypeId} {w : World} {g p : Nat} {a b x : Value} {cs : List Value} (H : SR t w p cs) (hp : p ≠ g) : SR t (set3 w g a b x) p cs := (set3_heap w g a b x hp).trans H
theorem ty_no {A : Option Addr} {n c : Nat} {z : Int} {h : Bool} : ∀ u ∈ ([.slice A n c, .int .i64 z, .bool h] : List Value), isU u = false := by
  intro u hu
  simp only [List.mem_cons, List.not_mem_nil, or_false] at hu
  rcases hu with rfl | rfl | rfl <;> rfl
theorem ty_facts {V : World} {g : Nat} {a b x : Value} (H : SR 41 V g [a, b, x]) : V.cell? ⟨g, 0, none⟩ = some a ∧ V.cell? ⟨g, 1, none⟩ = some b ∧ V.cell? ⟨g, 2, none⟩ = some x ∧ V.frozen? ⟨g, 0, none⟩ = false ∧ V.frozen? ⟨g, 1, none⟩ = false ∧ V.frozen? ⟨g, 2, none⟩ = false ∧ g < V.heap.size :=
  ⟨H.cell 0, H.cell 1, H.cell 2, H.frozen 0, H.frozen 1, H.frozen 2, H.lt⟩
/-- Behind the stores of a talk, and of what is typed. -/
theorem set8_end {w W : World} {g p B0 : Nat} (hz : SR 34 W g [.slice none 0 0, .int .i64 0, .bool false, .bool false, .bool false]) (hy : SR 41 W p [.slice none 0 0, .int .i64 0, .bool false]) (hgp : g ≠ p) (hb : Below B0 w W) (hg : B0 ≤ g) (hp : B0 ≤ p) (A : Option Addr) (n c : Nat) (z : Int) (ov li h : Bool) (k s r : Value) :
    (∀ (B : Option Addr) (l : List UInt8) (k' : Nat), Rd W W.heap.size B l k' → Rd (set3 (set5 W g (.slice A n c) (.int .i64 z) (.bool ov) (.bool li) (.bool h)) p k s r) (set3 (set5 W g (.slice A n c) (.int .i64 z) (.bool ov) (.bool li) (.bool h)) p k s r).heap.size B l k') ∧
    Below B0 w (set3 (set5 W g (.slice A n c) (.int .i64 z) (.bool ov) (.bool li) (.bool h)) p k s r) ∧
    SR 34 (set3 (set5 W g (.slice A n c) (.int .i64 z) (.bool ov) (.bool li) (.bool h)) p k s r) g [.slice A n c, .int .i64 z, .bool ov, .bool li, .bool h] ∧ SR 41 (set3 (set5 W g (.slice A n c) (.int .i64 z) (.bool ov) (.bool li) (.bool h)) p k s r) p [k, s, r] := by
  obtain ⟨E1, E2⟩ := set5_end hz hb hg (.slice A n c) (.int .i64 z) (.bool ov) (.bool li) (.bool h)
  have E3 : SR 34 (set5 W g (.slice A n c) (.int .i64 z) (.bool ov) (.bool li) (.bool h)) g [.slice A n c, .int .i64 z, .bool ov, .bool li, .bool h] := set5_sr hz
  have E4 : SR 41 (set5 W g (.slice A n c) (.int .i64 z) (.bool ov) (.bool li) (.bool h)) p [.slice none 0 0, .int .i64 0, .bool false] := set5_far hy (fun e => hgp e.symm)
  generalize set5 W g (.slice A n c) (.int .i64 z) (.bool ov) (.bool li) (.bool h) = W2 at *
  exact ⟨fun B l k' hr => (E1 _ _ _ hr).setNo E4 ty_no (by rw [set3_size]; exact Nat.le_refl _) fun _ hk => set3_heap _ _ _ _ _ hk, set3_below E2 hp, set3_far E3 hgp, set3_sr E4⟩
theorem tyt_new (w : World) (X : Tb) (a b x y h a' b' x' y' h' k s r : Value) (V : World) (hV : (((w.alloc (.cells (cs X).toArray 25)).alloc (.cells #[a, b, x, y, h] 34)).alloc (.cells #[a', b', x', y', h'] 34)).alloc (.cells #[k, s, r] 41) = V) :
    Hid (TB V w.heap.size X) ∧ Hid (SR 34 V (w.heap.size + 1) [a, b, x, y, h]) ∧ Hid (SR 34 V (w.heap.size + 1 + 1) [a', b', x', y', h']) ∧ Hid (SR 41 V (w.heap.size + 1 + 1 + 1) [k, s, r]) ∧ Hid (Below w.heap.size w V) := by
  obtain ⟨h1, h2, h3, h4⟩ := ptk_new w X a b x y h a' b' x' y' h' _ rfl
  subst hV
  refine ⟨SR.alloc h1.out _, SR.alloc h2.out _, SR.alloc h3.out _, ?_, bAlloc h4.out _⟩
  have := SR.new 41 (((w.alloc (.cells (cs X).toArray 25)).alloc (.cells #[a, b, x, y, h] 34)).alloc (.cells #[a', b', x', y', h'] 34)) [k, s, r]
  simp only [World.size_alloc] at this
  exact this

/-- What is answered of a key typed: the talk, and what is passed on. -/
def GotTy (w : World) (l : List UInt8) (n : Nat) (z : Int) (ov li h : Bool) (ks : List UInt8) (m : Nat) (sg : Int) (bell : Bool) (e : Ending) (w' : World) : Prop :=
  ∃ A c B d, e = .returned (.tuple #[.agg #[.slice A n c, .int .i64 z, .bool ov, .bool li, .bool h], .agg #[.slice B m d, .int .i64 sg, .bool bell]]) ∧ Rd w' w'.heap.size A l c ∧ Rd w' w'.heap.size B ks d ∧ Below w.heap.size w w'

set_option maxHeartbeats 2000000 in
theorem type_bad (X : Tb) (room : Int) (A : Option Addr) (l : List UInt8) (n c : Nat) (z : Int) (ov li h : Bool) (u : UInt8) (edit fwd : Bool) (w : World) (hn : n = l.length) (hr : Rd w w.heap.size A l c) (hl : n ≤ 1000000) (hm : mayV n z = false) :
    Calls Tryd.prog 11 #[tv X, .int .i64 room, .agg #[.slice A n c, .int .i64 z, .bool ov, .bool li, .bool h], .int .u8 (u.toNat : Int), .bool edit, .bool fwd] w (GotTy w l n z ov li h [] 0 0 false) := by
  have CO := keepd fun (W : World) (hb : Below w.heap.size w W) => town_any A l n c z ov li h W hn (hr.at_ hb) hl
  have CK := keepd fun W : World => tcheck_bad A n c z ov li h W hm
  clear hn hr hm
  go_enter Tryd.func11, Tryd.ntmps11
  go_upto_region 1 with fail
  generalize hV : (((w.alloc (.cells (cs X).toArray 25)).alloc (.cells #[.slice A n c, .int .i64 z, .bool ov, .bool li, .bool h] 34)).alloc (.cells #[.slice none 0 0, .int .i64 0, .bool false, .bool false, .bool false] 34)).alloc (.cells #[.slice none 0 0, .int .i64 0, .bool false] 41) = V
  obtain ⟨HT, HS, HZ, HY, HB⟩ := tyt_new _ _ _ _ _ _ _ _ _ _ _ _ _ _ _ _ hV
  obtain ⟨k0, k1, k2, k3, k4, _, _, _, _, _, kt⟩ := tk_facts HS.out
  clear hV
  go_wp2_with fail
  with_reducible refine (CK.out _).mono ?_
  rintro e w1 ⟨rfl, hb1⟩
  have HS1 := keepd (SR.call HS.out hb1 HS.out.lt)
  have HZ1 := keepd (SR.call HZ.out hb1 HZ.out.lt)
  have HY1 := keepd (SR.call HY.out hb1 HY.out.lt)
  have HB1 := keepd (bCall HB.out hb1)
  clear k0 k1 k2 k3 k4 kt hb1 CK HT HS HZ HY HB
  obtain ⟨k0, k1, k2, k3, k4, _, _, _, _, _, kt⟩ := tk_facts HS1.out
  go_wp2_with fail
  with_reducible refine (CO.out _ HB1.out).mono ?_
  rintro e w2 ⟨A1, c1, rfl, ho2, hb2⟩
  have HZ2 := keepd (SR.call HZ1.out hb2 HZ1.out.lt)
  have HY2 := keepd (SR.call HY1.out hb2 HY1.out.lt)
  have HB2 := keepd (bCall HB1.out hb2)
  have HO2 := keepd ho2.rdOf
  clear k0 k1 k2 k3 k4 kt hb2 ho2 CO HS1 HZ1 HY1 HB1
  obtain ⟨j0, j1, j2, j3, j4, r0, r1, r2, r3, r4, jt⟩ := tk_facts HZ2.out
  obtain ⟨i0, i1, i2, s0, s1, s2, it⟩ := ty_facts HY2.out
  obtain ⟨E1, E2, E3, E4⟩ := set8_end HZ2.out HY2.out (by omega) HB2.out (by omega) (by omega) A1 n c1 z ov li h (.slice none 0 0) (.int .i64 0) (.bool false)
  have HE1 := keepd (E1 _ _ _ HO2.out)
  have HE2 := keepd E2
  have HE3 := keepd E3
  have HE4 := keepd E4
  clear E1 E2 E3 E4
  go_wp2_with fail
  refine bodyPost_ret (v := .tuple #[.agg #[.slice A1 n c1, .int .i64 z, .bool ov, .bool li, .bool h], .agg #[.slice none 0 0, .int .i64 0, .bool false]]) (by simp [results, Tryd.results11, go_sem, j0, j1, j2, j3, j4, i0, i1, i2]) rfl ?_
  exact ⟨A1, c1, none, 0, rfl, HE1.out, Rd.nil _ _, HE2.out⟩

end Go.Proofs.YtlfmbfecajhffaaDoor
