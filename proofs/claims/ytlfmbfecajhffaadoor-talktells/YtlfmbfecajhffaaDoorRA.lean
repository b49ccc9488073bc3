/-
  The document's own typed and Signal. No conditions beyond those each theorem states.
-/
import Derived.Test.YtlfmbfecajhffaaDoorA8
import Derived.Test.YtlfmbfecajhffaaDoorA14
namespace Go.Proofs.YtlfmbfecajhffaaDoor
open Go.RowKit
set_option maxRecDepth 100000

attribute [local go_sem ↓] ex_ld25 ex_st25 ex_al25 ex_bu25 ex_ix25 ex_eq25 ex_ne25 ex_eq23 ex_ne23 ex_ld25o ex_st65 ex_al65 ex_bu65 ex_bu65s ex_ld25d
attribute [local go_sem] ptrB_at okPtr_at aggC_at agg62 agg69 isC_at isT_at eqV_t eqV_c isRow_new isRow_new65 World.setRow_alloc_new ptr4_at okPtr4_at cutT_at isI_at isS_at bW_at bWs_at ptrD_at okPtrD_at cutD_at

/-- What is answered of a signal, by the document's own: a state, events. -/
def GotR2 (w : World) (l : List UInt8) (n : Nat) (z : Int) (ov li : Bool) (es : List Ev) (m : Nat) (e : Ending) (w' : World) : Prop :=
  ∃ A c B d L, e = .returned (.tuple #[.agg #[.slice A n c, .int .i64 z, .bool ov, .bool li], .slice B m d]) ∧ L.map EvM.abs = es ∧ L.length = m ∧ Rd w' w'.heap.size A l c ∧ RdE w' B L d ∧ Below w.heap.size w w'
/-- Behind the last store, of an answer in a state's block. -/
theorem set4_end {w W : World} {g : Nat} {B0 : Nat} {A' : Option Addr} {n' c' : Nat} {z' : Int} {x y : Bool} (hz : SR 32 W g [.slice A' n' c', .int .i64 z', .bool x, .bool y]) (hb : Below B0 w W) (hg : B0 ≤ g) (a b p q : Value) :
    (∀ (B : Option Addr) (l : List UInt8) (k : Nat), Rd W W.heap.size B l k → Rd (set4 W g a b p q) (set4 W g a b p q).heap.size B l k) ∧ (∀ (B : Option Addr) (L : List EvM) (k : Nat), RdE W B L k → RdE (set4 W g a b p q) B L k) ∧ Below B0 w (set4 W g a b p q) :=
  ⟨fun _ _ _ h => h.setSt hz (by rw [set4_size]; exact Nat.le_refl _) fun _ hk => set4_heap _ _ _ _ _ _ hk, fun _ _ _ h => h.setSt hz (by rw [set4_size]; exact Nat.le_refl _) fun _ hk => set4_heap _ _ _ _ _ _ hk, set4_below hb hg⟩

/-- The zero state is stored, and a row of one event made. -/
theorem ev_end {w W : World} {g n c : Nat} {A A' : Option Addr} {l : List UInt8} {n' c' : Nat} {z' k : Int} {x y : Bool} (hz : SR 32 W g [.slice A' n' c', .int .i64 z', .bool x, .bool y]) (hb : Below w.heap.size w W) (hg : w.heap.size ≤ g) (hr : Rd W W.heap.size A l c) (hn : n = l.length) (V9 : World)
    (hV : V9 = ((set4 W g (.slice none 0 0) (.int .i64 0) (.bool false) (.bool false)).alloc (.cells #[.int .i64 k, .int .i64 0, .slice A n c] 69)).drew) :
    SR 32 V9 g [.slice none 0 0, .int .i64 0, .bool false, .bool false] ∧ RdE V9 (some ⟨W.heap.size, 0, none⟩) [⟨k, 0, A, l, c⟩] 1 ∧ Below w.heap.size w V9 := by
  subst hn
  obtain ⟨E1, E2, E3⟩ := set4_end hz hb hg (.slice none 0 0) (.int .i64 0) (.bool false) (.bool false)
  have E4 : SR 32 (set4 W g (.slice none 0 0) (.int .i64 0) (.bool false) (.bool false)) g [.slice none 0 0, .int .i64 0, .bool false, .bool false] := set4_sr hz
  have E5 := set4_size W g (.slice none 0 0) (.int .i64 0) (.bool false) (.bool false)
  have E6 := E1 _ _ _ hr
  clear E1 E2
  generalize set4 W g (.slice none 0 0) (.int .i64 0) (.bool false) (.bool false) = W2 at *
  have h1 := one_rdE W2 ⟨k, 0, A, l, c⟩ E6
  rw [E5] at h1
  have h2 := SR.alloc E4 (.cells #[.int .i64 k, .int .i64 0, .slice A l.length c] 69)
  have h3 := bAlloc E3 (.cells #[.int .i64 k, .int .i64 0, .slice A l.length c] 69)
  generalize W2.alloc (.cells #[.int .i64 k, .int .i64 0, .slice A l.length c] 69) = W3 at *
  subst hV
  exact ⟨h2, h1, h3.drew⟩

set_option maxHeartbeats 2000000 in
/-- A key is typed. -/
theorem rtyped_any (A : Option Addr) (l : List UInt8) (n c t : Nat) (ov li : Bool) (room : Int) (u : UInt8) (w : World) (hn : n = l.length) (hr : Rd w w.heap.size A l c) (hl : n ≤ 4096) (ht : t ≤ n)
    (l1 : List UInt8) (n1 t1 be : Nat) (bell : Bool) (hp : typE ⟨l, t, ov, false⟩ room u = ⟨⟨l1, t1, ov, false⟩, [], be⟩) (hn1 : l1.length = n1) (hb : decide (0 < be) = bell) :
    Calls Tryd.prog 58 #[.agg #[.slice A n c, .int .i64 (t : Int), .bool ov, .bool li], .int .i64 room, .int .u8 (u.toNat : Int)] w (GotU w l1 n1 (t1 : Int) ov false [] 0 bell) := by
  have HR := keepd hr
  have HN := keepd hn
  clear hr hn
  obtain ⟨d, hd⟩ : ∃ d, (tyL l t room ov u).isSome = d := ⟨_, rfl⟩
  unfold typE at hp
  simp only [Res.mk.injEq, Ed.mk.injEq, and_true, true_and] at hp
  obtain ⟨⟨hp1, hp2⟩, hp3⟩ := hp
  have hty : tyR l t room ov u = (l1, t1) := Prod.ext hp1 hp2
  have HBD : Hid (bell = !d) := by
    show bell = !d
    rw [← hb, ← hp3, hd]
    cases d <;> rfl
  go_enter Tryd.func58, Tryd.ntmps58
  go_upto_region 1 with fail
  generalize hV : (w.alloc (.cells #[.slice A n c, .int .i64 (t : Int), .bool ov, .bool li] 32)).alloc (.cells #[.slice none 0 0, .int .i64 0, .bool false, .bool false] 32) = V
  obtain ⟨H, H2, HB⟩ := st_new2 _ _ _ _ _ _ _ _ _ _ hV
  obtain ⟨k0, k1, k2, k3, _, _, _, _, kt⟩ := st_facts H.out
  have CT := keepd (rty_go A l l1 n c t t1 n1 room ov u d V HN.out (HR.out.at_ HB.out) hl ht hty hd hn1)
  clear hV hd hp1 hp2 hp3 hty hn1 hb
  go_wp2_with fail
  with_reducible refine CT.out.mono ?_
  rintro e w1 ⟨⟨A1, c1, rfl, hr1⟩, hb1⟩
  go_upto_region 2 with fail
  generalize hV : w1.alloc (.cells #[.slice A1 n1 c1, .int .i64 (t1 : Int)] 30) = V2
  obtain ⟨H9, HB9, _⟩ := line_new1 _ _ _ _ hV
  have hbx := bCall hb1 HB9.out
  have HX := keepd (SR.call H.out hbx H.out.lt)
  have HY := keepd (SR.call H2.out hbx H2.out.lt)
  have HBx := keepd (bCall HB.out hbx)
  have HR1 := keepd (hr1.at_ HB9.out)
  obtain ⟨p0, p1, _, _, _⟩ := line_facts H9.out
  obtain ⟨k0, k1, k2, k3, _, _, _, _, kt⟩ := st_facts HX.out
  obtain ⟨j0, j1, j2, j3, r0, r1, r2, r3, jt⟩ := st_facts HY.out
  obtain ⟨E1, E2, E3⟩ := set4_end HY.out HBx.out (Nat.le_succ _) (.slice A1 n1 c1) (.int .i64 (t1 : Int)) (.bool ov) (.bool false)
  have HE1 := keepd (E1 _ _ _ HR1.out)
  have HE3 := keepd E3
  clear hV hb1 hr1 hbx HB9 CT H H2 HB E1 E2 E3 H9 HX HBx HR1
  go_wp2_with fail
  refine bodyPost_ret (v := .tuple #[.agg #[.slice A1 n1 c1, .int .i64 (t1 : Int), .bool ov, .bool false], .slice none 0 0, .bool (!d)]) (by simp [results, Tryd.results58, go_sem, j0, j1, j2, j3]) rfl ?_
  refine ⟨A1, c1, none, 0, [], by rw [HBD.out], rfl, rfl, HE1.out, nilE _, HE3.out⟩


set_option maxHeartbeats 2000000 in
/-- The document's own Signal. -/
theorem rsig_any (A : Option Addr) (l : List UInt8) (n c t : Nat) (ov li : Bool) (f : Int) (w : World) (hn : n = l.length) (hr : Rd w w.heap.size A l c) (hl : n ≤ 4096) (l1 : List UInt8) (n1 t1 : Nat) (ov1 li1 : Bool) (hs : sigS ⟨l, t, ov, li⟩ f = ⟨l1, t1, ov1, li1⟩) (hn1 : l1.length = n1) :
    Calls Tryd.prog 59 #[.agg #[.slice A n c, .int .i64 (t : Int), .bool ov, .bool li], .int .i64 f] w (GotR2 w l1 n1 (t1 : Int) ov1 li1 [sigV ⟨l, t, ov, li⟩ f] 1) := by
  have HR := keepd hr
  have HN := keepd hn
  have HS := keepd hs
  have HN1 := keepd hn1
  clear hr hn hs hn1
  go_enter Tryd.func59, Tryd.ntmps59
  go_upto_region 1 with fail
  generalize hV : (w.alloc (.cells #[.slice A n c, .int .i64 (t : Int), .bool ov, .bool li] 32)).alloc (.cells #[.slice none 0 0, .int .i64 0, .bool false, .bool false] 32) = V
  obtain ⟨H, H2, HB⟩ := st_new2 _ _ _ _ _ _ _ _ _ _ hV
  clear hV
  go_upto_region 2 with fail
  generalize hV : V.alloc (.cells #[.int .i64 3, .int .i64 f, .slice none 0 0] 69) = V1
  generalize hg9 : V.heap.size = g9
  have HE9 : Hid (RdE V1 (some ⟨g9, 0, none⟩) [⟨3, f, none, [], 0⟩] 1) := by
    rw [← hV, ← hg9]
    exact one_rdE V ⟨3, f, none, [], 0⟩ (Rd.nil _ _)
  have HBx : Hid (Below V.heap.size V V1) := by rw [← hV]; exact bAlloc (Below.refl _ _) _
  have HX := keepd (SR.call H.out HBx.out H.out.lt)
  have HY := keepd (SR.call H2.out HBx.out H2.out.lt)
  have HB1 := keepd (bCall HB.out HBx.out)
  have HRx := keepd (HR.out.at_ HB1.out)
  obtain ⟨k0, k1, k2, k3, _, _, _, _, kt⟩ := st_facts HX.out
  obtain ⟨j0, j1, j2, j3, r0, r1, r2, r3, jt⟩ := st_facts HY.out
  clear hV hg9 HBx HB H H2 HR
  by_cases h4 : f = 4
  · subst h4
    obtain ⟨E1, E2, E3⟩ := set4_end HY.out HB1.out (Nat.le_succ _) (.slice A n c) (.int .i64 (t : Int)) (.bool ov) (.bool false)
    have HE1 := keepd (E1 _ _ _ HRx.out)
    have HE2 := keepd (E2 _ _ _ HE9.out)
    have HE3 := keepd E3
    clear E1 E2 E3
    have hss := HS.out
    unfold sigS stays at hss
    simp at hss
    obtain ⟨rfl, rfl, rfl, rfl⟩ := hss
    obtain rfl : n1 = n := by rw [← HN1.out, HN.out]
    go_wp2_with fail
    refine bodyPost_ret (v := .tuple #[.agg #[.slice A n1 c, .int .i64 (t : Int), .bool ov, .bool false], .slice (some ⟨g9, 0, none⟩) 1 1]) (by simp [results, Tryd.results59, go_sem, j0, j1, j2, j3]) rfl ?_
    refine ⟨A, c, _, _, [⟨3, 4, none, [], 0⟩], rfl, ?_, rfl, HE1.out, HE2.out, HE3.out⟩
    show [_] = [sigV _ _]
    rw [show sigV ⟨l, t, ov, li⟩ 4 = ⟨3, 4, []⟩ from if_neg (fun e => by have := e.1; omega)]
    rfl
  by_cases h5 : f = 5
  · subst h5
    obtain ⟨E1, E2, E3⟩ := set4_end HY.out HB1.out (Nat.le_succ _) (.slice A n c) (.int .i64 (t : Int)) (.bool ov) (.bool false)
    have HE1 := keepd (E1 _ _ _ HRx.out)
    have HE2 := keepd (E2 _ _ _ HE9.out)
    have HE3 := keepd E3
    clear E1 E2 E3
    have hss := HS.out
    unfold sigS stays at hss
    simp at hss
    obtain ⟨rfl, rfl, rfl, rfl⟩ := hss
    obtain rfl : n1 = n := by rw [← HN1.out, HN.out]
    go_wp2_with fail
    refine bodyPost_ret (v := .tuple #[.agg #[.slice A n1 c, .int .i64 (t : Int), .bool ov, .bool false], .slice (some ⟨g9, 0, none⟩) 1 1]) (by simp [results, Tryd.results59, go_sem, j0, j1, j2, j3]) rfl ?_
    refine ⟨A, c, _, _, [⟨3, 5, none, [], 0⟩], rfl, ?_, rfl, HE1.out, HE2.out, HE3.out⟩
    show [_] = [sigV _ _]
    rw [show sigV ⟨l, t, ov, li⟩ 5 = ⟨3, 5, []⟩ from if_neg (fun e => by have := e.1; omega)]
    rfl
  by_cases h6 : f = 6
  · subst h6
    obtain ⟨E1, E2, E3⟩ := set4_end HY.out HB1.out (Nat.le_succ _) (.slice A n c) (.int .i64 (t : Int)) (.bool ov) (.bool false)
    have HE1 := keepd (E1 _ _ _ HRx.out)
    have HE2 := keepd (E2 _ _ _ HE9.out)
    have HE3 := keepd E3
    clear E1 E2 E3
    have hss := HS.out
    unfold sigS stays at hss
    simp at hss
    obtain ⟨rfl, rfl, rfl, rfl⟩ := hss
    obtain rfl : n1 = n := by rw [← HN1.out, HN.out]
    go_wp2_with fail
    refine bodyPost_ret (v := .tuple #[.agg #[.slice A n1 c, .int .i64 (t : Int), .bool ov, .bool false], .slice (some ⟨g9, 0, none⟩) 1 1]) (by simp [results, Tryd.results59, go_sem, j0, j1, j2, j3]) rfl ?_
    refine ⟨A, c, _, _, [⟨3, 6, none, [], 0⟩], rfl, ?_, rfl, HE1.out, HE2.out, HE3.out⟩
    show [_] = [sigV _ _]
    rw [show sigV ⟨l, t, ov, li⟩ 6 = ⟨3, 6, []⟩ from if_neg (fun e => by have := e.1; omega)]
    rfl
  have g4 : (f == 4) = false := by simpa using h4
  have g5 : (f == 5) = false := by simpa using h5
  have g6 : (f == 6) = false := by simpa using h6
  have hss : sigS ⟨l, t, ov, li⟩ f = zE := by unfold sigS stays; simp [h4, h5, h6]
  rw [HS.out] at hss
  simp only [zE, Ed.mk.injEq] at hss
  obtain ⟨rfl, rfl, rfl, rfl⟩ := hss
  obtain rfl : n1 = 0 := HN1.out.symm
  clear h4 h5 h6
  by_cases h8 : f = 8
  · subst h8
    by_cases hz : n = 0
    · subst hz
      have HZ : Hid (l = []) := List.eq_nil_of_length_eq_zero HN.out.symm
      obtain ⟨E1, E2, E3⟩ := set4_end HY.out HB1.out (Nat.le_succ _) (.slice none 0 0) (.int .i64 0) (.bool false) (.bool false)
      have HE2 := keepd (E2 _ _ _ HE9.out)
      have HE3 := keepd E3
      clear E1 E2 E3
      go_wp2_with fail
      refine bodyPost_ret (v := .tuple #[.agg #[.slice none 0 0, .int .i64 0, .bool false, .bool false], .slice (some ⟨g9, 0, none⟩) 1 1]) (by simp [results, Tryd.results59, go_sem, j0, j1, j2, j3]) rfl ?_
      refine ⟨none, 0, _, _, [⟨3, 8, none, [], 0⟩], rfl, ?_, rfl, Rd.nil _ _, HE2.out, HE3.out⟩
      show [_] = [sigV _ _]
      rw [show sigV ⟨l, t, ov, li⟩ 8 = ⟨3, 8, []⟩ from if_neg (fun e => e.2 HZ.out)]
      rfl
    · have z0 : 0 < n := by omega
      have z1 : (n : Int) > 0 := by omega
      have z2 : (0 : Int) < (n : Int) := by omega
      have HZ : Hid (¬ l = []) := by
        intro e
        rw [e] at HN
        exact hz HN.out
      have hbl : w.heap.size + 1 < V1.heap.size := HY.out.lt
      go_upto_region 5 with fail
      go_region
      generalize hV9 : (((((V1.setCell ⟨w.heap.size + 1, 0, none⟩ (.slice none 0 0)).setCell ⟨w.heap.size + 1, 1, none⟩ (.int .i64 0)).setCell ⟨w.heap.size + 1, 2, none⟩ (.bool false)).setCell ⟨w.heap.size + 1, 3, none⟩ (.bool false)).alloc (.cells #[.int .i64 2, .int .i64 0, .slice A n c] 69)).drew = V9
      obtain ⟨F1, F2, F3⟩ := ev_end HY.out HB1.out (Nat.le_succ _) HRx.out HN.out V9 hV9.symm
      have HF2 := keepd F2
      have HF3 := keepd F3
      clear hV9 F2 F3 j0 j1 j2 j3 r0 r1 r2 r3 jt k0 k1 k2 k3 kt
      obtain ⟨j0, j1, j2, j3, r0, r1, r2, r3, jt⟩ := st_facts F1
      go_wp2_with fail
      refine bodyPost_ret (v := .tuple #[.agg #[.slice none 0 0, .int .i64 0, .bool false, .bool false], .slice (some ⟨V1.heap.size, 0, none⟩) 1 1]) (by simp [results, Tryd.results59, go_sem, j0, j1, j2, j3]) rfl ?_
      refine ⟨none, 0, _, _, [⟨2, 0, A, l, c⟩], rfl, ?_, rfl, Rd.nil _ _, HF2.out, HF3.out⟩
      show [_] = [sigV _ _]
      rw [show sigV ⟨l, t, ov, li⟩ 8 = ⟨2, 0, l⟩ from if_pos ⟨rfl, HZ.out⟩]
      rfl
  · have g8 : (f == 8) = false := by simpa using h8
    have HN8 := keepd h8
    clear h8
    obtain ⟨E1, E2, E3⟩ := set4_end HY.out HB1.out (Nat.le_succ _) (.slice none 0 0) (.int .i64 0) (.bool false) (.bool false)
    have HE2 := keepd (E2 _ _ _ HE9.out)
    have HE3 := keepd E3
    clear E1 E2 E3
    go_wp2_with fail
    refine bodyPost_ret (v := .tuple #[.agg #[.slice none 0 0, .int .i64 0, .bool false, .bool false], .slice (some ⟨g9, 0, none⟩) 1 1]) (by simp [results, Tryd.results59, go_sem, j0, j1, j2, j3]) rfl ?_
    refine ⟨none, 0, _, _, [⟨3, f, none, [], 0⟩], rfl, ?_, rfl, Rd.nil _ _, HE2.out, HE3.out⟩
    show [_] = [sigV _ _]
    rw [show sigV ⟨l, t, ov, li⟩ f = ⟨3, f, []⟩ from if_neg (fun e => HN8.out e.1)]
    rfl

end Go.Proofs.YtlfmbfecajhffaaDoor
