/-
  Talks in memory: which may be, the same, whether one is known, the signal of a key. No conditions beyond those each theorem states.
-/
import Derived.Test.YtlfmbfecajhffaaDoorTQ
import Derived.Test.YtlfmbfecajhffaaDoorN5
import Derived.Test.YtlfmbfecajhffaaDoorA8
namespace Go.Proofs.YtlfmbfecajhffaaDoor
open Go.RowKit
set_option maxRecDepth 100000

attribute [local go_sem ↓] ex_ld25 ex_st25 ex_al25 ex_bu25 ex_ix25 ex_eq25 ex_ne25 ex_eq23 ex_ne23 ex_ld25o ex_st65 ex_al65 ex_bu65 ex_bu65s ex_ld25d
attribute [local go_sem] ptrB_at okPtr_at aggC_at agg62 agg69 isC_at isT_at eqV_t eqV_c isRow_new isRow_new65 World.setRow_alloc_new ptr4_at okPtr4_at cutT_at isI_at isS_at bW_at bWs_at ptrD_at okPtrD_at cutD_at

theorem tk_new (w : World) (a b x y h : Value) (V : World) (hV : w.alloc (.cells #[a, b, x, y, h] 34) = V) : Hid (SR 34 V w.heap.size [a, b, x, y, h]) ∧ Hid (Below w.heap.size w V) := by
  subst hV
  exact ⟨heap_alloc_new w _, bAlloc (Below.refl _ _) _⟩
theorem tk_new2 (w : World) (a b x y h a' b' x' y' h' : Value) (V : World) (hV : (w.alloc (.cells #[a, b, x, y, h] 34)).alloc (.cells #[a', b', x', y', h'] 34) = V) : Hid (SR 34 V w.heap.size [a, b, x, y, h]) ∧ Hid (SR 34 V (w.heap.size + 1) [a', b', x', y', h']) ∧ Hid (Below w.heap.size w V) := by
  subst hV
  refine ⟨row_alloc (heap_alloc_new w _), ?_, bAlloc (bAlloc (Below.refl _ _) _) _⟩
  have := heap_alloc_new (w.alloc (.cells #[a, b, x, y, h] 34)) (.cells #[a', b', x', y', h'] 34)
  rw [World.size_alloc] at this
  exact this
theorem tk_facts {V : World} {g : Nat} {a b x y h : Value} (H : SR 34 V g [a, b, x, y, h]) : V.cell? ⟨g, 0, none⟩ = some a ∧ V.cell? ⟨g, 1, none⟩ = some b ∧ V.cell? ⟨g, 2, none⟩ = some x ∧ V.cell? ⟨g, 3, none⟩ = some y ∧ V.cell? ⟨g, 4, none⟩ = some h ∧ V.frozen? ⟨g, 0, none⟩ = false ∧ V.frozen? ⟨g, 1, none⟩ = false ∧ V.frozen? ⟨g, 2, none⟩ = false ∧ V.frozen? ⟨g, 3, none⟩ = false ∧ V.frozen? ⟨g, 4, none⟩ = false ∧ g < V.heap.size :=
  ⟨H.cell 0, H.cell 1, H.cell 2, H.cell 3, H.cell 4, H.frozen 0, H.frozen 1, H.frozen 2, H.frozen 3, H.frozen 4, H.lt⟩

theorem zero_any (A : Option Addr) (l : List UInt8) (n c : Nat) (z : Int) (ov li r : Bool) (w : World) (hn : n = l.length) (hr : Rd w w.heap.size A l c) (hq : sameS l z ov li [] 0 false false = r) :
    Calls Tryd.prog 32 #[.agg #[.slice A n c, .int .i64 z, .bool ov, .bool li]] w fun e w' => e = .returned (.bool r) ∧ Below w.heap.size w w' := by
  have CS := keepd fun (W : World) (hb : Below w.heap.size w W) => esame_any A none l [] n 0 c 0 z 0 ov false li false r W hn rfl (hr.at_ hb) (Rd.nil _ _) hq
  clear hr hn hq
  go_enter Tryd.func32, Tryd.ntmps32
  go_upto_region 1 with fail
  generalize hV : w.alloc (.cells #[.slice A n c, .int .i64 z, .bool ov, .bool li] 32) = V
  obtain ⟨H, HB⟩ := st_new _ _ _ _ _ _ hV
  obtain ⟨k0, k1, k2, k3, _, _, _, _, kt⟩ := st_facts H.out
  clear hV
  go_wp2_with fail
  with_reducible refine (CS.out _ HB.out).mono ?_
  rintro e w2 ⟨rfl, hb2⟩
  have HB2 := keepd (bCall HB.out hb2)
  go_wp2_with fail
  go_ret
  exact ⟨rfl, HB2.out⟩

theorem known_any (A : Option Addr) (l : List UInt8) (n c : Nat) (z : Int) (ov li h r : Bool) (w : World) (hn : n = l.length) (hr : Rd w w.heap.size A l c) (hq : (!h && !sameS l z ov li [] 0 false false) = r) :
    Calls Tryd.prog 30 #[.agg #[.slice A n c, .int .i64 z, .bool ov, .bool li, .bool h]] w fun e w' => e = .returned (.bool r) ∧ Below w.heap.size w w' := by
  obtain ⟨q, hq2⟩ : ∃ q, sameS l z ov li [] 0 false false = q := ⟨_, rfl⟩
  rw [hq2] at hq
  have HQ := keepd hq
  have CS := keepd fun (W : World) (hb : Below w.heap.size w W) => zero_any A l n c z ov li q W hn (hr.at_ hb) hq2
  clear hr hn hq hq2
  go_enter Tryd.func30, Tryd.ntmps30
  go_upto_region 1 with fail
  generalize hV : w.alloc (.cells #[.slice A n c, .int .i64 z, .bool ov, .bool li, .bool h] 34) = V
  obtain ⟨H, HB⟩ := tk_new _ _ _ _ _ _ _ hV
  obtain ⟨k0, k1, k2, k3, k4, _, _, _, _, _, kt⟩ := tk_facts H.out
  clear hV
  cases h
  · go_wp2_with fail
    with_reducible refine (CS.out _ HB.out).mono ?_
    rintro e w2 ⟨rfl, hb2⟩
    have HB2 := keepd (bCall HB.out hb2)
    go_wp2_with fail
    go_ret
    exact ⟨by rw [← HQ.out]; rfl, HB2.out⟩
  · go_wp2_with fail
    go_ret
    exact ⟨by rw [← HQ.out]; rfl, HB.out⟩

theorem tcheck_any (A : Option Addr) (n c : Nat) (z : Int) (ov li h m : Bool) (w : World) (hm : mayV n z = m) :
    Calls Tryd.prog 14 #[.agg #[.slice A n c, .int .i64 z, .bool ov, .bool li, .bool h]] w fun e w' => e = .returned (.int .i64 (cerr m)) ∧ Below w.heap.size w w' := by
  have CS := keepd fun W : World => echeck_any A n c z ov li m W hm
  clear hm
  go_enter Tryd.func14, Tryd.ntmps14
  go_upto_region 1 with fail
  generalize hV : w.alloc (.cells #[.slice A n c, .int .i64 z, .bool ov, .bool li, .bool h] 34) = V
  obtain ⟨H, HB⟩ := tk_new _ _ _ _ _ _ _ hV
  obtain ⟨k0, k1, k2, k3, k4, _, _, _, _, _, kt⟩ := tk_facts H.out
  clear hV
  go_wp2_with fail
  with_reducible refine (CS.out _).mono ?_
  rintro e w2 ⟨rfl, hb2⟩
  have HB2 := keepd (bCall HB.out hb2)
  go_wp2_with fail
  go_ret
  exact ⟨rfl, HB2.out⟩

/-- What own answers: the talk, its octets nobody else's. -/
def GotOT (w : World) (l : List UInt8) (n : Nat) (z : Int) (ov li h : Bool) (e : Ending) (w' : World) : Prop :=
  ∃ A c, e = .returned (.agg #[.slice A n c, .int .i64 z, .bool ov, .bool li, .bool h]) ∧ Own w' w.heap.size (.slice A n c) l ∧ Below w.heap.size w w'
set_option maxHeartbeats 1000000 in
theorem town_any (A : Option Addr) (l : List UInt8) (n c : Nat) (z : Int) (ov li h : Bool) (w : World) (hn : n = l.length) (hr : Rd w w.heap.size A l c) (hl : n ≤ 1000000) :
    Calls Tryd.prog 27 #[.agg #[.slice A n c, .int .i64 z, .bool ov, .bool li, .bool h]] w (GotOT w l n z ov li h) := by
  have HR := keepd hr
  have HN := keepd hn
  clear hr hn
  go_enter Tryd.func27, Tryd.ntmps27
  go_upto_region 1 with fail
  generalize hV : (w.alloc (.cells #[.slice A n c, .int .i64 z, .bool ov, .bool li, .bool h] 34)).alloc (.cells #[.slice none 0 0, .int .i64 0, .bool false, .bool false, .bool false] 34) = V
  obtain ⟨H, H2, HB⟩ := tk_new2 _ _ _ _ _ _ _ _ _ _ _ _ hV
  obtain ⟨k0, k1, k2, k3, k4, _, _, _, _, _, kt⟩ := tk_facts H.out
  have CK := keepd (clone_any A l n c V HN.out (HR.out.at_ HB.out) hl)
  clear hV
  go_wp2_with fail
  with_reducible refine CK.out.mono ?_
  rintro e w1 ⟨A1, c1, rfl, ho, hb1⟩
  have HB1 := keepd (bCall HB.out hb1)
  have H3 := keepd (SR.call H.out hb1 H.out.lt)
  have H4 := keepd (SR.call H2.out hb1 H2.out.lt)
  have HO := keepd ho
  obtain ⟨k0, k1, k2, k3, k4, r0, r1, r2, r3, r4, kt⟩ := tk_facts H3.out
  have l1 := H.out.lt
  have l2 := H2.out.lt
  have L1 := keepd l1
  have L2 := keepd l2
  clear hb1 ho H H2 CK HB l1 l2
  go_upto_region 2 with fail
  generalize hV : w1.setCell ⟨w.heap.size, 0, none⟩ (.slice A1 n c1) = V2
  have HX : Hid (SR 34 V2 w.heap.size [.slice A1 n c1, .int .i64 z, .bool ov, .bool li, .bool h]) := by rw [← hV]; exact H3.out.set 0 _
  have HY : Hid (SR 34 V2 (w.heap.size + 1) [.slice none 0 0, .int .i64 0, .bool false, .bool false, .bool false]) := by rw [← hV]; exact H4.out.far (by show w.heap.size + 1 ≠ w.heap.size; omega) _
  have HO2 : Hid (Own V2 V.heap.size (.slice A1 n c1) l) := by rw [← hV]; exact set1_own HO.out L1.out
  have HB2 : Hid (Below w.heap.size w V2) := by rw [← hV]; exact bSet HB1.out (Nat.le_refl _) _
  clear hV H3 H4 HO HB1 k0 k1 k2 k3 k4 r0 r1 r2 r3 r4 kt
  obtain ⟨k0, k1, k2, k3, k4, _, _, _, _, _, kt⟩ := tk_facts HX.out
  obtain ⟨j0, j1, j2, j3, j4, r0, r1, r2, r3, r4, jt⟩ := tk_facts HY.out
  go_wp2_with fail
  refine bodyPost_ret (v := .agg #[.slice A1 n c1, .int .i64 z, .bool ov, .bool li, .bool h]) (by simp [results, Tryd.results27, go_sem, j0, j1, j2, j3, j4]) rfl ?_
  refine ⟨A1, c1, rfl, ?_, ?_⟩
  · exact (set1_own (set1_own (set1_own (set1_own (set1_own HO2.out L2.out) L2.out) L2.out) L2.out) L2.out).base (by have := L1.out; omega)
  · exact bSet (bSet (bSet (bSet (bSet HB2.out (by omega) _) (by omega) _) (by omega) _) (by omega) _) (by omega) _


theorem tsame_any (A A' : Option Addr) (l l' : List UInt8) (n n' c c' : Nat) (z z' : Int) (ov ov' li li' h h' : Bool) (r : Bool) (w : World) (hn : n = l.length) (hn' : n' = l'.length) (hr : Rd w w.heap.size A l c) (hr' : Rd w w.heap.size A' l' c') (hq : (sameS l z ov li l' z' ov' li' && (h == h')) = r) :
    Calls Tryd.prog 18 #[.agg #[.slice A n c, .int .i64 z, .bool ov, .bool li, .bool h], .agg #[.slice A' n' c', .int .i64 z', .bool ov', .bool li', .bool h']] w fun e w' => e = .returned (.bool r) ∧ Below w.heap.size w w' := by
  obtain ⟨q, hq2⟩ : ∃ q, sameS l z ov li l' z' ov' li' = q := ⟨_, rfl⟩
  rw [hq2] at hq
  have HQ := keepd hq
  have CS := keepd fun (W : World) (hb : Below w.heap.size w W) => esame_any A A' l l' n n' c c' z z' ov ov' li li' q W hn hn' (hr.at_ hb) (hr'.at_ hb) hq2
  clear hr hr' hn hn' hq hq2
  go_enter Tryd.func18, Tryd.ntmps18
  go_upto_region 1 with fail
  generalize hV : (w.alloc (.cells #[.slice A n c, .int .i64 z, .bool ov, .bool li, .bool h] 34)).alloc (.cells #[.slice A' n' c', .int .i64 z', .bool ov', .bool li', .bool h'] 34) = V
  obtain ⟨H, H2, HB⟩ := tk_new2 _ _ _ _ _ _ _ _ _ _ _ _ hV
  obtain ⟨k0, k1, k2, k3, k4, _, _, _, _, _, kt⟩ := tk_facts H.out
  obtain ⟨j0, j1, j2, j3, j4, _, _, _, _, _, jt⟩ := tk_facts H2.out
  clear hV
  cases q
  · go_wp2_with fail
    with_reducible refine (CS.out _ HB.out).mono ?_
    rintro e w2 ⟨rfl, hb2⟩
    have HB2 := keepd (bCall HB.out hb2)
    clear hb2
    go_wp2_with fail
    go_ret
    exact ⟨by rw [← HQ.out]; rfl, HB2.out⟩
  · go_wp2_with fail
    with_reducible refine (CS.out _ HB.out).mono ?_
    rintro e w2 ⟨rfl, hb2⟩
    have HB2 := keepd (bCall HB.out hb2)
    clear k0 k1 k2 k3 k4 kt j0 j1 j2 j3 j4 jt
    obtain ⟨k0, k1, k2, k3, k4, _, _, _, _, _, kt⟩ := tk_facts (SR.call H.out hb2 H.out.lt)
    obtain ⟨j0, j1, j2, j3, j4, _, _, _, _, _, jt⟩ := tk_facts (SR.call H2.out hb2 H2.out.lt)
    clear hb2
    go_wp2_with fail
    go_ret
    exact ⟨by rw [← HQ.out]; rfl, HB2.out⟩

theorem rtsame_any (A A' : Option Addr) (l l' : List UInt8) (n n' c c' : Nat) (z z' : Int) (ov ov' li li' h h' : Bool) (r : Bool) (w : World) (hn : n = l.length) (hn' : n' = l'.length) (hr : Rd w w.heap.size A l c) (hr' : Rd w w.heap.size A' l' c') (hq : (sameS l z ov li l' z' ov' li' && (h == h')) = r) :
    Calls Tryd.prog 16 #[.agg #[.slice A n c, .int .i64 z, .bool ov, .bool li, .bool h], .agg #[.slice A' n' c', .int .i64 z', .bool ov', .bool li', .bool h']] w fun e w' => e = .returned (.bool r) ∧ Below w.heap.size w w' := by
  obtain ⟨q, hq2⟩ : ∃ q, sameS l z ov li l' z' ov' li' = q := ⟨_, rfl⟩
  rw [hq2] at hq
  have HQ := keepd hq
  have CS := keepd fun (W : World) (hb : Below w.heap.size w W) => ersame_any A A' l l' n n' c c' z z' ov ov' li li' q W hn hn' (hr.at_ hb) (hr'.at_ hb) hq2
  clear hr hr' hn hn' hq hq2
  go_enter Tryd.func16, Tryd.ntmps16
  go_upto_region 1 with fail
  generalize hV : (w.alloc (.cells #[.slice A n c, .int .i64 z, .bool ov, .bool li, .bool h] 34)).alloc (.cells #[.slice A' n' c', .int .i64 z', .bool ov', .bool li', .bool h'] 34) = V
  obtain ⟨H, H2, HB⟩ := tk_new2 _ _ _ _ _ _ _ _ _ _ _ _ hV
  obtain ⟨k0, k1, k2, k3, k4, _, _, _, _, _, kt⟩ := tk_facts H.out
  obtain ⟨j0, j1, j2, j3, j4, _, _, _, _, _, jt⟩ := tk_facts H2.out
  clear hV
  cases q
  · go_wp2_with fail
    with_reducible refine (CS.out _ HB.out).mono ?_
    rintro e w2 ⟨rfl, hb2⟩
    have HB2 := keepd (bCall HB.out hb2)
    clear hb2
    go_wp2_with fail
    go_ret
    exact ⟨by rw [← HQ.out]; rfl, HB2.out⟩
  · go_wp2_with fail
    with_reducible refine (CS.out _ HB.out).mono ?_
    rintro e w2 ⟨rfl, hb2⟩
    have HB2 := keepd (bCall HB.out hb2)
    clear k0 k1 k2 k3 k4 kt j0 j1 j2 j3 j4 jt
    obtain ⟨k0, k1, k2, k3, k4, _, _, _, _, _, kt⟩ := tk_facts (SR.call H.out hb2 H.out.lt)
    obtain ⟨j0, j1, j2, j3, j4, _, _, _, _, _, jt⟩ := tk_facts (SR.call H2.out hb2 H2.out.lt)
    clear hb2
    go_wp2_with fail
    go_ret
    exact ⟨by rw [← HQ.out]; rfl, HB2.out⟩

theorem signalOf_any (X : Tb) (A : Option Addr) (n c : Nat) (z : Int) (ov li : Bool) (u : UInt8) (sg m : Nat) (w : World) (hm : meanF X (u.toNat : Int) = m) (hs : (if li || decide (9 < m) then 0 else m) = sg) :
    Calls Tryd.prog 31 #[tv X, .agg #[.slice A n c, .int .i64 z, .bool ov, .bool li], .int .u8 (u.toNat : Int)] w fun e w' => e = .returned (.int .i64 (sg : Int)) ∧ Below w.heap.size w w' := by
  have HS := keepd hs
  have CM := keepd fun W : World => meaning_any X (u.toNat : Int) m hm W
  clear hm hs
  go_enter Tryd.func31, Tryd.ntmps31
  go_upto_region 1 with fail
  generalize hV : (w.alloc (.cells (cs X).toArray 25)).alloc (.cells #[.slice A n c, .int .i64 z, .bool ov, .bool li] 32) = V
  obtain ⟨HT, HS0, HB⟩ := tabst_new _ _ _ _ _ _ _ hV
  obtain ⟨k0, k1, k2, k3, _, _, _, _, kt⟩ := st_facts HS0.out
  obtain ⟨q0, q1⟩ := TB.facts HT.out
  clear hV
  go_wp2_with fail
  with_reducible refine (CM.out _).mono ?_
  rintro e w2 ⟨rfl, hb2⟩
  have HB2 := keepd (bCall HB.out hb2)
  clear k0 k1 k2 k3 kt q0 q1
  obtain ⟨k0, k1, k2, k3, _, _, _, _, kt⟩ := st_facts (SR.call HS0.out hb2 HS0.out.lt)
  clear hb2
  cases li
  case true =>
    go_wp2_with fail
    go_ret
    exact ⟨by rw [← HS.out]; rfl, HB2.out⟩
  case false =>
    by_cases h0 : (m : Int) < 1
    · go_wp2_with fail
      go_ret
      refine ⟨?_, HB2.out⟩
      rw [← HS.out]
      have : m = 0 := by omega
      subst this
      rfl
    · have g0 : ¬ m < 1 := by omega
      by_cases h9 : (m : Int) > 9
      · have g9 : 9 < m := by omega
        have g9' : (9 : Int) < (m : Int) := by omega
        go_wp2_with fail
        go_ret
        refine ⟨?_, HB2.out⟩
        rw [← HS.out]
        simp [g9]
      · have g9 : ¬ 9 < m := by omega
        have g9' : ¬ (9 : Int) < (m : Int) := by omega
        go_wp2_with fail
        go_ret
        refine ⟨?_, HB2.out⟩
        rw [← HS.out]
        simp [g9]

end Go.Proofs.YtlfmbfecajhffaaDoor
