/-
  Several texts in one: E13 E11. No conditions beyond those each theorem states.
-/
import Derived.Test.YtlfmbfecajhffaaDoorE10
/-
  The contract of Key. No conditions beyond those each theorem states.
-/
namespace Go.Proofs.YtlfmbfecajhffaaDoor
open Go.RowKit
set_option maxRecDepth 100000

attribute [local go_sem ↓] ex_ld25 ex_st25 ex_al25 ex_bu25 ex_ix25 ex_eq25 ex_ne25 ex_eq23 ex_ne23 ex_ld25o ex_st65 ex_al65 ex_bu65 ex_bu65s
attribute [local go_sem] ptrB_at okPtr_at aggC_at agg62 agg69 isC_at isT_at eqV_t eqV_c isRow_new isRow_new65 World.setRow_alloc_new ptr4_at okPtr4_at cutT_at isI_at isS_at bW_at bWs_at

theorem EvM.far_cell {w : World} {g : Nat} {A' : Option Addr} {n' c' : Nat} {z : Int} {x y : Bool} (H : SR 32 w g [.slice A' n' c', .int .i64 z, .bool x, .bool y]) {b o : Nat} {k f : Int} {v : Value} (c0 : w.cell? ⟨b, o, none⟩ = some (.int .i64 k)) (c1 : w.cell? ⟨b, o + 1, none⟩ = some (.int .i64 f)) (_ : v = v) : b ≠ g := by
  rintro rfl
  rw [H.cell] at c0 c1
  match o, c0, c1 with
  | 0, c0, _ => simp at c0
  | 1, _, c1 => simp at c1
  | 2, c0, _ => simp at c0
  | 3, c0, _ => simp at c0
  | i + 4, c0, _ => simp at c0
theorem RdE.setSt {w w' : World} {A A' : Option Addr} {L : List EvM} {c g n' c' : Nat} {z : Int} {x y : Bool} (h : RdE w A L c) (H : SR 32 w g [.slice A' n' c', .int .i64 z, .bool x, .bool y]) (hs : w.heap.size ≤ w'.heap.size) (hh : ∀ k, k ≠ g → w'.heap[k]? = w.heap[k]?) : RdE w' A L c := by
  refine ⟨h.1, h.2.1, fun hne => ?_, fun e he => (h.2.2.2 e he).setSt H hs hh⟩
  obtain ⟨b, off, e, hlt, hce⟩ := h.2.2.1 hne
  refine ⟨b, off, e, Nat.lt_of_lt_of_le hlt hs, fun i hi => ?_⟩
  obtain ⟨c0, c1, c2⟩ := hce i hi
  have hg : b ≠ g := EvM.far_cell (v := .bool true) H c0 c1 rfl
  have k : ∀ o, w'.cell? ⟨b, o, none⟩ = w.cell? ⟨b, o, none⟩ := fun o => World.cell?_of_block (w := w) (a := ⟨b, o, none⟩) (hh b hg)
  exact ⟨(k _).trans c0, (k _).trans c1, (k _).trans c2⟩

/-- What is answered of a key: a state, events, whether a bell rings. -/
def GotU (w : World) (l : List UInt8) (n : Nat) (z : Int) (ov li : Bool) (es : List Ev) (m : Nat) (bell : Bool) (e : Ending) (w' : World) : Prop :=
  ∃ A c B d L, e = .returned (.tuple #[.agg #[.slice A n c, .int .i64 z, .bool ov, .bool li], .slice B m d, .bool bell]) ∧ L.map EvM.abs = es ∧ L.length = m ∧ Rd w' w'.heap.size A l c ∧ RdE w' B L d ∧ Below w.heap.size w w'

set_option maxHeartbeats 4000000 in
/-- Key, of what Play answers. -/
theorem key_of (X : Tb) (room : Int) (A : Option Addr) (n c : Nat) (z : Int) (ov li : Bool) (u : UInt8) (w : World)
    (l' : List UInt8) (n' : Nat) (z' : Int) (ov' li' : Bool) (es : List Ev) (m : Nat) (be : Int) (bell : Bool) (hbe : decide (0 < be) = bell)
    (hP : ∀ (V : World) (K : Option Addr) (d : Nat), Below w.heap.size w V → Rd V V.heap.size K [u] d → Calls Tryd.prog 21 #[tv X, .int .i64 room, .agg #[.slice A n c, .int .i64 z, .bool ov, .bool li], .slice K 1 d] V (GotP V l' n' z' ov' li' es m be)) :
    Calls Tryd.prog 20 #[tv X, .int .i64 room, .agg #[.slice A n c, .int .i64 z, .bool ov, .bool li], .int .u8 (u.toNat : Int)] w (GotU w l' n' z' ov' li' es m bell) := by
  have HP := keepd hP
  have HBE := keepd hbe
  clear hP hbe
  go_enter Tryd.func20, Tryd.ntmps20
  go_upto_region 1 with fail
  generalize hV : ((w.alloc (.cells (cs X).toArray 25)).alloc (.cells #[.slice A n c, .int .i64 z, .bool ov, .bool li] 32)).alloc (.cells #[.slice none 0 0, .int .i64 0, .bool false, .bool false] 32) = V
  obtain ⟨HT, HS, HZ, HB⟩ := play_new _ _ _ _ _ _ _ _ _ _ _ hV
  obtain ⟨k0, k1, k2, k3, _, _, _, _, kt⟩ := st_facts HS.out
  obtain ⟨q0, q1⟩ := TB.facts HT.out
  clear hV
  have HC := keepd (HP.out (V.alloc (.cells #[.int .u8 (u.toNat : Int)] 5)) (some ⟨V.heap.size, 0, none⟩) 1 (bAlloc HB.out _) (by rw [World.size_alloc]; exact one_rdb V u))
  clear HP
  go_wp2_with fail
  with_reducible refine HC.out.mono ?_
  rintro e w4 ⟨A1, c1, B1, d1, L, rfl, hL, hLm, hr, hre, hb4⟩
  have hb4' : Below V.heap.size V w4 := upA hb4
  have HB4 := keepd (bCall HB.out hb4')
  have HZ4 := keepd (SR.call HZ.out hb4' HZ.out.lt)
  have HR4 := keepd hr
  have HE4 := keepd hre
  have HL := keepd (And.intro hL hLm)
  clear hL hLm hr hre hb4 hb4' HC q0 q1 k0 k1 k2 k3 kt HT HS HB
  go_upto_region 2 with fail
  generalize hV : w4.alloc (.cells #[.slice A1 n' c1, .int .i64 z', .bool ov', .bool li'] 32) = V5
  obtain ⟨HX, HB0⟩ := st_new _ _ _ _ _ _ hV
  have HZ5 := keepd (SR.call HZ4.out HB0.out HZ4.out.lt)
  have HB5 := keepd (bCall HB4.out HB0.out)
  have HR5 := keepd (HR4.out.at_ HB0.out)
  have HE5 := keepd (HE4.out.at_ HB0.out)
  obtain ⟨k0, k1, k2, k3, _, _, _, _, kt⟩ := st_facts HX.out
  obtain ⟨j0, j1, j2, j3, r0, r1, r2, r3, jt⟩ := st_facts HZ5.out
  clear hV HZ4 HB4 HR4 HE4 HB0 HZ
  have fin : ∀ bb : Bool, bell = bb → GotU w l' n' z' ov' li' es m bell (.returned (.tuple #[.agg #[.slice A1 n' c1, .int .i64 z', .bool ov', .bool li'], .slice B1 m d1, .bool bb])) (set4 V5 (w.heap.size + 2) (.slice A1 n' c1) (.int .i64 z') (.bool ov') (.bool li')) := by
    intro bb hbb
    subst hbb
    have hh : ∀ k, k ≠ w.heap.size + 2 → (set4 V5 (w.heap.size + 2) (.slice A1 n' c1) (.int .i64 z') (.bool ov') (.bool li')).heap[k]? = V5.heap[k]? := fun k hk => set4_heap _ _ _ _ _ _ hk
    refine ⟨A1, c1, B1, d1, L, rfl, HL.out.1, HL.out.2, HR5.out.setSt HZ5.out (by rw [set4_size]; exact Nat.le_refl _) hh, ?_, set4_below HB5.out (by omega)⟩
    exact HE5.out.setSt HZ5.out (by rw [set4_size]; exact Nat.le_refl _) hh
  have FIN := keepd fin
  clear fin
  by_cases hb : 0 < be
  · have hb1 : be > 0 := hb
    go_wp2_with fail
    refine bodyPost_ret (v := .tuple #[.agg #[.slice A1 n' c1, .int .i64 z', .bool ov', .bool li'], .slice B1 m d1, .bool true]) (by simp [results, Tryd.results20, go_sem, j0, j1, j2, j3]) rfl ?_
    exact FIN.out true (by rw [← HBE.out]; simpa using hb)
  · have hb1 : ¬ be > 0 := hb
    go_wp2_with fail
    refine bodyPost_ret (v := .tuple #[.agg #[.slice A1 n' c1, .int .i64 z', .bool ov', .bool li'], .slice B1 m d1, .bool false]) (by simp [results, Tryd.results20, go_sem, j0, j1, j2, j3]) rfl ?_
    exact FIN.out false (by rw [← HBE.out]; simpa using hb)

theorem key_bad (X : Tb) (room : Int) (A : Option Addr) (l : List UInt8) (n c : Nat) (z : Int) (ov li : Bool) (u : UInt8) (w : World) (hn : n = l.length) (hr : Rd w w.heap.size A l c) (hl : n ≤ 100000) (hm : mayV n z = false) :
    Calls Tryd.prog 20 #[tv X, .int .i64 room, .agg #[.slice A n c, .int .i64 z, .bool ov, .bool li], .int .u8 (u.toNat : Int)] w (GotU w l n z ov li [] 0 false) :=
  key_of X room A n c z ov li u w l n z ov li [] 0 0 false rfl fun V K d hb _ => play_bad X room A l n c z ov li K 1 d V hn (hr.at_ hb) hl hm
theorem key_good (X : Tb) (room : Int) (A : Option Addr) (l : List UInt8) (n c t : Nat) (ov li : Bool) (u : UInt8) (w : World) (hn : n = l.length) (hr : Rd w w.heap.size A l c) (h1 : t ≤ n) (h2 : n ≤ 4096)
    (l' : List UInt8) (n' t' : Nat) (ov' li' : Bool) (es : List Ev) (m be : Nat) (bell : Bool) (hp : keyE X room ⟨l, t, ov, li⟩ u = ⟨⟨l', t', ov', li'⟩, es, be⟩) (hn' : l'.length = n') (hm' : es.length = m) (hb : decide (0 < be) = bell) :
    Calls Tryd.prog 20 #[tv X, .int .i64 room, .agg #[.slice A n c, .int .i64 (t : Int), .bool ov, .bool li], .int .u8 (u.toNat : Int)] w (GotU w l' n' (t' : Int) ov' li' es m bell) :=
  key_of X room A n c (t : Int) ov li u w l' n' (t' : Int) ov' li' es m (be : Int) bell (by rw [← hb]; simp) fun V K d hb hu =>
    play_any X room A l n c t ov li K [u] 1 d V hn (hr.at_ hb) h1 h2 rfl hu (by omega) l' n' t' ov' li' es m be (by unfold playE playE; rw [hp]; simp) hn' hm'

end Go.Proofs.YtlfmbfecajhffaaDoor
/-
  The contract of a signal. No conditions beyond those each theorem states.
-/
namespace Go.Proofs.YtlfmbfecajhffaaDoor
open Go.RowKit
set_option maxRecDepth 100000

attribute [local go_sem ↓] ex_ld25 ex_st25 ex_al25 ex_bu25 ex_ix25 ex_eq25 ex_ne25 ex_eq23 ex_ne23 ex_ld25o ex_st65 ex_al65 ex_bu65 ex_bu65s
attribute [local go_sem] ptrB_at okPtr_at aggC_at agg62 agg69 isC_at isT_at eqV_t eqV_c isRow_new isRow_new65 World.setRow_alloc_new ptr4_at okPtr4_at cutT_at isI_at isS_at bW_at bWs_at

theorem sQ {V W : World} {p : Nat} {a b x y : Value} (h : SR 32 V p [a, b, x, y]) (hb : Below V.heap.size V W) :
    W.cell? ⟨p, 0, none⟩ = some a ∧ W.cell? ⟨p, 1, none⟩ = some b ∧ W.cell? ⟨p, 2, none⟩ = some x ∧ W.cell? ⟨p, 3, none⟩ = some y ∧ Below V.heap.size V W := by
  have h1 := SR.call h hb h.lt
  exact ⟨h1.cell 0, h1.cell 1, h1.cell 2, h1.cell 3, hb⟩

set_option maxHeartbeats 8000000 in
theorem sig_bad (A : Option Addr) (l : List UInt8) (n c : Nat) (z : Int) (ov li : Bool) (f : Int) (w : World) (hn : n = l.length) (hr : Rd w w.heap.size A l c) (hl : n ≤ 100000) (hm : mayV n z = false) :
    Calls Tryd.prog 24 #[.agg #[.slice A n c, .int .i64 z, .bool ov, .bool li], .int .i64 f] w (GotP w l n z ov li [] 0 1) := by
  have HR := keepd hr
  have HN := keepd hn
  clear hr hn
  go_enter Tryd.func24, Tryd.ntmps24
  go_upto_region 1 with fail
  generalize hV : (w.alloc (.cells #[.slice A n c, .int .i64 z, .bool ov, .bool li] 32)).alloc (.cells #[.slice none 0 0, .int .i64 0, .bool false, .bool false] 32) = V
  obtain ⟨HS, HZ, HB⟩ := st_new2 _ _ _ _ _ _ _ _ _ _ hV
  obtain ⟨k0, k1, k2, k3, _, _, _, _, kt⟩ := st_facts HS.out
  have FS := keepd HS.out
  have HO := keepd fun (W : World) (hb : Below V.heap.size V W) => own_any A l n c z ov li W HN.out ((HR.out.at_ HB.out).at_ hb) (by omega)
  clear hV
  go_wp2_with fail
  with_reducible refine (HO.out _ (Below.refl _ _)).mono ?_
  rintro e w4 ⟨A1, c1, rfl, ho, hb4⟩
  have HMid0 := keepd (midw_a (V := V) (z := z) (ov := ov) (li := li) (X := zT) (room := 0) ho (Nat.le_refl _) hb4 HN.out)
  clear ho hb4
  go_upto_region 2 with fail
  generalize hb0 : w4.heap.size = b at *
  generalize hV0 : w4.alloc (.cells (wk A1 n c1 z ov li zT 0 (.slice none 0 0) 0).toArray 84) = V3 at *
  have HMid : Hid (MidW V b l n z ov li zT 0 A1 c1 V3) := HMid0
  clear HMid0 hb0 hV0
  focus
    have HB3 := keepd (bCall HB.out HMid.out.2.2.2.1)
    have HS3 := keepd (SR.call HS.out HMid.out.2.2.2.1 HS.out.lt)
    have HZ3 := keepd (SR.call HZ.out HMid.out.2.2.2.1 HZ.out.lt)
    obtain ⟨k0, k1, k2, k3, _, _, _, _, kt⟩ := st_facts HS3.out
    have hbl : w.heap.size + 1 < b := Nat.lt_of_lt_of_le HZ.out.lt HMid.out.2.2.2.2
    clear FS HO HS
    have CK := keepd (echeck_bad A n c z ov li V3 hm)
    clear hm
    go_wp2_with fail
    with_reducible refine CK.out.mono ?_
    rintro e w5 ⟨rfl, hb5⟩
    have HB5 := keepd (bCall HB3.out hb5)
    have HW5 := keepd (SR.call HMid.out.1 hb5 (SR.lt HMid.out.1))
    have HR5 := keepd (HMid.out.2.1.at_ hb5)
    have HZ5 := keepd (SR.call HZ3.out hb5 HZ3.out.lt)
    obtain ⟨x0, x1, x2, x3, x66, x67, x68⟩ := WB.cells HW5.out
    obtain ⟨j0, j1, j2, j3, r0, r1, r2, r3, jt⟩ := st_facts HZ5.out
    clear hb5 CK k0 k1 k2 k3 kt HS3 HZ3 HB3 x66 x67 x68
    go_wp2_with fail
    refine bodyPost_ret (v := .tuple #[.agg #[.slice A1 n c1, .int .i64 z, .bool ov, .bool li], .slice none 0 0, .int .i64 1]) (by simp [results, Tryd.results24, go_sem, j0, j1, j2, j3]) rfl ?_
    refine ⟨A1, c1, none, 0, [], rfl, rfl, rfl, ?_, nilE _, set4_below HB5.out (by omega)⟩
    exact HR5.out.setSt (w' := set4 w5 (w.heap.size + 1) (.slice A1 n c1) (.int .i64 z) (.bool ov) (.bool li)) HZ5.out (by rw [set4_size]; exact Nat.le_refl _) fun k hk => set4_heap _ _ _ _ _ _ hk

set_option maxHeartbeats 8000000 in
theorem sig_not (A : Option Addr) (l : List UInt8) (n c t : Nat) (z : Int) (ov li : Bool) (f : Int) (w : World) (hn : n = l.length) (hr : Rd w w.heap.size A l c) (h2 : n ≤ 4096) (h1 : t ≤ n) (hz : z = (t : Int)) (hf : isSig f = false) :
    Calls Tryd.prog 24 #[.agg #[.slice A n c, .int .i64 z, .bool ov, .bool li], .int .i64 f] w (GotP w l n z ov li [] 0 1) := by
  have hl : n ≤ 100000 := by omega
  have HZT := keepd hz
  clear hz
  have HR := keepd hr
  have HN := keepd hn
  clear hr hn
  go_enter Tryd.func24, Tryd.ntmps24
  go_upto_region 1 with fail
  generalize hV : (w.alloc (.cells #[.slice A n c, .int .i64 z, .bool ov, .bool li] 32)).alloc (.cells #[.slice none 0 0, .int .i64 0, .bool false, .bool false] 32) = V
  obtain ⟨HS, HZ, HB⟩ := st_new2 _ _ _ _ _ _ _ _ _ _ hV
  obtain ⟨k0, k1, k2, k3, _, _, _, _, kt⟩ := st_facts HS.out
  have FS := keepd HS.out
  have HO := keepd fun (W : World) (hb : Below V.heap.size V W) => own_any A l n c z ov li W HN.out ((HR.out.at_ HB.out).at_ hb) (by omega)
  clear hV
  go_wp2_with fail
  with_reducible refine (HO.out _ (Below.refl _ _)).mono ?_
  rintro e w4 ⟨A1, c1, rfl, ho, hb4⟩
  have HMid0 := keepd (midw_a (V := V) (z := z) (ov := ov) (li := li) (X := zT) (room := 0) ho (Nat.le_refl _) hb4 HN.out)
  clear ho hb4
  go_upto_region 2 with fail
  generalize hb0 : w4.heap.size = b at *
  generalize hV0 : w4.alloc (.cells (wk A1 n c1 z ov li zT 0 (.slice none 0 0) 0).toArray 84) = V3 at *
  have HMid : Hid (MidW V b l n z ov li zT 0 A1 c1 V3) := HMid0
  clear HMid0 hb0 hV0
  focus
    have HB3 := keepd (bCall HB.out HMid.out.2.2.2.1)
    have HS3 := keepd (SR.call HS.out HMid.out.2.2.2.1 HS.out.lt)
    have HZ3 := keepd (SR.call HZ.out HMid.out.2.2.2.1 HZ.out.lt)
    obtain ⟨k0, k1, k2, k3, _, _, _, _, kt⟩ := st_facts HS3.out
    have hbl : w.heap.size + 1 < b := Nat.lt_of_lt_of_le HZ.out.lt HMid.out.2.2.2.2
    clear FS HO HS
    have CK := keepd (echeck_ok A n c t ov li V3 h2 h1)
    rw [← HZT.out] at CK
    have HI := keepd fun V => isSignal_any f false hf V
    clear h1 hf
    go_wp2_with fail
    with_reducible refine CK.out.mono ?_
    rintro e w5 ⟨rfl, hb5⟩
    have HB5 := keepd (bCall HB3.out hb5)
    have HW5 := keepd (SR.call HMid.out.1 hb5 (SR.lt HMid.out.1))
    have HR5 := keepd (HMid.out.2.1.at_ hb5)
    have HZ5 := keepd (SR.call HZ3.out hb5 HZ3.out.lt)
    obtain ⟨x0, x1, x2, x3, x66, x67, x68⟩ := WB.cells HW5.out
    obtain ⟨j0, j1, j2, j3, r0, r1, r2, r3, jt⟩ := st_facts HZ5.out
    clear hb5 CK k0 k1 k2 k3 kt HS3 HZ3 HB3 x66 x67 x68
    go_wp2_with fail
    with_reducible refine (HI.out _).mono ?_
    rintro e w6 ⟨rfl, rfl⟩
    go_wp2_with fail
    refine bodyPost_ret (v := .tuple #[.agg #[.slice A1 n c1, .int .i64 z, .bool ov, .bool li], .slice none 0 0, .int .i64 1]) (by simp [results, Tryd.results24, go_sem, j0, j1, j2, j3]) rfl ?_
    refine ⟨A1, c1, none, 0, [], rfl, rfl, rfl, ?_, nilE _, set4_below HB5.out (by omega)⟩
    exact HR5.out.setSt (w' := set4 w6 (w.heap.size + 1) (.slice A1 n c1) (.int .i64 z) (.bool ov) (.bool li)) HZ5.out (by rw [set4_size]; exact Nat.le_refl _) fun k hk => set4_heap _ _ _ _ _ _ hk

set_option maxHeartbeats 8000000 in
theorem sig_any (A : Option Addr) (l : List UInt8) (n c t : Nat) (z : Int) (ov li : Bool) (f : Int) (w : World) (hn : n = l.length) (hr : Rd w w.heap.size A l c) (h2 : n ≤ 4096) (h1 : t ≤ n) (hz : z = (t : Int)) (hf : isSig f = true) (l' : List UInt8) (n' t' : Nat) (ov' li' : Bool) (hs : sigS ⟨l, t, ov, li⟩ f = ⟨l', t', ov', li'⟩) (hn' : l'.length = n') :
    Calls Tryd.prog 24 #[.agg #[.slice A n c, .int .i64 z, .bool ov, .bool li], .int .i64 f] w (GotP w l' n' (t' : Int) ov' li' [sigV ⟨l, t, ov, li⟩ f] 1 0) := by
  have hl : n ≤ 100000 := by omega
  have HS' := keepd hs
  have HN' := keepd hn'
  have HZT := keepd hz
  clear hs hn' hz
  have HR := keepd hr
  have HN := keepd hn
  clear hr hn
  go_enter Tryd.func24, Tryd.ntmps24
  go_upto_region 1 with fail
  generalize hV : (w.alloc (.cells #[.slice A n c, .int .i64 z, .bool ov, .bool li] 32)).alloc (.cells #[.slice none 0 0, .int .i64 0, .bool false, .bool false] 32) = V
  obtain ⟨HS, HZ, HB⟩ := st_new2 _ _ _ _ _ _ _ _ _ _ hV
  obtain ⟨k0, k1, k2, k3, _, _, _, _, kt⟩ := st_facts HS.out
  have FS := keepd HS.out
  have HO := keepd fun (W : World) (hb : Below V.heap.size V W) => own_any A l n c z ov li W HN.out ((HR.out.at_ HB.out).at_ hb) (by omega)
  clear hV
  go_wp2_with fail
  with_reducible refine (HO.out _ (Below.refl _ _)).mono ?_
  rintro e w4 ⟨A1, c1, rfl, ho, hb4⟩
  have HMid0 := keepd (midw_a (V := V) (z := z) (ov := ov) (li := li) (X := zT) (room := 0) ho (Nat.le_refl _) hb4 HN.out)
  clear ho hb4
  go_upto_region 2 with fail
  generalize hb0 : w4.heap.size = b at *
  generalize hV0 : w4.alloc (.cells (wk A1 n c1 z ov li zT 0 (.slice none 0 0) 0).toArray 84) = V3 at *
  have HMid : Hid (MidW V b l n z ov li zT 0 A1 c1 V3) := HMid0
  clear HMid0 hb0 hV0
  focus
    have HB3 := keepd (bCall HB.out HMid.out.2.2.2.1)
    have HS3 := keepd (SR.call HS.out HMid.out.2.2.2.1 HS.out.lt)
    have HZ3 := keepd (SR.call HZ.out HMid.out.2.2.2.1 HZ.out.lt)
    obtain ⟨k0, k1, k2, k3, _, _, _, _, kt⟩ := st_facts HS3.out
    have hbl : w.heap.size + 1 < b := Nat.lt_of_lt_of_le HZ.out.lt HMid.out.2.2.2.2
    clear FS HO HS
    have CK := keepd (echeck_ok A n c t ov li V3 h2 h1)
    rw [← HZT.out] at CK
    have HI := keepd fun V => isSignal_any f true hf V
    have HMid2 : Hid (MidW V b l n (t : Int) ov li zT 0 A1 c1 V3) := by rw [← HZT.out]; exact HMid.out
    clear HMid h1 hf
    go_wp2_with fail
    with_reducible refine CK.out.mono ?_
    rintro e w5 ⟨rfl, hb5⟩
    obtain ⟨g1, g2, g3, g4, g5⟩ := HMid2.out
    have HJ0 : Hid (WJ V b zT 0 ⟨l, t, ov, li⟩ [] 0 V3 A1 c1 (.slice none 0 0)) := by
      refine ⟨?_, g2, g3, OwnE.nil _ _, by simp [Value.ownBlock], fun x hx => by simp at hx, g4, g5⟩
      rw [← HN.out]
      exact g1
    have HSG := keepd (signal_any (HJ0.out.call hb5) (by simp) f)
    clear hb5 CK k0 k1 k2 k3 kt HS3 HZ3 HB3 g1 g2 g3 g4 g5 HJ0 HMid2
    go_wp2_with fail
    with_reducible refine (HI.out _).mono ?_
    rintro e w6 ⟨rfl, rfl⟩
    go_wp2_with fail
    with_reducible refine HSG.out.mono ?_
    rintro e w7 ⟨rfl, A2, c2, iv, x, hx, hw⟩
    rw [List.nil_append, HS'.out] at hw
    have hs : WB w7 b A2 n' c2 (t' : Int) ov' li' zT 0 iv 0 := by rw [← HN'.out]; exact hw.sr
    obtain ⟨x0, x1, x2, x3, x66, x67, x68⟩ := WB.cells hs
    have HZr := keepd (SR.call HZ.out hw.below HZ.out.lt)
    obtain ⟨j0, j1, j2, j3, r0, r1, r2, r3, jt⟩ := st_facts HZr.out
    have HX := keepd hx
    have HWJ := keepd hw
    have HB7 := keepd (bCall HB.out hw.below)
    have hbw := hw.lt
    clear hx hw hs x66
    go_upto_region 5 with fail
    go_region
    generalize hV9 : ((((w7.setCell ⟨w.heap.size + 1, 0, none⟩ (.slice A2 n' c2)).setCell ⟨w.heap.size + 1, 1, none⟩ (.int .i64 (t' : Int))).setCell ⟨w.heap.size + 1, 2, none⟩ (.bool ov')).setCell ⟨w.heap.size + 1, 3, none⟩ (.bool li')).drew = V9
    have hV8 : V9 = (set4 w7 (w.heap.size + 1) (.slice A2 n' c2) (.int .i64 (t' : Int)) (.bool ov') (.bool li')).drew := hV9.symm
    clear hV9
    have HX9 : SR 32 V9 (w.heap.size + 1) [.slice A2 n' c2, .int .i64 (t' : Int), .bool ov', .bool li'] := by rw [hV8]; exact set4_sr HZr.out
    have hsz : V9.heap.size = w7.heap.size := by rw [hV8]; exact set4_size _ _ _ _ _ _
    have hhp : ∀ g, g ≠ w.heap.size + 1 → V9.heap[g]? = w7.heap[g]? := fun g hg => by rw [hV8]; exact set4_heap _ _ _ _ _ _ hg
    have hrd : ∀ (B : Option Addr) (y : List UInt8) (q : Nat), Rd w7 w7.heap.size B y q → Rd V9 V9.heap.size B y q := fun B y q hB => hB.setSt HZr.out (by rw [hsz]; exact Nat.le_refl _) hhp
    have hbel : Below w.heap.size w V9 := by rw [hV8]; exact (set4_below HB7.out (by omega)).drew
    have hown : OwnE V9 V.heap.size iv [x] := HWJ.out.owns.of_block fun g hg => hhp g (by have := (HWJ.out.owns.ge g hg).1; have := HZ.out.lt; omega)
    obtain ⟨B9, d9, hiv, hre⟩ := hown.rd fun x hx => hrd _ _ _ (HWJ.out.far x hx).1
    have HFIN : Hid (GotP w l' n' (t' : Int) ov' li' [sigV ⟨l, t, ov, li⟩ f] 1 0 (.returned (.tuple #[.agg #[.slice A2 n' c2, .int .i64 (t' : Int), .bool ov', .bool li'], .slice B9 1 d9, .int .i64 0])) V9) :=
      ⟨A2, c2, B9, d9, [x], rfl, by rw [List.map_cons, HX.out]; rfl, rfl, hrd _ _ _ (by have := HWJ.out.rd; exact this), hre, hbel⟩
    have y0 := HX9.cell 0
    have y1 := HX9.cell 1
    have y2 := HX9.cell 2
    have y3 := HX9.cell 3
    simp only [List.getElem?_cons_zero, List.getElem?_cons_succ] at y0 y1 y2 y3
    clear hV8 HX9 hsz hhp hrd hbel hown hre j0 j1 j2 j3 r0 r1 r2 r3 jt x0 x1 x2 x3 x67 x68
    subst hiv
    go_wp2_with fail
    refine bodyPost_ret (v := .tuple #[.agg #[.slice A2 n' c2, .int .i64 (t' : Int), .bool ov', .bool li'], .slice B9 1 d9, .int .i64 0]) (by simp [results, Tryd.results24, go_sem, y0, y1, y2, y3]) rfl ?_
    exact HFIN.out

end Go.Proofs.YtlfmbfecajhffaaDoor
