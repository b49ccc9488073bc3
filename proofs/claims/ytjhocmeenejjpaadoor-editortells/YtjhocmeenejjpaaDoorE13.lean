/-
  The contract of Key. No conditions beyond those each theorem states.
-/
import Derived.Test.YtjhocmeenejjpaaDoorE10
namespace Go.Proofs.YtjhocmeenejjpaaDoor
open Go.RowKit
set_option maxRecDepth 100000

attribute [local go_sem ↓] ex_ld25 ex_st25 ex_al25 ex_bu25 ex_ix25 ex_eq25 ex_ne25 ex_eq23 ex_ne23 ex_ld25o ex_st65 ex_al65 ex_bu65 ex_bu65s
attribute [local go_sem] ptrB_at okPtr_at aggC_at agg62 agg69 isC_at isT_at eqV_t eqV_c isRow_new isRow_new65 World.setRow_alloc_new ptr4_at okPtr4_at cutT_at isI_at isS_at bW_at bWs_at

theorem EvM.far_cell {w : World} {g : Nat} {A' : Option Addr} {n' c' : Nat} {z : Int} {x y : Bool} (H : SR 30 w g [.slice A' n' c', .int .i64 z, .bool x, .bool y]) {b o : Nat} {k f : Int} {v : Value} (c0 : w.cell? ⟨b, o, none⟩ = some (.int .i64 k)) (c1 : w.cell? ⟨b, o + 1, none⟩ = some (.int .i64 f)) (_ : v = v) : b ≠ g := by
  rintro rfl
  rw [H.cell] at c0 c1
  match o, c0, c1 with
  | 0, c0, _ => simp at c0
  | 1, _, c1 => simp at c1
  | 2, c0, _ => simp at c0
  | 3, c0, _ => simp at c0
  | i + 4, c0, _ => simp at c0
theorem RdE.setSt {w w' : World} {A A' : Option Addr} {L : List EvM} {c g n' c' : Nat} {z : Int} {x y : Bool} (h : RdE w A L c) (H : SR 30 w g [.slice A' n' c', .int .i64 z, .bool x, .bool y]) (hs : w.heap.size ≤ w'.heap.size) (hh : ∀ k, k ≠ g → w'.heap[k]? = w.heap[k]?) : RdE w' A L c := by
  refine ⟨h.1, h.2.1, fun hne => ?_, fun e he => (h.2.2.2 e he).setSt H hs hh⟩
  obtain ⟨b, off, e, hlt, hce⟩ := h.2.2.1 hne
  refine ⟨b, off, e, Nat.lt_of_lt_of_le hlt hs, fun i hi => ?_⟩
  obtain ⟨c0, c1, c2⟩ := hce i hi
  have hg : b ≠ g := EvM.far_cell (v := .bool true) H c0 c1 rfl
  have k : ∀ o, w'.cell? ⟨b, o, none⟩ = w.cell? ⟨b, o, none⟩ := fun o => World.cell?_of_block (w := w) (a := ⟨b, o, none⟩) (hh b hg)
  exact ⟨(k _).trans c0, (k _).trans c1, (k _).trans c2⟩

/-- What is answered of a key: a state, events, whether a bell rings. -/
def GotU (w : World) (l : List UInt8) (n : Nat) (z : Int) (ov li : Bool) (es : List Ev) (m : Nat) (bell : Bool) (e : Ending) (w' : World) : Prop :=
  ∃ A c B d L, e = .returned (.tuple #[.agg #[.slice A n c, .int .i64 z, .bool ov, .bool li], .slice B m d, .bool bell]) ∧ L.map EvM.abs = es ∧ L.length = m ∧ Rd w' w'.heap.size A l c ∧ RdE w' B L d ∧ Below w.heap.size w w'

set_option maxHeartbeats 4000000 in
/-- Key, of what Play answers. -/
theorem key_of (X : Tb) (room : Int) (A : Option Addr) (n c : Nat) (z : Int) (ov li : Bool) (u : UInt8) (w : World)
    (l' : List UInt8) (n' : Nat) (z' : Int) (ov' li' : Bool) (es : List Ev) (m : Nat) (be : Int) (bell : Bool) (hbe : decide (0 < be) = bell)
    (hP : ∀ (V : World) (K : Option Addr) (d : Nat), Below w.heap.size w V → Rd V V.heap.size K [u] d → Calls Tryd.prog 11 #[tv X, .int .i64 room, .agg #[.slice A n c, .int .i64 z, .bool ov, .bool li], .slice K 1 d] V (GotP V l' n' z' ov' li' es m be)) :
    Calls Tryd.prog 15 #[tv X, .int .i64 room, .agg #[.slice A n c, .int .i64 z, .bool ov, .bool li], .int .u8 (u.toNat : Int)] w (GotU w l' n' z' ov' li' es m bell) := by
  have HP := keepd hP
  have HBE := keepd hbe
  clear hP hbe
  go_enter Tryd.func15, Tryd.ntmps15
  go_upto_region 1 with fail
  generalize hV : ((w.alloc (.cells (cs X).toArray 25)).alloc (.cells #[.slice A n c, .int .i64 z, .bool ov, .bool li] 30)).alloc (.cells #[.slice none 0 0, .int .i64 0, .bool false, .bool false] 30) = V
  obtain ⟨HT, HS, HZ, HB⟩ := play_new _ _ _ _ _ _ _ _ _ _ _ hV
  obtain ⟨k0, k1, k2, k3, _, _, _, _, kt⟩ := st_facts HS.out
  obtain ⟨q0, q1⟩ := TB.facts HT.out
  clear hV
  have HC := keepd (HP.out (V.alloc (.cells #[.int .u8 (u.toNat : Int)] 5)) (some ⟨V.heap.size, 0, none⟩) 1 (bAlloc HB.out _) (by rw [World.size_alloc]; exact one_rdb V u))
  clear HP
  go_wp2_with fail
  with_reducible refine HC.out.mono ?_
  rintro e w4 ⟨A1, c1, B1, d1, L, rfl, hL, hLm, hr, hre, hb4⟩
  have hb4' : Below V.heap.size V w4 := upA hb4
  have HB4 := keepd (bCall HB.out hb4')
  have HZ4 := keepd (SR.call HZ.out hb4' HZ.out.lt)
  have HR4 := keepd hr
  have HE4 := keepd hre
  have HL := keepd (And.intro hL hLm)
  clear hL hLm hr hre hb4 hb4' HC q0 q1 k0 k1 k2 k3 kt HT HS HB
  go_upto_region 2 with fail
  generalize hV : w4.alloc (.cells #[.slice A1 n' c1, .int .i64 z', .bool ov', .bool li'] 30) = V5
  obtain ⟨HX, HB0⟩ := st_new _ _ _ _ _ _ hV
  have HZ5 := keepd (SR.call HZ4.out HB0.out HZ4.out.lt)
  have HB5 := keepd (bCall HB4.out HB0.out)
  have HR5 := keepd (HR4.out.at_ HB0.out)
  have HE5 := keepd (HE4.out.at_ HB0.out)
  obtain ⟨k0, k1, k2, k3, _, _, _, _, kt⟩ := st_facts HX.out
  obtain ⟨j0, j1, j2, j3, r0, r1, r2, r3, jt⟩ := st_facts HZ5.out
  clear hV HZ4 HB4 HR4 HE4 HB0 HZ
  have fin : ∀ bb : Bool, bell = bb → GotU w l' n' z' ov' li' es m bell (.returned (.tuple #[.agg #[.slice A1 n' c1, .int .i64 z', .bool ov', .bool li'], .slice B1 m d1, .bool bb])) (set4 V5 (w.heap.size + 2) (.slice A1 n' c1) (.int .i64 z') (.bool ov') (.bool li')) := by
    intro bb hbb
    subst hbb
    have hh : ∀ k, k ≠ w.heap.size + 2 → (set4 V5 (w.heap.size + 2) (.slice A1 n' c1) (.int .i64 z') (.bool ov') (.bool li')).heap[k]? = V5.heap[k]? := fun k hk => set4_heap _ _ _ _ _ _ hk
    refine ⟨A1, c1, B1, d1, L, rfl, HL.out.1, HL.out.2, HR5.out.setSt HZ5.out (by rw [set4_size]; exact Nat.le_refl _) hh, ?_, set4_below HB5.out (by omega)⟩
    exact HE5.out.setSt HZ5.out (by rw [set4_size]; exact Nat.le_refl _) hh
  have FIN := keepd fin
  clear fin
  by_cases hb : 0 < be
  · have hb1 : be > 0 := hb
    go_wp2_with fail
    refine bodyPost_ret (v := .tuple #[.agg #[.slice A1 n' c1, .int .i64 z', .bool ov', .bool li'], .slice B1 m d1, .bool true]) (by simp [results, Tryd.results15, go_sem, j0, j1, j2, j3]) rfl ?_
    exact FIN.out true (by rw [← HBE.out]; simpa using hb)
  · have hb1 : ¬ be > 0 := hb
    go_wp2_with fail
    refine bodyPost_ret (v := .tuple #[.agg #[.slice A1 n' c1, .int .i64 z', .bool ov', .bool li'], .slice B1 m d1, .bool false]) (by simp [results, Tryd.results15, go_sem, j0, j1, j2, j3]) rfl ?_
    exact FIN.out false (by rw [← HBE.out]; simpa using hb)

theorem key_bad (X : Tb) (room : Int) (A : Option Addr) (l : List UInt8) (n c : Nat) (z : Int) (ov li : Bool) (u : UInt8) (w : World) (hn : n = l.length) (hr : Rd w w.heap.size A l c) (hl : n ≤ 100000) (hm : mayV n z = false) :
    Calls Tryd.prog 15 #[tv X, .int .i64 room, .agg #[.slice A n c, .int .i64 z, .bool ov, .bool li], .int .u8 (u.toNat : Int)] w (GotU w l n z ov li [] 0 false) :=
  key_of X room A n c z ov li u w l n z ov li [] 0 0 false rfl fun V K d hb _ => play_bad X room A l n c z ov li K 1 d V hn (hr.at_ hb) hl hm
theorem key_good (X : Tb) (room : Int) (A : Option Addr) (l : List UInt8) (n c t : Nat) (ov li : Bool) (u : UInt8) (w : World) (hn : n = l.length) (hr : Rd w w.heap.size A l c) (h1 : t ≤ n) (h2 : n ≤ 4096)
    (l' : List UInt8) (n' t' : Nat) (ov' li' : Bool) (es : List Ev) (m be : Nat) (bell : Bool) (hp : keyE X room ⟨l, t, ov, li⟩ u = ⟨⟨l', t', ov', li'⟩, es, be⟩) (hn' : l'.length = n') (hm' : es.length = m) (hb : decide (0 < be) = bell) :
    Calls Tryd.prog 15 #[tv X, .int .i64 room, .agg #[.slice A n c, .int .i64 (t : Int), .bool ov, .bool li], .int .u8 (u.toNat : Int)] w (GotU w l' n' (t' : Int) ov' li' es m bell) :=
  key_of X room A n c (t : Int) ov li u w l' n' (t' : Int) ov' li' es m (be : Int) bell (by rw [← hb]; simp) fun V K d hb hu =>
    play_any X room A l n c t ov li K [u] 1 d V hn (hr.at_ hb) h1 h2 rfl hu (by omega) l' n' t' ov' li' es m be (by unfold playE playE; rw [hp]; simp) hn' hm'

end Go.Proofs.YtjhocmeenejjpaaDoor
