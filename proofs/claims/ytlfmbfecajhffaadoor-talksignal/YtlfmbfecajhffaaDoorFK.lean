/-
  What is answered of a key, in new memory. No conditions beyond those each theorem states.
-/
import Derived.Test.YtlfmbfecajhffaaDoorFE
import Derived.Test.YtlfmbfecajhffaaDoorA15
namespace Go.Proofs.YtlfmbfecajhffaaDoor.Fr
open Go.RowKit
set_option maxRecDepth 100000

attribute [local go_sem ↓] ex_ld25 ex_st25 ex_al25 ex_bu25 ex_ix25 ex_eq25 ex_ne25 ex_eq23 ex_ne23 ex_ld25o ex_st65 ex_al65 ex_bu65 ex_bu65s
attribute [local go_sem] ptrB_at okPtr_at aggC_at agg62 agg69 isC_at isT_at eqV_t eqV_c isRow_new isRow_new65 World.setRow_alloc_new ptr4_at okPtr4_at cutT_at isI_at isS_at bW_at bWs_at

/-- What is answered of a key, in new memory. -/
def GotUF (w : World) (l : List UInt8) (n : Nat) (z : Int) (ov li : Bool) (es : List Ev) (m : Nat) (bell : Bool) (e : Ending) (w' : World) : Prop :=
  ∃ A c B d L, e = .returned (.tuple #[.agg #[.slice A n c, .int .i64 z, .bool ov, .bool li], .slice B m d, .bool bell]) ∧ L.map EvM.abs = es ∧ L.length = m ∧ Rd w' w'.heap.size A l c ∧ RdE w' B L d ∧ Below w.heap.size w w' ∧ (∀ g, (Value.slice B m d).ownBlock = some g → w.heap.size ≤ g) ∧ Frs w A ∧ ∀ x ∈ L, Frs w x.A

set_option maxHeartbeats 4000000 in
/-- Key, of what Play answers. -/
theorem key_ofF (X : Tb) (room : Int) (A : Option Addr) (n c : Nat) (z : Int) (ov li : Bool) (u : UInt8) (w : World)
    (l' : List UInt8) (n' : Nat) (z' : Int) (ov' li' : Bool) (es : List Ev) (m : Nat) (be : Int) (bell : Bool) (hbe : decide (0 < be) = bell)
    (hP : ∀ (V : World) (K : Option Addr) (d : Nat), Below w.heap.size w V → Rd V V.heap.size K [u] d → Calls Tryd.prog 21 #[tv X, .int .i64 room, .agg #[.slice A n c, .int .i64 z, .bool ov, .bool li], .slice K 1 d] V (GotPF V l' n' z' ov' li' es m be)) :
    Calls Tryd.prog 20 #[tv X, .int .i64 room, .agg #[.slice A n c, .int .i64 z, .bool ov, .bool li], .int .u8 (u.toNat : Int)] w (GotUF w l' n' z' ov' li' es m bell) := by
  have HP := keepd hP
  have HBE := keepd hbe
  clear hP hbe
  go_enter Tryd.func20, Tryd.ntmps20
  go_upto_region 1 with fail
  generalize hV : ((w.alloc (.cells (cs X).toArray 25)).alloc (.cells #[.slice A n c, .int .i64 z, .bool ov, .bool li] 32)).alloc (.cells #[.slice none 0 0, .int .i64 0, .bool false, .bool false] 32) = V
  obtain ⟨HT, HS, HZ, HB⟩ := play_new _ _ _ _ _ _ _ _ _ _ _ hV
  obtain ⟨k0, k1, k2, k3, _, _, _, _, kt⟩ := st_facts HS.out
  obtain ⟨q0, q1⟩ := TB.facts HT.out
  clear hV
  have HC := keepd (HP.out (V.alloc (.cells #[.int .u8 (u.toNat : Int)] 5)) (some ⟨V.heap.size, 0, none⟩) 1 (bAlloc HB.out _) (by rw [World.size_alloc]; exact one_rdb V u))
  clear HP
  go_wp2_with fail
  with_reducible refine HC.out.mono ?_
  rintro e w4 ⟨A1, c1, B1, d1, L, rfl, hL, hLm, hr, hre, hb4, hf1, hf2, hf3⟩
  have hsz : w.heap.size ≤ (V.alloc (.cells #[.int .u8 (u.toNat : Int)] 5)).heap.size := (bAlloc HB.out _).size
  have HFR : Hid ((∀ g, (Value.slice B1 m d1).ownBlock = some g → w.heap.size ≤ g) ∧ Frs w A1 ∧ ∀ x ∈ L, Frs w x.A) := ⟨fun g hg => Nat.le_trans hsz (hf1 g hg), fun ad had => Nat.le_trans hsz (hf2 ad had), fun x hx ad had => Nat.le_trans hsz (hf3 x hx ad had)⟩
  clear hf1 hf2 hf3 hsz
  have hb4' : Below V.heap.size V w4 := upA hb4
  have HB4 := keepd (bCall HB.out hb4')
  have HZ4 := keepd (SR.call HZ.out hb4' HZ.out.lt)
  have HR4 := keepd hr
  have HE4 := keepd hre
  have HL := keepd (And.intro hL hLm)
  clear hL hLm hr hre hb4 hb4' HC q0 q1 k0 k1 k2 k3 kt HT HS HB
  go_upto_region 2 with fail
  generalize hV : w4.alloc (.cells #[.slice A1 n' c1, .int .i64 z', .bool ov', .bool li'] 32) = V5
  obtain ⟨HX, HB0⟩ := st_new _ _ _ _ _ _ hV
  have HZ5 := keepd (SR.call HZ4.out HB0.out HZ4.out.lt)
  have HB5 := keepd (bCall HB4.out HB0.out)
  have HR5 := keepd (HR4.out.at_ HB0.out)
  have HE5 := keepd (HE4.out.at_ HB0.out)
  obtain ⟨k0, k1, k2, k3, _, _, _, _, kt⟩ := st_facts HX.out
  obtain ⟨j0, j1, j2, j3, r0, r1, r2, r3, jt⟩ := st_facts HZ5.out
  clear hV HZ4 HB4 HR4 HE4 HB0 HZ
  have fin : ∀ bb : Bool, bell = bb → GotUF w l' n' z' ov' li' es m bell (.returned (.tuple #[.agg #[.slice A1 n' c1, .int .i64 z', .bool ov', .bool li'], .slice B1 m d1, .bool bb])) (set4 V5 (w.heap.size + 2) (.slice A1 n' c1) (.int .i64 z') (.bool ov') (.bool li')) := by
    intro bb hbb
    subst hbb
    have hh : ∀ k, k ≠ w.heap.size + 2 → (set4 V5 (w.heap.size + 2) (.slice A1 n' c1) (.int .i64 z') (.bool ov') (.bool li')).heap[k]? = V5.heap[k]? := fun k hk => set4_heap _ _ _ _ _ _ hk
    refine ⟨A1, c1, B1, d1, L, rfl, HL.out.1, HL.out.2, HR5.out.setSt HZ5.out (by rw [set4_size]; exact Nat.le_refl _) hh, ?_, set4_below HB5.out (by omega), HFR.out⟩
    exact HE5.out.setSt HZ5.out (by rw [set4_size]; exact Nat.le_refl _) hh
  have FIN := keepd fin
  clear fin
  by_cases hb : 0 < be
  · have hb1 : be > 0 := hb
    go_wp2_with fail
    refine bodyPost_ret (v := .tuple #[.agg #[.slice A1 n' c1, .int .i64 z', .bool ov', .bool li'], .slice B1 m d1, .bool true]) (by simp [results, Tryd.results20, go_sem, j0, j1, j2, j3]) rfl ?_
    exact FIN.out true (by rw [← HBE.out]; simpa using hb)
  · have hb1 : ¬ be > 0 := hb
    go_wp2_with fail
    refine bodyPost_ret (v := .tuple #[.agg #[.slice A1 n' c1, .int .i64 z', .bool ov', .bool li'], .slice B1 m d1, .bool false]) (by simp [results, Tryd.results20, go_sem, j0, j1, j2, j3]) rfl ?_
    exact FIN.out false (by rw [← HBE.out]; simpa using hb)

theorem key_own (X : Tb) (room : Int) (A : Option Addr) (l : List UInt8) (n c t : Nat) (ov li : Bool) (u : UInt8) (w : World) (hn : n = l.length) (hr : Rd w w.heap.size A l c) (h1 : t ≤ n) (h2 : n ≤ 4096)
    (l' : List UInt8) (n' t' : Nat) (ov' li' : Bool) (es : List Ev) (m be : Nat) (bell : Bool) (hp : keyE X room ⟨l, t, ov, li⟩ u = ⟨⟨l', t', ov', li'⟩, es, be⟩) (hn' : l'.length = n') (hm' : es.length = m) (hb : decide (0 < be) = bell) :
    Calls Tryd.prog 20 #[tv X, .int .i64 room, .agg #[.slice A n c, .int .i64 (t : Int), .bool ov, .bool li], .int .u8 (u.toNat : Int)] w (GotUF w l' n' (t' : Int) ov' li' es m bell) :=
  key_ofF X room A n c (t : Int) ov li u w l' n' (t' : Int) ov' li' es m (be : Int) bell (by rw [← hb]; simp) fun V K d hb hu =>
    play_own X room A l n c t ov li K [u] 1 d V hn (hr.at_ hb) h1 h2 rfl hu (by omega) l' n' t' ov' li' es m be (by unfold playE playE; rw [hp]; simp) hn' hm'

end Go.Proofs.YtlfmbfecajhffaaDoor.Fr
