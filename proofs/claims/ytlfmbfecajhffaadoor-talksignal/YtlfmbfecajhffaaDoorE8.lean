/-
  Contracts: Clone, own, Check. No conditions beyond those each theorem states.
-/
import Derived.Test.YtlfmbfecajhffaaDoorE7
namespace Go.Proofs.YtlfmbfecajhffaaDoor
open Go.RowKit
set_option maxRecDepth 100000

attribute [local go_sem ↓] ex_ld25 ex_st25 ex_al25 ex_bu25 ex_ix25 ex_eq25 ex_ne25 ex_eq23 ex_ne23 ex_ld25o ex_st65 ex_al65 ex_bu65 ex_bu65s
attribute [local go_sem] ptrB_at okPtr_at aggC_at agg62 agg69 isC_at isT_at eqV_t eqV_c isRow_new isRow_new65 World.setRow_alloc_new ptr4_at okPtr4_at cutT_at isI_at isS_at bW_at bWs_at

theorem Rd.none_len {w : World} {B c : Nat} {l : List UInt8} (h : Rd w B none l c) : l = [] := by
  rcases List.eq_nil_or_concat l with e | ⟨_, _, e⟩
  · exact e
  · obtain ⟨ad, e', _⟩ := h.2.2.1 (by rw [e]; simp)
    cases e'

/-- Octets of one's own. -/
def GotC (w : World) (l : List UInt8) (n : Nat) (e : Ending) (w' : World) : Prop :=
  ∃ A c, e = .returned (.slice A n c) ∧ Own w' w.heap.size (.slice A n c) l ∧ Below w.heap.size w w'
set_option maxHeartbeats 1000000 in
theorem clone_any (A : Option Addr) (l : List UInt8) (n c : Nat) (w : World) (hn : n = l.length) (hr : Rd w w.heap.size A l c) (hl : n ≤ 1000000) :
    Calls Tryd.prog 50 #[.slice A n c] w (GotC w l n) := by
  cases A with
  | none =>
    obtain rfl := hr.none_len
    subst hn
    clear hr hl
    have hq : ∀ W, Sem.run Tryd.prog (binOp .eql 28 (.slice none 0 c) (.slice none 0 0)) W = .ok (.bool true) W := fun W => by kernel_rfl
    go_enter Tryd.func50, Tryd.ntmps50
    go_wp2_with fail
    go_ret
    exact ⟨none, 0, rfl, Own.nil _ _, Below.refl _ _⟩
  | some ad =>
    have HR := keepd hr
    have HN := keepd hn
    have HL := keepd hl
    clear hr hn
    have hq : ∀ W, Sem.run Tryd.prog (binOp .eql 28 (.slice (some ad) n c) (.slice none 0 0)) W = .ok (.bool false) W := fun W => by kernel_rfl
    go_enter Tryd.func50, Tryd.ntmps50
    go_wp2_with (at_builtin; refine wpList_app _ rfl (.tmp 5) (.tmp 6) rfl w.heap.size _ [] rfl (empty_own w _ (Nat.le_refl _)) _ (some ad) n c l rfl HN.out (HR.out.at_ (bAlloc (Below.refl _ _) _)) ?_ ?_ ?_)
    · rw [← HN.out]; simp only [List.length_nil]; have := HL.out; omega
    · simp
    · intro v' w2 ho hg hat
      have hb := app_start0 hg
      obtain ⟨A', c', rfl, _⟩ := ho.rd
      rw [← HN.out] at ho
      have HO := keepd ho
      have HB := keepd hb
      clear ho hb hg hat
      rw [← HN.out]
      go_wp2
      go_ret
      exact ⟨A', c', rfl, HO.out, HB.out⟩

theorem st_new (w : World) (a b x y : Value) (V : World) (hV : w.alloc (.cells #[a, b, x, y] 32) = V) : Hid (SR 32 V w.heap.size [a, b, x, y]) ∧ Hid (Below w.heap.size w V) := by
  subst hV
  exact ⟨heap_alloc_new w _, bAlloc (Below.refl _ _) _⟩
theorem st_new2 (w : World) (a b x y a' b' x' y' : Value) (V : World) (hV : (w.alloc (.cells #[a, b, x, y] 32)).alloc (.cells #[a', b', x', y'] 32) = V) : Hid (SR 32 V w.heap.size [a, b, x, y]) ∧ Hid (SR 32 V (w.heap.size + 1) [a', b', x', y']) ∧ Hid (Below w.heap.size w V) := by
  subst hV
  refine ⟨row_alloc (heap_alloc_new w _), ?_, bAlloc (bAlloc (Below.refl _ _) _) _⟩
  have := heap_alloc_new (w.alloc (.cells #[a, b, x, y] 32)) (.cells #[a', b', x', y'] 32)
  rw [World.size_alloc] at this
  exact this
theorem st_facts {V : World} {g : Nat} {a b x y : Value} (H : SR 32 V g [a, b, x, y]) : V.cell? ⟨g, 0, none⟩ = some a ∧ V.cell? ⟨g, 1, none⟩ = some b ∧ V.cell? ⟨g, 2, none⟩ = some x ∧ V.cell? ⟨g, 3, none⟩ = some y ∧ V.frozen? ⟨g, 0, none⟩ = false ∧ V.frozen? ⟨g, 1, none⟩ = false ∧ V.frozen? ⟨g, 2, none⟩ = false ∧ V.frozen? ⟨g, 3, none⟩ = false ∧ g < V.heap.size :=
  ⟨H.cell 0, H.cell 1, H.cell 2, H.cell 3, H.frozen 0, H.frozen 1, H.frozen 2, H.frozen 3, H.lt⟩

theorem echeck_any (A : Option Addr) (n c : Nat) (z : Int) (ov li : Bool) (m : Bool) (w : World) (hm : mayV n z = m) :
    Calls Tryd.prog 38 #[.agg #[.slice A n c, .int .i64 z, .bool ov, .bool li]] w fun e w' => e = .returned (.int .i64 (cerr m)) ∧ Below w.heap.size w w' := by
  go_enter Tryd.func38, Tryd.ntmps38
  go_upto_region 1 with fail
  generalize hV : w.alloc (.cells #[.slice A n c, .int .i64 z, .bool ov, .bool li] 32) = V
  obtain ⟨H, HB⟩ := st_new _ _ _ _ _ _ hV
  obtain ⟨k0, k1, k2, k3, _, _, _, _, kt⟩ := st_facts H.out
  have CK := keepd (check_any A n c z m V hm)
  clear hV
  go_wp2_with fail
  with_reducible refine CK.out.mono ?_
  rintro e w1 ⟨rfl, hb1⟩
  have HB1 := keepd (bCall HB.out hb1)
  clear hb1
  go_wp2
  go_ret
  exact ⟨rfl, HB1.out⟩
theorem ermay_any (A : Option Addr) (n c : Nat) (z : Int) (ov li : Bool) (m : Bool) (w : World) (hm : mayV n z = m) :
    Calls Tryd.prog 15 #[.agg #[.slice A n c, .int .i64 z, .bool ov, .bool li]] w fun e w' => e = .returned (.bool m) ∧ Below w.heap.size w w' := by
  go_enter Tryd.func15, Tryd.ntmps15
  go_upto_region 1 with fail
  generalize hV : w.alloc (.cells #[.slice A n c, .int .i64 z, .bool ov, .bool li] 32) = V
  obtain ⟨H, HB⟩ := st_new _ _ _ _ _ _ hV
  obtain ⟨k0, k1, k2, k3, _, _, _, _, kt⟩ := st_facts H.out
  have CK := keepd (rmay_any A n c z m V hm)
  clear hV
  go_wp2_with fail
  with_reducible refine CK.out.mono ?_
  rintro e w1 ⟨rfl, hb1⟩
  have HB1 := keepd (bCall HB.out hb1)
  clear hb1
  go_wp2
  go_ret
  exact ⟨rfl, HB1.out⟩

/-- A state, its octets one's own. -/
def GotO (w : World) (l : List UInt8) (n : Nat) (z : Int) (ov li : Bool) (e : Ending) (w' : World) : Prop :=
  ∃ A c, e = .returned (.agg #[.slice A n c, .int .i64 z, .bool ov, .bool li]) ∧ Own w' w.heap.size (.slice A n c) l ∧ Below w.heap.size w w'
theorem set1_own {W : World} {B b i : Nat} {v u : Value} {l : List UInt8} (h : Own W B v l) (hb : b < B) : Own (W.setCell ⟨b, i, none⟩ u) B v l := ownsRow_setCell_below (a := ⟨b, i, none⟩) h hb u
set_option maxHeartbeats 1000000 in
theorem own_any (A : Option Addr) (l : List UInt8) (n c : Nat) (z : Int) (ov li : Bool) (w : World) (hn : n = l.length) (hr : Rd w w.heap.size A l c) (hl : n ≤ 1000000) :
    Calls Tryd.prog 41 #[.agg #[.slice A n c, .int .i64 z, .bool ov, .bool li]] w (GotO w l n z ov li) := by
  have HR := keepd hr
  have HN := keepd hn
  clear hr hn
  go_enter Tryd.func41, Tryd.ntmps41
  go_upto_region 1 with fail
  generalize hV : (w.alloc (.cells #[.slice A n c, .int .i64 z, .bool ov, .bool li] 32)).alloc (.cells #[.slice none 0 0, .int .i64 0, .bool false, .bool false] 32) = V
  obtain ⟨H, H2, HB⟩ := st_new2 _ _ _ _ _ _ _ _ _ _ hV
  obtain ⟨k0, k1, k2, k3, _, _, _, _, kt⟩ := st_facts H.out
  have CK := keepd (clone_any A l n c V HN.out (HR.out.at_ HB.out) hl)
  clear hV
  go_wp2_with fail
  with_reducible refine CK.out.mono ?_
  rintro e w1 ⟨A1, c1, rfl, ho, hb1⟩
  have HB1 := keepd (bCall HB.out hb1)
  have H3 := keepd (SR.call H.out hb1 H.out.lt)
  have H4 := keepd (SR.call H2.out hb1 H2.out.lt)
  have HO := keepd ho
  obtain ⟨k0, k1, k2, k3, r0, r1, r2, r3, kt⟩ := st_facts H3.out
  have l1 := H.out.lt
  have l2 := H2.out.lt
  have L1 := keepd l1
  have L2 := keepd l2
  clear hb1 ho H H2 CK HB l1 l2
  go_upto_region 2 with fail
  generalize hV : w1.setCell ⟨w.heap.size, 0, none⟩ (.slice A1 n c1) = V2
  have HX : Hid (SR 32 V2 w.heap.size [.slice A1 n c1, .int .i64 z, .bool ov, .bool li]) := by rw [← hV]; exact H3.out.set 0 _
  have HY : Hid (SR 32 V2 (w.heap.size + 1) [.slice none 0 0, .int .i64 0, .bool false, .bool false]) := by rw [← hV]; exact H4.out.far (by show w.heap.size + 1 ≠ w.heap.size; omega) _
  have HO2 : Hid (Own V2 V.heap.size (.slice A1 n c1) l) := by rw [← hV]; exact set1_own HO.out L1.out
  have HB2 : Hid (Below w.heap.size w V2) := by rw [← hV]; exact bSet HB1.out (Nat.le_refl _) _
  clear hV H3 H4 HO HB1 k0 k1 k2 k3 r0 r1 r2 r3 kt
  obtain ⟨k0, k1, k2, k3, _, _, _, _, kt⟩ := st_facts HX.out
  obtain ⟨j0, j1, j2, j3, r0, r1, r2, r3, jt⟩ := st_facts HY.out
  go_wp2_with fail
  refine bodyPost_ret (v := .agg #[.slice A1 n c1, .int .i64 z, .bool ov, .bool li]) (by simp [results, Tryd.results41, go_sem, j0, j1, j2, j3]) rfl ?_
  refine ⟨A1, c1, rfl, ?_, ?_⟩
  · exact (set1_own (set1_own (set1_own (set1_own HO2.out L2.out) L2.out) L2.out) L2.out).base (by have := L1.out; omega)
  · exact bSet (bSet (bSet (bSet HB2.out (by omega) _) (by omega) _) (by omega) _) (by omega) _

end Go.Proofs.YtlfmbfecajhffaaDoor
