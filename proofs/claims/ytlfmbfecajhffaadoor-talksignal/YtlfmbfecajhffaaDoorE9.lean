/-
  The contract of keys that are taken: what begins, and a state that may not be. No conditions beyond those each theorem states.
-/
import Derived.Test.YtlfmbfecajhffaaDoorE8
namespace Go.Proofs.YtlfmbfecajhffaaDoor
open Go.RowKit
set_option maxRecDepth 100000

attribute [local go_sem ↓] ex_ld25 ex_st25 ex_al25 ex_bu25 ex_ix25 ex_eq25 ex_ne25 ex_eq23 ex_ne23 ex_ld25o ex_st65 ex_al65 ex_bu65 ex_bu65s
attribute [local go_sem] ptrB_at okPtr_at aggC_at agg62 agg69 isC_at isT_at eqV_t eqV_c isRow_new isRow_new65 World.setRow_alloc_new ptr4_at okPtr4_at cutT_at isI_at isS_at bW_at bWs_at

/-- What is answered of keys: a state, events, bells. -/
def GotP (w : World) (l : List UInt8) (n : Nat) (z : Int) (ov li : Bool) (es : List Ev) (m : Nat) (be : Int) (e : Ending) (w' : World) : Prop :=
  ∃ A c B d L, e = .returned (.tuple #[.agg #[.slice A n c, .int .i64 z, .bool ov, .bool li], .slice B m d, .int .i64 be]) ∧ L.map EvM.abs = es ∧ L.length = m ∧ Rd w' w'.heap.size A l c ∧ RdE w' B L d ∧ Below w.heap.size w w'

theorem play_new (w : World) (X : Tb) (a b x y a' b' x' y' : Value) (V : World) (hV : ((w.alloc (.cells (cs X).toArray 25)).alloc (.cells #[a, b, x, y] 32)).alloc (.cells #[a', b', x', y'] 32) = V) :
    Hid (TB V w.heap.size X) ∧ Hid (SR 32 V (w.heap.size + 1) [a, b, x, y]) ∧ Hid (SR 32 V (w.heap.size + 2) [a', b', x', y']) ∧ Hid (Below w.heap.size w V) := by
  obtain ⟨h1, h2, h3⟩ := st_new2 (w.alloc (.cells (cs X).toArray 25)) _ _ _ _ _ _ _ _ _ hV
  rw [World.size_alloc] at h1 h2
  refine ⟨?_, h1, h2, upA h3.out⟩
  exact SR.call (heap_alloc_new w _) h3.out (by simp)
theorem sP {V W : World} {p g : Nat} {X : Tb} {a b x y : Value} (h : SR 32 V p [a, b, x, y] ∧ TB V g X) (hb : Below V.heap.size V W) :
    W.cell? ⟨p, 0, none⟩ = some a ∧ W.cell? ⟨p, 1, none⟩ = some b ∧ W.cell? ⟨p, 2, none⟩ = some x ∧ W.cell? ⟨p, 3, none⟩ = some y ∧ rowOf W g = (cs X).toArray ∧ isRow W 25 g 62 = true ∧ Below V.heap.size V W := by
  have h1 := SR.call h.1 hb h.1.lt
  have h2 := TB.facts (SR.call h.2 hb (SR.lt h.2))
  exact ⟨h1.cell 0, h1.cell 1, h1.cell 2, h1.cell 3, h2.1, h2.2, hb⟩

/-- What works, new. -/
def MidW (V : World) (b : Nat) (l : List UInt8) (n : Nat) (z : Int) (ov li : Bool) (X : Tb) (room : Int) (A : Option Addr) (c : Nat) (wx : World) : Prop :=
  WB wx b A n c z ov li X room (.slice none 0 0) 0 ∧ Rd wx wx.heap.size A l c ∧ Far wx b (.slice none 0 0) A ∧ Below V.heap.size V wx ∧ V.heap.size ≤ b
abbrev wk0 : List Value := wk none 0 0 0 false false zT 0 (.slice none 0 0) 0
theorem midw_a {V w4 : World} {B n c : Nat} {l : List UInt8} {A : Option Addr} {z : Int} {ov li : Bool} {X : Tb} {room : Int} (ho : Own w4 B (.slice A n c) l) (_ : V.heap.size ≤ B) (hb : Below V.heap.size V w4) (_ : n = l.length) :
    MidW V w4.heap.size l n z ov li X room A c (w4.alloc (.cells (wk A n c z ov li X room (.slice none 0 0) 0).toArray 84)) := by
  have ho2 := ho.alloc (.cells (wk A n c z ov li X room (.slice none 0 0) 0).toArray 84)
  refine ⟨heap_alloc_new w4 _, ho2.rdOf, fun ad had => ?_, bAlloc hb _, hb.size⟩
  subst had
  rcases ho.2 with ⟨e, _⟩ | ⟨g, cap, cur, e, hbb, hg, _⟩
  · cases e
  · injection e with e1 _ _
    injection e1 with e1
    subst e1
    have hl : g < w4.heap.size := (Array.getElem?_eq_some_iff.1 hg).1
    exact ⟨by show g < _; simp; omega, by show g ≠ w4.heap.size; omega, by simp [Value.ownBlock]⟩
theorem row_size (w : World) (b : Nat) (cs : Array Value) : (w.setRow b cs).heap.size = w.heap.size := by simp [World.setRow]
theorem zw_of {V w4 : World} (hb : Below (V.alloc (.cells wk0.toArray 84)).drew.heap.size (V.alloc (.cells wk0.toArray 84)).drew w4) : rowOf w4 V.heap.size = wk0.toArray ∧ isRow w4 84 V.heap.size 69 = true := by
  have h0 : SR 84 (V.alloc (.cells wk0.toArray 84)).drew V.heap.size wk0 := heap_alloc_new V _
  exact WB.facts (SR.call h0 hb h0.lt)
theorem midw_b {V w4 : World} {n c : Nat} {l : List UInt8} {A : Option Addr} {z : Int} {ov li : Bool} {X : Tb} {room : Int} (ho : Own w4 (V.alloc (.cells wk0.toArray 84)).drew.heap.size (.slice A n c) l) (hb : Below (V.alloc (.cells wk0.toArray 84)).drew.heap.size (V.alloc (.cells wk0.toArray 84)).drew w4) (_ : n = l.length) :
    MidW V V.heap.size l n z ov li X room A c (w4.setRow V.heap.size (wk A n c z ov li X room (.slice none 0 0) 0).toArray) := by
  have hs : (V.alloc (.cells wk0.toArray 84)).drew.heap.size = V.heap.size + 1 := World.size_alloc _ _
  have h0 : SR 84 (V.alloc (.cells wk0.toArray 84)).drew V.heap.size wk0 := heap_alloc_new V _
  have hf : Far w4 V.heap.size (.slice none 0 0) A := ho.far (by rw [hs]; omega) (by simp [Value.ownBlock])
  refine ⟨SR.row (SR.call h0 hb h0.lt) _, ?_, fun ad had => ?_, bRow (upD hb) (Nat.le_refl _) _, Nat.le_refl _⟩
  · exact ho.rdOf.of_block (by rw [row_size]; exact Nat.le_refl _) fun ad had => setRow_other _ _ _ _ (hf ad had).2.1
  · rw [row_size]
    exact hf ad had

/-- A state in the block g, stored whole. -/
def set4 (w : World) (g : Nat) (a b x y : Value) : World := (((w.setCell ⟨g, 0, none⟩ a).setCell ⟨g, 1, none⟩ b).setCell ⟨g, 2, none⟩ x).setCell ⟨g, 3, none⟩ y
theorem set4_heap (w : World) (g : Nat) (a b x y : Value) {k : Nat} (hk : k ≠ g) : (set4 w g a b x y).heap[k]? = w.heap[k]? := by
  unfold set4
  rw [Below.heap_setCell _ ⟨g, 3, none⟩ _ k hk, Below.heap_setCell _ ⟨g, 2, none⟩ _ k hk, Below.heap_setCell _ ⟨g, 1, none⟩ _ k hk, Below.heap_setCell _ ⟨g, 0, none⟩ _ k hk]
theorem set4_size (w : World) (g : Nat) (a b x y : Value) : (set4 w g a b x y).heap.size = w.heap.size := by simp [set4, World.setCell]
theorem set4_below {B : Nat} {w W : World} {g : Nat} {a b x y : Value} (h : Below B w W) (hg : B ≤ g) : Below B w (set4 W g a b x y) :=
  (((h.setCell (p := ⟨g, 0, none⟩) hg _).setCell (p := ⟨g, 1, none⟩) hg _).setCell (p := ⟨g, 2, none⟩) hg _).setCell (p := ⟨g, 3, none⟩) hg _
theorem set4_sr {t : TypeId} {w : World} {g : Nat} {a b x y a' b' x' y' : Value} (h : SR t w g [a', b', x', y']) : SR t (set4 w g a b x y) g [a, b, x, y] := (((h.set 0 a).set 1 b).set 2 x).set 3 y
/-- Octets never lie in a state's block. -/
theorem Rd.setSt {w w' : World} {A A' : Option Addr} {l : List UInt8} {c g n' c' : Nat} {z : Int} {x y : Bool} (h : Rd w w.heap.size A l c) (H : SR 32 w g [.slice A' n' c', .int .i64 z, .bool x, .bool y]) (hs : w.heap.size ≤ w'.heap.size) (hh : ∀ k, k ≠ g → w'.heap[k]? = w.heap[k]?) : Rd w' w'.heap.size A l c := by
  refine ⟨h.1, h.2.1, fun hl => ?_, fun ad had j u hu => ?_⟩
  · obtain ⟨ad, e, hb⟩ := h.2.2.1 hl
    exact ⟨ad, e, Nat.lt_of_lt_of_le hb hs⟩
  · by_cases hg : ad.block = g
    · exfalso
      obtain ⟨hj, _⟩ := List.getElem?_eq_some_iff.1 hu
      obtain ⟨b, off, e, _, hc⟩ := h.form hj
      rw [had] at e
      injection e with e
      subst e
      simp only at hg
      subst hg
      rw [H.cell] at hc
      generalize off + j = i at hc
      match i, hc with
      | 0, hc => simp at hc
      | 1, hc => simp at hc
      | 2, hc => simp at hc
      | 3, hc => simp at hc
      | i + 4, hc => simp at hc
    · rw [World.cell?_of_block (w := w) (by rw [blk_add]; exact hh _ hg)]
      exact h.2.2.2 ad had j u hu
theorem nilE (w : World) : RdE w none [] 0 := ⟨by simp, by simp, fun e => absurd rfl e, fun x hx => by simp at hx⟩

set_option maxHeartbeats 8000000 in
theorem play_bad (X : Tb) (room : Int) (A : Option Addr) (l : List UInt8) (n c : Nat) (z : Int) (ov li : Bool) (K : Option Addr) (k d : Nat) (w : World) (hn : n = l.length) (hr : Rd w w.heap.size A l c) (hl : n ≤ 100000) (hm : mayV n z = false) :
    Calls Tryd.prog 21 #[tv X, .int .i64 room, .agg #[.slice A n c, .int .i64 z, .bool ov, .bool li], .slice K k d] w (GotP w l n z ov li [] 0 0) := by
  have HR := keepd hr
  have HN := keepd hn
  clear hr hn
  go_enter Tryd.func21, Tryd.ntmps21
  go_upto_region 1 with fail
  generalize hV : ((w.alloc (.cells (cs X).toArray 25)).alloc (.cells #[.slice A n c, .int .i64 z, .bool ov, .bool li] 32)).alloc (.cells #[.slice none 0 0, .int .i64 0, .bool false, .bool false] 32) = V
  obtain ⟨HT, HS, HZ, HB⟩ := play_new _ _ _ _ _ _ _ _ _ _ _ hV
  obtain ⟨k0, k1, k2, k3, _, _, _, _, kt⟩ := st_facts HS.out
  obtain ⟨q0, q1⟩ := TB.facts HT.out
  have htl : w.heap.size < V.heap.size := HT.out.lt
  have FS := keepd (And.intro HS.out HT.out)
  have HO := keepd fun (W : World) (hb : Below V.heap.size V W) => own_any A l n c z ov li W HN.out ((HR.out.at_ HB.out).at_ hb) (by omega)
  clear hV
  go_cut [11] from 14 to 19 (fun s11 wx => ∃ (b : Nat) (A1 : Option Addr) (c1 : Nat), s11 = .pointer (some ⟨b, 0, none⟩) ∧ Hid (MidW V b l n z ov li X room A1 c1 wx))
  case first =>
    refine wp_region_held_drew (S := fun W => W.cell? ⟨w.heap.size + 1, 0, none⟩ = some (.slice A n c) ∧ W.cell? ⟨w.heap.size + 1, 1, none⟩ = some (.int .i64 z) ∧ W.cell? ⟨w.heap.size + 1, 2, none⟩ = some (.bool ov) ∧ W.cell? ⟨w.heap.size + 1, 3, none⟩ = some (.bool li) ∧ rowOf W w.heap.size = (cs X).toArray ∧ isRow W 25 w.heap.size 62 = true ∧ Below V.heap.size V W) (by kernel_rfl) (sP FS.out (Below.refl _ _).drew) (fun hHeld => ?_)
    refine wpAnyH_take (i := 0) (oi := { dst := some 14, op := Op.load 32 (Operand.tmp 6), type := 32, pos := "editor.go:46", after := #[], guard := none }) (v := .agg #[.slice A n c, .int .i64 z, .bool ov, .bool li]) rfl (by kernel_rfl) (by kernel_rfl) (by kernel_rfl) (fun _ _ _ h => h) (Or.inl ⟨by rfl, fun W hW => ?_⟩) hHeld ?_
    · obtain ⟨q0, q1, q2, q3, q4, q5, q6⟩ := hW
      go_simp
    simp only [Act.put, List.setIfInBounds_toArray, List.set_cons_zero, List.set_cons_succ]
    refine wpAnyH_take (i := 2) (oi := { dst := some 16, op := Op.load 25 (Operand.tmp 4), type := 25, pos := "editor.go:46", after := #[], guard := none }) (v := tv X) rfl (by kernel_rfl) (by kernel_rfl) (by kernel_rfl) (fun _ _ _ h => h) (Or.inl ⟨by rfl, fun W hW => ?_⟩) hHeld ?_
    · obtain ⟨q0, q1, q2, q3, q4, q5, q6⟩ := hW
      go_simp
    simp only [Act.put, List.setIfInBounds_toArray, List.set_cons_zero, List.set_cons_succ]
    refine wpAnyH_take (i := 3) (oi := { dst := some 17, op := Op.move (Operand.tmp 1), type := 3, pos := "editor.go:46", after := #[], guard := none }) (v := .int .i64 room) rfl (by kernel_rfl) (by kernel_rfl) (by kernel_rfl) (fun _ _ _ h => h) (Or.inl ⟨by rfl, fun W hW => ?_⟩) hHeld ?_
    · obtain ⟨q0, q1, q2, q3, q4, q5, q6⟩ := hW
      go_simp
    simp only [Act.put, List.setIfInBounds_toArray, List.set_cons_zero, List.set_cons_succ]
    refine wpAnyH_ready (rs := [1, 5]) (by kernel_rfl) (by simp) ?_
    refine AllReadyH.cons (o := { dst := some 15, op := Op.call { callee := Callee.value (Operand.func 41), args := #[Operand.tmp 14], argTypes := #[32] }, type := 32, pos := "editor.go:46", after := #[{ on := 0, ground := Ground.data }], guard := none }) rfl (fun K hK => ?_) (AllReadyH.cons (o := { dst := some 11, op := Op.alloc 84, type := 0, pos := "editor.go:46", after := #[], guard := none }) rfl (fun K hK => ?_) AllReadyH.nil)
    · go_simp
      with_reducible refine (HO.out _ (Below.refl _ _).drew).mono ?_
      rintro e w4 ⟨A1, c1, rfl, ho, hb4⟩
      have hbb := noDrew hb4
      have HMid := keepd (midw_a (V := V) (z := z) (ov := ov) (li := li) (X := X) (room := room) ho (Nat.le_refl _) hbb HN.out)
      clear ho hb4
      go_wp2_with fail
      refine hK.out _ _ (sP FS.out hbb) (fun hHeld2 => ?_)
      clear hK K hHeld
      have hHeld := hHeld2
      clear hHeld2
      try simp only [Act.put, List.setIfInBounds_toArray, List.set_cons_zero, List.set_cons_succ]
      refine wpAnyH_take (i := 4) (oi := { dst := some 18, op := Op.build 84 #[(0, Operand.tmp 15), (1, Operand.tmp 16), (2, Operand.tmp 17)], type := 84, pos := "editor.go:46", after := #[{ on := 1, ground := Ground.data }, { on := 2, ground := Ground.data }, { on := 3, ground := Ground.data }], guard := none }) (v := .agg (wk A1 n c1 z ov li X room (.slice none 0 0) 0).toArray) rfl (by kernel_rfl) (by kernel_rfl) (by kernel_rfl) (fun _ _ _ h => h) (Or.inl ⟨by rfl, fun W hW => ?_⟩) hHeld ?_
      · obtain ⟨q0, q1, q2, q3, q4, q5, q6⟩ := hW
        go_simp
      simp only [Act.put, List.setIfInBounds_toArray, List.set_cons_zero, List.set_cons_succ]
      refine wpAnyH_ready (rs := [5]) (by kernel_rfl) (by simp) ?_
      refine AllReadyH.cons (o := { dst := some 11, op := Op.alloc 84, type := 0, pos := "editor.go:46", after := #[], guard := none }) rfl (fun K hK => ?_) AllReadyH.nil
      go_simp
      refine hK.out _ _ (sP FS.out (bAlloc hbb _)) (fun hHeld2 => ?_)
      clear hK K hHeld
      have hHeld := hHeld2
      clear hHeld2
      try simp only [Act.put, List.setIfInBounds_toArray, List.set_cons_zero, List.set_cons_succ]
      refine wpAnyH_ready (rs := [6]) (by kernel_rfl) (by simp) ?_
      refine AllReadyH.cons (o := { dst := none, op := Op.store 84 (Operand.tmp 11) (Operand.tmp 18), type := 0, pos := "editor.go:46", after := #[{ on := 5, ground := Ground.data }, { on := 4, ground := Ground.data }, { on := 1, ground := Ground.chain }, { on := 0, ground := Ground.phase }, { on := 1, ground := Ground.phase }, { on := 2, ground := Ground.phase }, { on := 3, ground := Ground.phase }, { on := 4, ground := Ground.phase }, { on := 5, ground := Ground.phase }], guard := none }) rfl (fun K hK => ?_) AllReadyH.nil
      go_simp
      refine hK.out _ _ (sP FS.out (bAlloc hbb _)) (fun hHeld2 => ?_)
      clear hK K hHeld
      have hHeld := hHeld2
      clear hHeld2
      try simp only [Act.put, List.setIfInBounds_toArray, List.set_cons_zero, List.set_cons_succ]
      refine wpAnyH_done (by kernel_rfl) ?_ _
      go_wp2_with fail
      go_meet
      exact ⟨_, _, _, rfl, HMid⟩
    · go_simp
      refine hK.out _ _ (sP FS.out (bAlloc (Below.refl _ _) _).drew) (fun hHeld2 => ?_)
      clear hK K hHeld
      have hHeld := hHeld2
      clear hHeld2
      try simp only [Act.put, List.setIfInBounds_toArray, List.set_cons_zero, List.set_cons_succ]
      refine wpAnyH_ready (rs := [1]) (by kernel_rfl) (by simp) ?_
      refine AllReadyH.cons (o := { dst := some 15, op := Op.call { callee := Callee.value (Operand.func 41), args := #[Operand.tmp 14], argTypes := #[32] }, type := 32, pos := "editor.go:46", after := #[{ on := 0, ground := Ground.data }], guard := none }) rfl (fun K hK => ?_) AllReadyH.nil
      go_simp
      with_reducible refine (HO.out _ (bAlloc (Below.refl _ _) _).drew).mono ?_
      rintro e w4 ⟨A1, c1, rfl, ho, hb4⟩
      have hbb := upD hb4
      have HMid := keepd (midw_b (z := z) (ov := ov) (li := li) (X := X) (room := room) ho hb4 HN.out)
      obtain ⟨m0, m1⟩ := zw_of hb4
      clear ho hb4
      go_wp2_with fail
      refine hK.out _ _ (sP FS.out hbb) (fun hHeld2 => ?_)
      clear hK K hHeld
      have hHeld := hHeld2
      clear hHeld2
      try simp only [Act.put, List.setIfInBounds_toArray, List.set_cons_zero, List.set_cons_succ]
      refine wpAnyH_take (i := 4) (oi := { dst := some 18, op := Op.build 84 #[(0, Operand.tmp 15), (1, Operand.tmp 16), (2, Operand.tmp 17)], type := 84, pos := "editor.go:46", after := #[{ on := 1, ground := Ground.data }, { on := 2, ground := Ground.data }, { on := 3, ground := Ground.data }], guard := none }) (v := .agg (wk A1 n c1 z ov li X room (.slice none 0 0) 0).toArray) rfl (by kernel_rfl) (by kernel_rfl) (by kernel_rfl) (fun _ _ _ h => h) (Or.inl ⟨by rfl, fun W hW => ?_⟩) hHeld ?_
      · obtain ⟨q0, q1, q2, q3, q4, q5, q6⟩ := hW
        go_simp
      simp only [Act.put, List.setIfInBounds_toArray, List.set_cons_zero, List.set_cons_succ]
      refine wpAnyH_ready (rs := [6]) (by kernel_rfl) (by simp) ?_
      refine AllReadyH.cons (o := { dst := none, op := Op.store 84 (Operand.tmp 11) (Operand.tmp 18), type := 0, pos := "editor.go:46", after := #[{ on := 5, ground := Ground.data }, { on := 4, ground := Ground.data }, { on := 1, ground := Ground.chain }, { on := 0, ground := Ground.phase }, { on := 1, ground := Ground.phase }, { on := 2, ground := Ground.phase }, { on := 3, ground := Ground.phase }, { on := 4, ground := Ground.phase }, { on := 5, ground := Ground.phase }], guard := none }) rfl (fun K hK => ?_) AllReadyH.nil
      go_simp
      refine hK.out _ _ (sP FS.out (bRow hbb (Nat.le_refl _) _)) (fun hHeld2 => ?_)
      clear hK K hHeld
      have hHeld := hHeld2
      clear hHeld2
      try simp only [Act.put, List.setIfInBounds_toArray, List.set_cons_zero, List.set_cons_succ]
      refine wpAnyH_done (by kernel_rfl) ?_ _
      go_wp2_with fail
      go_meet
      exact ⟨_, _, _, rfl, HMid⟩
  case rest =>
    obtain ⟨b, A1, c1, rfl, HMid⟩ := hcut
    obtain ⟨V3, hV3⟩ : ∃ V3, V3 = wc := ⟨_, rfl⟩
    subst hV3
    have HB3 := keepd (bCall HB.out HMid.out.2.2.2.1)
    have HS3 := keepd (SR.call HS.out HMid.out.2.2.2.1 HS.out.lt)
    have HZ3 := keepd (SR.call HZ.out HMid.out.2.2.2.1 HZ.out.lt)
    obtain ⟨k0, k1, k2, k3, _, _, _, _, kt⟩ := st_facts HS3.out
    have hbl : w.heap.size + 2 < b := Nat.lt_of_lt_of_le HZ.out.lt HMid.out.2.2.2.2
    clear FS HO q0 q1 htl HT HS
    have CK := keepd (echeck_any A n c z ov li false V3 hm)
    clear hm
    go_wp2_with fail
    with_reducible refine CK.out.mono ?_
    rintro e w5 ⟨rfl, hb5⟩
    have HB5 := keepd (bCall HB3.out hb5)
    have HW5 := keepd (SR.call HMid.out.1 hb5 (SR.lt HMid.out.1))
    have HR5 := keepd (HMid.out.2.1.at_ hb5)
    have HZ5 := keepd (SR.call HZ3.out hb5 HZ3.out.lt)
    obtain ⟨x0, x1, x2, x3, x66, x67, x68⟩ := WB.cells HW5.out
    obtain ⟨j0, j1, j2, j3, r0, r1, r2, r3, jt⟩ := st_facts HZ5.out
    clear hb5 CK k0 k1 k2 k3 kt HS3 HZ3 HB3 x66 x67 x68
    go_wp2_with fail
    refine bodyPost_ret (v := .tuple #[.agg #[.slice A1 n c1, .int .i64 z, .bool ov, .bool li], .slice none 0 0, .int .i64 0]) (by simp [results, Tryd.results21, go_sem, j0, j1, j2, j3]) rfl ?_
    refine ⟨A1, c1, none, 0, [], rfl, rfl, rfl, ?_, nilE _, set4_below HB5.out (by omega)⟩
    exact HR5.out.setSt (w' := set4 w5 (w.heap.size + 2) (.slice A1 n c1) (.int .i64 z) (.bool ov) (.bool li)) HZ5.out (by rw [set4_size]; exact Nat.le_refl _) fun k hk => set4_heap _ _ _ _ _ _ hk

end Go.Proofs.YtlfmbfecajhffaaDoor
