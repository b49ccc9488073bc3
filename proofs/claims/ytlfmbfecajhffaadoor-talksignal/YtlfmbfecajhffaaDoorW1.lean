/-
  A desk in memory; keys, whatever the state; rows of events that are put together. No conditions beyond those each theorem states.
-/
import Derived.Test.YtlfmbfecajhffaaDoorA6
import Derived.Test.YtlfmbfecajhffaaDoorA15
namespace Go.Proofs.YtlfmbfecajhffaaDoor
open Go.RowKit
set_option maxRecDepth 100000

attribute [local go_sem ↓] ex_ld25 ex_st25 ex_al25 ex_bu25 ex_ix25 ex_eq25 ex_ne25 ex_eq23 ex_ne23 ex_ld25o ex_st65 ex_al65 ex_bu65 ex_bu65s
attribute [local go_sem] ptrB_at okPtr_at aggC_at agg62 agg69 isC_at isT_at eqV_t eqV_c isRow_new isRow_new65 World.setRow_alloc_new ptr4_at okPtr4_at cutT_at isI_at isS_at bW_at bWs_at

/-- A desk's cells: a table, room. -/
def dk (X : Tb) (room : Int) : List Value := cs X ++ [.int .i64 room]
theorem dk_len (X : Tb) (room : Int) : (dk X room).length = 63 := by simp [dk, cs_len]
theorem dk_end (X : Tb) (room : Int) (i : Nat) : (dk X room)[62 + i]? = ([.int .i64 room] : List Value)[i]? := by
  unfold dk
  rw [List.getElem?_append_right (by rw [cs_len]; omega), cs_len]
  congr 1
  omega
abbrev DK (W : World) (b : Nat) (X : Tb) (room : Int) : Prop := SR 27 W b (dk X room)
theorem DK.facts {W : World} {b : Nat} {X : Tb} {room : Int} (h : DK W b X room) :
    (rowOf W b = (dk X room).toArray ∧ isRow W 27 b 63 = true) ∧ W.cell? ⟨b, 62, none⟩ = some (.int .i64 room) :=
  ⟨SR.facts h 63 (dk_len ..), (SR.cell h 62).trans (dk_end X room 0)⟩
/-- The table out of a desk. -/
def ptrD : Value → Nat
  | .pointer (some ⟨b, 0, none⟩) => b
  | _ => 0
def okPtrD (W : World) : Value → Bool
  | .pointer (some ⟨b, 0, none⟩) => isRow W 27 b 63
  | _ => false
theorem ptrD_at (b : Nat) : ptrD (.pointer (some ⟨b, 0, none⟩)) = b := rfl
theorem okPtrD_at (W : World) (b : Nat) : okPtrD W (.pointer (some ⟨b, 0, none⟩)) = isRow W 27 b 63 := rfl
theorem okPtrD_eq {W : World} {v : Value} (h : okPtrD W v = true) : v = .pointer (some ⟨ptrD v, 0, none⟩) ∧ isRow W 27 (ptrD v) 63 = true := by
  unfold okPtrD at h
  split at h
  · exact ⟨rfl, h⟩
  · cases h
def cutD (row : Array Value) : Array Value := (row.toList.take 62).toArray
theorem cutD_at (X : Tb) (room : Int) : cutD (dk X room).toArray = (cs X).toArray := by
  unfold cutD dk
  rw [List.take_left' (cs_len X)]
theorem ex_ld25d (ρ : Operand → Value) (dst : Option Tmp) (x : Operand) (ty : TypeId) (pos : String) (af : Array Edge) (gd : Option (Nat × Bool)) (W : World) (h : okPtrD W (ρ x) = true) :
    Sem.run Tryd.prog (execOp ρ ⟨dst, .load 25 x, ty, pos, af, gd⟩) W = .ok (.value (.agg (cutD (rowOf W (ptrD (ρ x)))))) W := by
  obtain ⟨h1, h2⟩ := okPtrD_eq h
  obtain ⟨h3, h4⟩ := isRow_sr h2
  unfold execOp
  simp only []
  rw [h1]
  simp only [Instr.loadAt, Instr.sureAddr, Sem.run_bind, Sem.run_pure, Result.andThen_ok, ptrD_at]
  generalize rowOf W (ptrD (ρ x)) = row at h3 h4 ⊢
  generalize ptrD (ρ x) = b at h3 h4 ⊢
  have hlen : (row.toList.take 62).length = 62 := by simp [h4]
  have hl := run_loadCells_list (P := Tryd.prog) (w := W) ⟨b, 0, none⟩ (row.toList.take 62) (fun j v hv => by
    rw [add_lit0, cell_of_row W b j row 27 (0, 0) h3]
    rw [List.getElem?_take] at hv
    split at hv
    · simpa using hv
    · cases hv)
  rw [hlen] at hl
  have hagg : ∀ W, (isAgg 25).run Tryd.prog W = .ok true W := fun W => by kernel_rfl
  have hsz : ∀ W, (sizeOf 25).run Tryd.prog W = .ok 62 W := fun W => by kernel_rfl
  simp [loadVar, Sem.run_bind, hagg, hsz, hl, cutD]
theorem desk_new (w : World) (cs : List Value) (V : World) (hV : w.alloc (.cells cs.toArray 27) = V) : Hid (SR 27 V w.heap.size cs) ∧ Hid (Below w.heap.size w V) := by
  subst hV
  exact ⟨SR.new 27 w _, bAlloc (Below.refl _ _) _⟩

/-- What comes of keys, whatever the state. -/
structure RG where
  l : List UInt8
  z : Int
  ov : Bool
  li : Bool
  es : List Ev
  n : Nat
def ofRes (r : Res) : RG := ⟨r.s.l, (r.s.t : Int), r.s.ov, r.s.li, r.es, r.n⟩
def playG (X : Tb) (room : Int) (l : List UInt8) (z : Int) (ov li : Bool) (us : List UInt8) : RG :=
  if mayV l.length z then ofRes (playE X room ⟨⟨l, z.toNat, ov, li⟩, [], 0⟩ us) else ⟨l, z, ov, li, [], 0⟩
theorem playG_bad {X : Tb} {room : Int} {l : List UInt8} {z : Int} {ov li : Bool} {us : List UInt8} (h : mayV l.length z = false) : playG X room l z ov li us = ⟨l, z, ov, li, [], 0⟩ := if_neg (by rw [h]; decide)
theorem playG_good {X : Tb} {room : Int} {l : List UInt8} {z : Int} {ov li : Bool} {us : List UInt8} (h : mayV l.length z = true) : playG X room l z ov li us = ofRes (playE X room ⟨⟨l, z.toNat, ov, li⟩, [], 0⟩ us) := if_pos h
theorem mayV_ok {l : List UInt8} {z : Int} {ov li : Bool} (h : mayV l.length z = true) : (Ed.ok ⟨l, z.toNat, ov, li⟩) ∧ ((z.toNat : Nat) : Int) = z := by
  obtain ⟨h1, t, rfl, h2⟩ := mayV_inv h
  exact ⟨⟨by simpa using h2, h1⟩, by simp⟩
theorem ok_mayV {s : Ed} (h : s.ok) : mayV s.l.length (s.t : Int) = true := mayV_nat h.2 h.1
theorem playG_may (X : Tb) (room : Int) (l : List UInt8) (z : Int) (ov li : Bool) (us : List UInt8) : mayV (playG X room l z ov li us).l.length (playG X room l z ov li us).z = mayV l.length z := by
  cases h : mayV l.length z
  · rw [playG_bad h]; exact h
  · rw [playG_good h]
    exact ok_mayV (playE_ok (mayV_ok h).1)
theorem playG_len (X : Tb) (room : Int) (l : List UInt8) (z : Int) (ov li : Bool) (us : List UInt8) (hl : l.length ≤ 100000) : (playG X room l z ov li us).l.length ≤ 100000 ∧ (playG X room l z ov li us).es.length ≤ us.length ∧ (playG X room l z ov li us).n ≤ us.length := by
  cases h : mayV l.length z
  · rw [playG_bad h]; exact ⟨hl, by simp, by simp⟩
  · rw [playG_good h]
    have h1 := playE_few X room us ⟨⟨l, z.toNat, ov, li⟩, [], 0⟩
    have h2 := (playE_ok (X := X) (room := room) (us := us) (r := ⟨⟨l, z.toNat, ov, li⟩, [], 0⟩) (mayV_ok h).1).2
    simp only [List.length_nil, Nat.zero_add] at h1
    exact ⟨Nat.le_trans h2 (by omega), h1.1, h1.2⟩
theorem playG_two (X : Tb) (room : Int) (l : List UInt8) (z : Int) (ov li : Bool) (us vs : List UInt8) : playG X room l z ov li (us ++ vs) =
    ⟨(playG X room (playG X room l z ov li us).l (playG X room l z ov li us).z (playG X room l z ov li us).ov (playG X room l z ov li us).li vs).l, (playG X room (playG X room l z ov li us).l (playG X room l z ov li us).z (playG X room l z ov li us).ov (playG X room l z ov li us).li vs).z, (playG X room (playG X room l z ov li us).l (playG X room l z ov li us).z (playG X room l z ov li us).ov (playG X room l z ov li us).li vs).ov, (playG X room (playG X room l z ov li us).l (playG X room l z ov li us).z (playG X room l z ov li us).ov (playG X room l z ov li us).li vs).li,
     (playG X room l z ov li us).es ++ (playG X room (playG X room l z ov li us).l (playG X room l z ov li us).z (playG X room l z ov li us).ov (playG X room l z ov li us).li vs).es, (playG X room l z ov li us).n + (playG X room (playG X room l z ov li us).l (playG X room l z ov li us).z (playG X room l z ov li us).ov (playG X room l z ov li us).li vs).n⟩ := by
  have hm := playG_may X room l z ov li us
  cases h : mayV l.length z
  · rw [h] at hm
    rw [playG_bad h]
    simp only [playG_bad h]
    rfl
  · rw [h] at hm
    rw [playG_good h, playG_good hm]
    have e : playG X room l z ov li us = ofRes (playE X room ⟨⟨l, z.toNat, ov, li⟩, [], 0⟩ us) := playG_good h
    rw [e, playE_two]
    simp only [ofRes, Int.toNat_natCast]
theorem play_go (X : Tb) (room : Int) (A : Option Addr) (l : List UInt8) (n c : Nat) (z : Int) (ov li : Bool) (K : Option Addr) (us : List UInt8) (k d : Nat) (w : World) (hn : n = l.length) (hr : Rd w w.heap.size A l c) (hl : n ≤ 100000)
    (hk : k = us.length) (hu : Rd w w.heap.size K us d) (hus : k ≤ 50000) (r : RG) (hp : playG X room l z ov li us = r) (n' m : Nat) (hn' : r.l.length = n') (hm' : r.es.length = m) :
    Calls Tryd.prog 21 #[tv X, .int .i64 room, .agg #[.slice A n c, .int .i64 z, .bool ov, .bool li], .slice K k d] w (GotP w r.l n' r.z r.ov r.li r.es m (r.n : Int)) := by
  subst hp hn' hm'
  cases h : mayV l.length z
  · rw [playG_bad h]
    simp only [List.length_nil]
    rw [← hn]
    exact play_bad X room A l n c z ov li K k d w hn hr hl (by rw [hn]; exact h)
  · rw [playG_good h]
    have hq := mayV_ok (ov := ov) (li := li) h
    have := play_any X room A l n c z.toNat ov li K us k d w hn hr (by rw [hn]; exact hq.1.1) (by rw [hn]; exact hq.1.2) hk hu hus _ _ _ _ _ _ _ _ rfl rfl rfl
    rw [hq.2] at this
    exact this

theorem wpList_appEG (w : World) {ops : Array Oper} {rest : List Oper} {o : Oper} {a : Act} {Q : Exit → Act → World → Prop} (hw : Region.wanted o (yielded ops a.tmps) = true) (s x : Operand)
    (ho : o.op = .call { callee := .builtin .append, args := #[s, x], argTypes := #[53, 53] })
    (base : Nat) (v : Value) (L : List EvM) (hs : a.eval s = v) (hown : OwnE w base v L) (A : Option Addr) (m c : Nat) (M : List EvM) (hx : a.eval x = .slice A m c) (hm : m = M.length) (hr : RdE w A M c)
    (hlen : L.length + M.length ≤ 200000) (hbase : base ≤ w.heap.size)
    (h : ∀ v' w', OwnE w' base v' (L ++ M) → w.grownBy w' v.ownBlock → (v'.ownBlock = v.ownBlock ∨ v'.ownBlock = some w.heap.size) → wpList Tryd.prog ops Q rest (a.put o.dst v') w') : wpList Tryd.prog ops Q (o :: rest) a w := by
  unfold wpList
  rw [if_pos hw]
  obtain ⟨v', w', hrun, h2, h3, h4⟩ := run_appE w base o.type v L hown A m c M hm hr hlen hbase
  refine .inl ?_
  unfold Oper.wp execOp
  simp only [ho, resolve, invoke, builtin, Sem.run_bind, Sem.run_pure, Result.andThen_ok, List.map_toArray, List.map_cons, List.map_nil, hs, hx, hrun]
  exact h v' w' h2 h3 h4
theorem empty_ownE (w : World) (base : Nat) (h : base ≤ w.heap.size) : OwnE (w.alloc (.cells #[] 69)) base (.slice (some ⟨w.heap.size, 0, none⟩) 0 0) [] :=
  ⟨by simp, .inr ⟨w.heap.size, 0, #[], rfl, h, heap_alloc_new w _, Nat.le_refl _, by simp, by simp, by simp⟩⟩
theorem OwnE.belowE {w w' : World} {base : Nat} {v : Value} {L : List EvM} (hown : OwnE w base v L) (hg : w.grownBy w' v.ownBlock) (hbase : base ≤ w.heap.size) : Below base w w' :=
  (Below.refl _ _).grown hg hbase (fun k hk => (hown.ge k hk).1)

end Go.Proofs.YtlfmbfecajhffaaDoor
