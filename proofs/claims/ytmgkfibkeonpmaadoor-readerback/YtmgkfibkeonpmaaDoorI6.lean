/-
  Contracts over layer 3: layAll, Put, Size. No conditions beyond those each theorem states.
-/
import Derived.Test.YtmgkfibkeonpmaaDoorI5
namespace Go.Proofs.YtmgkfibkeonpmaaDoor
open Go.RowKit

/-- The slice value 'slice A L.length c' reads as the items L. -/
def RdI (w : World) (A : Option Addr) (L : List Itm) (c : Nat) : Prop :=
  L.length ≤ c ∧ c ≤ maxLen ∧
  (L ≠ [] → ∃ b off, A = some ⟨b, off, none⟩ ∧ b < w.heap.size ∧ ∀ (i : Nat) (h : i < L.length),
    w.cell? ⟨b, off + i * 4, none⟩ = some (.int .i64 L[i].k) ∧ w.cell? ⟨b, off + i * 4 + 1, none⟩ = some (.int .i64 L[i].a) ∧
    w.cell? ⟨b, off + i * 4 + 2, none⟩ = some (.int .i64 L[i].b) ∧ w.cell? ⟨b, off + i * 4 + 3, none⟩ = some (.slice L[i].A L[i].l.length L[i].c)) ∧
  ∀ x ∈ L, Rd w w.heap.size x.A x.l x.c

theorem RdI.at_ {w W : World} {A : Option Addr} {L : List Itm} {c : Nat} (h : RdI w A L c) (hb : Below w.heap.size w W) : RdI W A L c := by
  refine ⟨h.1, h.2.1, fun hne => ?_, fun x hx => (h.2.2.2 x hx).at_ hb⟩
  obtain ⟨b, off, e, hlt, hce⟩ := h.2.2.1 hne
  refine ⟨b, off, e, Nat.lt_of_lt_of_le hlt hb.size, fun i hi => ?_⟩
  obtain ⟨c0, c1, c2, c3⟩ := hce i hi
  exact ⟨(hb.cell (p := ⟨b, _, none⟩) hlt).trans c0, (hb.cell (p := ⟨b, _, none⟩) hlt).trans c1, (hb.cell (p := ⟨b, _, none⟩) hlt).trans c2, (hb.cell (p := ⟨b, _, none⟩) hlt).trans c3⟩

def Itm.may (x : Itm) : Bool := mayN x.k x.a x.b x.l.length
def Itm.lies (x : Itm) : List UInt8 := liesN x.k x.a x.b x.l
def allMay (L : List Itm) : Bool := L.all Itm.may
def liesAll (L : List Itm) : List UInt8 := L.flatMap Itm.lies

theorem liesAll_len (L : List Itm) (h : allMay L = true) : (liesAll L).length ≤ 1100 * L.length := by
  induction L with
  | nil => simp [liesAll]
  | cons x r ih =>
    unfold allMay at h ih
    rw [List.all_cons, Bool.and_eq_true] at h
    have h1 := ih h.2
    have h2 := liesN_len x.k x.a x.b x.l (mayN_len h.1)
    unfold liesAll at h1 ⊢
    rw [List.flatMap_cons, List.length_append, List.length_cons]
    have : (Itm.lies x).length = (liesN x.k x.a x.b x.l).length := rfl
    omega

theorem liesAll_succ (L : List Itm) (k : Nat) (h : k < L.length) : liesAll (L.take (k + 1)) = liesAll (L.take k) ++ L[k].lies := by
  unfold liesAll
  rw [List.take_succ_eq_append_getElem h, List.flatMap_append]
  simp only [List.flatMap_cons, List.flatMap_nil, List.append_nil]
theorem allMay_succ (L : List Itm) (k : Nat) (h : k < L.length) : allMay (L.take (k + 1)) = (allMay (L.take k) && L[k].may) := by
  unfold allMay
  rw [List.take_succ_eq_append_getElem h, List.all_append]
  simp only [List.all_cons, List.all_nil, Bool.and_true]

theorem allMay_take {L : List Itm} (h : allMay L = true) (j : Nat) : allMay (L.take j) = true := by
  unfold allMay at h ⊢
  rw [List.all_eq_true] at h ⊢
  exact fun x hx => h x (List.mem_of_mem_take hx)

/-- What layAll leaves. -/
def LaidAll (I : List (Nat × Obj) → List UInt8 → World → Prop) (L : List Itm) (e : Ending) (w' : World) : Prop :=
  ∃ K' L', e = .returned (.int .i64 (if allMay L then 0 else 1)) ∧ I K' L' w' ∧ (allMay L = true → L' = liesAll L)

set_option maxHeartbeats 1000000 in
theorem layAll_any {W : World} {fn p : Nat} {I : List (Nat × Obj) → List UInt8 → World → Prop} (P : Adder W fn p I) (A : Option Addr) (L : List Itm) (n c : Nat) (w : World) (hn : n = L.length) (hl : n ≤ 300) (hr : RdI W A L c) (K : List (Nat × Obj)) (h : I K [] w) :
    Calls Tryd.prog 12 #[.slice A n c, .func (.func fn) #[.pointer (some ⟨p, 0, none⟩)] #[]] w (LaidAll I L) := by
  have HR := keepd hr
  have HN := keepd hn
  have HI := keepd h
  have c1 := hr.1
  have c2 := hr.2.1
  unfold maxLen at c2
  rw [← hn] at c1
  clear hr hn h
  go_enter Tryd.func12, Tryd.ntmps12
  go_wp2_with fail
  go_loopw [10] (fun vi wr => ∃ (k : Nat) (K' : List (Nat × Obj)), k ≤ n ∧ vi = .int .i64 k ∧ Hid (I K' (liesAll (L.take k)) wr) ∧ Hid (allMay (L.take k) = true)) (fun vi _ => n - (intOf vi).toNat)
  case atStart => exact ⟨0, K, by omega, rfl, HI.out, by show _ = _; simp [allMay]⟩
  case round =>
    obtain ⟨k, K', hk, rfl, HK, HM⟩ := hrel
    by_cases hlt : k < n
    · have hkL : k < L.length := by rw [← HN.out]; exact hlt
      obtain ⟨b, off, hA, hbl, hce⟩ := HR.out.2.2.1 (by rintro rfl; simp at hkL)
      subst hA
      have hbW := P.below _ _ _ HK.out
      have hce2 := hce k hkL
      obtain ⟨e0, e1, e2, e3⟩ := hce2
      have e0' := (hbW.cell (p := ⟨b, off + k * 4, none⟩) hbl).trans e0
      have e1' := (hbW.cell (p := ⟨b, off + k * 4 + 1, none⟩) hbl).trans e1
      have e2' := (hbW.cell (p := ⟨b, off + k * 4 + 2, none⟩) hbl).trans e2
      have e3' := (hbW.cell (p := ⟨b, off + k * 4 + 3, none⟩) hbl).trans e3
      have HRX := keepd (HR.out.2.2.2 L[k] (List.getElem_mem hkL))
      have HS1 := keepd (liesAll_succ L k hkL)
      have HS2 := keepd (allMay_succ L k hkL)
      have HLL : Hid ((liesAll (L.take k)).length ≤ 800000) := by
        show _ ≤ _
        have := liesAll_len _ HM.out
        rw [List.length_take] at this
        omega
      generalize L[k] = X at *
      clear hce e0 e1 e2 e3
      obtain ⟨v, hv⟩ : ∃ v, X.may = v := ⟨_, rfl⟩
      have HV := keepd hv
      have HCk := fun w => check_any X.k X.a X.b X.A X.l.length X.c v hv w
      clear hv
      cases v
      · go_wp2_with fail
        with_reducible refine (HCk _).mono ?_
        rintro e w2 ⟨rfl, hb2⟩
        have hb : Below wr.heap.size wr w2 := upA hb2
        have hI2 := P.add K' [] _ wr w2 HK.out hb (fun k o hk => by cases hk)
        have HI2 := keepd hI2
        have hno : allMay L = false := by
          cases hal : allMay L
          · rfl
          · have := allMay_take hal (k + 1)
            rw [HS2.out, HV.out, Bool.and_false] at this
            cases this
        have HNo := keepd hno
        clear hb hb2 hI2 hno HCk
        go_wp2
        go_ret
        exact ⟨_, _, by rw [HNo.out]; rfl, HI2.out, fun e => by rw [HNo.out] at e; cases e⟩
      · go_wp2_with fail
        with_reducible refine (HCk _).mono ?_
        rintro e w2 ⟨rfl, hb2⟩
        have hb : Below wr.heap.size wr w2 := upA hb2
        have hI2 := P.add K' [] _ wr w2 HK.out hb (fun k o hk => by cases hk)
        have q := ((SR.new 39 wr [.int .i64 X.k, .int .i64 X.a, .int .i64 X.b, .slice X.A X.l.length X.c]).call hb2 (by simp))
        have q0 := q.cell 0
        have q1 := q.cell 1
        have q2 := q.cell 2
        have q3 := q.cell 3
        simp only [List.getElem?_cons_zero, List.getElem?_cons_succ] at q0 q1 q2 q3
        have HI2 := keepd hI2
        have HV2 : Hid (mayN X.k X.a X.b X.l.length = true) := HV.out
        clear hb hb2 hI2 HCk q e0' e1' e2' e3'
        go_wp2_with fail
        with_reducible refine (ilay_any P _ _ X.k X.a X.b X.A X.l X.l.length X.c _ rfl HRX.out HV2.out HI2.out HLL.out).mono ?_
        rintro e w3 ⟨rfl, K3, h3⟩
        have H3 : Hid (I K3 (liesAll (L.take (k + 1))) w3) := by
          show I _ _ _
          rw [HS1.out]
          exact h3
        have H4 : Hid (allMay (L.take (k + 1)) = true) := by
          show _ = _
          rw [HS2.out, HM.out, HV.out]
          rfl
        clear h3 HI2 q0 q1 q2 q3
        go_wp2
        go_roundw
        case rel => exact ⟨k + 1, K3, by omega, by go_num, H3, H4⟩
        case measure => simp [intOf]; omega
    · obtain rfl : k = n := by omega
      have H3 : Hid (I K' (liesAll L) wr) := by
        have := HK.out
        rw [List.take_of_length_le (by rw [← HN.out]; omega)] at this
        exact this
      have H4 : Hid (allMay L = true) := by
        have := HM.out
        rw [List.take_of_length_le (by rw [← HN.out]; omega)] at this
        exact this
      clear HK HM
      go_wp2
      go_ret
      exact ⟨_, _, by rw [H4.out]; rfl, H3.out, fun _ => rfl⟩

/-- What Put answers: the octets, and the error. -/
def putL (L : List Itm) : List UInt8 := if allMay L then liesAll L else []
def errL (L : List Itm) : Int := if allMay L then 0 else 1
theorem putL_yes {L : List Itm} (h : allMay L = true) : putL L = liesAll L := if_pos h
theorem putL_no {L : List Itm} (h : allMay L = false) : putL L = [] := by unfold putL; rw [h]; rfl
theorem errL_yes {L : List Itm} (h : allMay L = true) : errL L = 0 := if_pos h
theorem errL_no {L : List Itm} (h : allMay L = false) : errL L = 1 := by unfold errL; rw [h]; rfl

def GotPut (w : World) (L : List Itm) (e : Ending) (w' : World) : Prop :=
  ∃ A c, e = .returned (.tuple #[.slice A (putL L).length c, .int .i64 (errL L)]) ∧ Rd w' w'.heap.size A (putL L) c ∧ Below w.heap.size w w'

def GotSize (w : World) (L : List Itm) (e : Ending) (w' : World) : Prop :=
  e = .returned (.tuple #[.int .i64 ((putL L).length : Int), .int .i64 (errL L)]) ∧ Below w.heap.size w w'

set_option maxHeartbeats 400000 in
theorem put_any (A : Option Addr) (L : List Itm) (n c : Nat) (w : World) (hn : n = L.length) (hl : n ≤ 300) (hr : RdI w A L c) : Calls Tryd.prog 7 #[.slice A n c] w (GotPut w L) := by
  have hmf : ∀ (fn : Fn) (first cap : Array Value) (w : World), (Instr.makeFunc fn first cap).run Tryd.prog w = .ok (.func fn first cap) w := fun _ _ _ _ => rfl
  have HR := keepd hr
  have HN := keepd hn
  clear hr hn
  go_enter Tryd.func7, Tryd.ntmps7
  go_wp2_with fail
  have hI : RowI w w.heap.size [] [] (w.alloc (.cells #[.slice none 0 0] 40)) :=
    ⟨none, 0, heap_alloc_new w _, Own.nil _ _, by simp [Value.ownBlock], by simp, bAlloc (Below.refl _ _) _, Nat.le_refl _⟩
  with_reducible refine (layAll_any (rowP w w.heap.size) A L n c _ HN.out hl HR.out [] hI).mono ?_
  rintro e w1 ⟨K', L', rfl, ⟨A', c', hp, hw, _, _, hb, _⟩, hL⟩
  have H5 := keepd hb
  cases hm : allMay L
  · have e1 := keepd (putL_no hm)
    have e2 := keepd (errL_no hm)
    clear hI hp hw hb hmf hL hm
    go_wp2
    go_ret2
    refine ⟨none, 0, ?_, ?_, H5.out⟩
    · rw [e1.out, e2.out]; rfl
    · rw [e1.out]; exact Rd.nil _ _
  · have e1 := keepd (putL_yes hm)
    have e2 := keepd (errL_yes hm)
    have hLe := hL hm
    subst hLe
    have hc := cell_of_one hp
    have H2 := keepd hw.rdOf
    clear hI hp hw hb hmf hL hm
    go_wp2
    go_ret2
    refine ⟨A', c', ?_, ?_, H5.out⟩
    · rw [e1.out, e2.out]; rfl
    · rw [e1.out]; exact H2.out

end Go.Proofs.YtmgkfibkeonpmaaDoor
