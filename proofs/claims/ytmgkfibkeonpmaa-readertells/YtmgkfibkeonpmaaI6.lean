/-
  Contracts over layer 3: layAll, Put, Size. No conditions beyond those each theorem states.
-/
import Derived.Test.YtmgkfibkeonpmaaI5
namespace Go.Proofs.Ytmgkfibkeonpmaa
open Go.RowKit

/-- The slice value 'slice A L.length c' reads as the items L. -/
def RdI (w : World) (A : Option Addr) (L : List Itm) (c : Nat) : Prop :=
  L.length ≤ c ∧ c ≤ maxLen ∧
  (L ≠ [] → ∃ b off, A = some ⟨b, off, none⟩ ∧ b < w.heap.size ∧ ∀ (i : Nat) (h : i < L.length),
    w.cell? ⟨b, off + i * 4, none⟩ = some (.int .i64 L[i].k) ∧ w.cell? ⟨b, off + i * 4 + 1, none⟩ = some (.int .i64 L[i].a) ∧
    w.cell? ⟨b, off + i * 4 + 2, none⟩ = some (.int .i64 L[i].b) ∧ w.cell? ⟨b, off + i * 4 + 3, none⟩ = some (.slice L[i].A L[i].l.length L[i].c)) ∧
  ∀ x ∈ L, Rd w w.heap.size x.A x.l x.c

theorem RdI.at_ {w W : World} {A : Option Addr} {L : List Itm} {c : Nat} (h : RdI w A L c) (hb : Below w.heap.size w W) : RdI W A L c := by
  refine ⟨h.1, h.2.1, fun hne => ?_, fun x hx => (h.2.2.2 x hx).at_ hb⟩
  obtain ⟨b, off, e, hlt, hce⟩ := h.2.2.1 hne
  refine ⟨b, off, e, Nat.lt_of_lt_of_le hlt hb.size, fun i hi => ?_⟩
  obtain ⟨c0, c1, c2, c3⟩ := hce i hi
  exact ⟨(hb.cell (p := ⟨b, _, none⟩) hlt).trans c0, (hb.cell (p := ⟨b, _, none⟩) hlt).trans c1, (hb.cell (p := ⟨b, _, none⟩) hlt).trans c2, (hb.cell (p := ⟨b, _, none⟩) hlt).trans c3⟩

def Itm.may (x : Itm) : Bool := mayN x.k x.a x.b x.l.length
def Itm.lies (x : Itm) : List UInt8 := liesN x.k x.a x.b x.l
def allMay (L : List Itm) : Bool := L.all Itm.may
def liesAll (L : List Itm) : List UInt8 := L.flatMap Itm.lies

theorem liesAll_len (L : List Itm) (h : allMay L = true) : (liesAll L).length ≤ 1100 * L.length := by
  induction L with
  | nil => simp [liesAll]
  | cons x r ih =>
    unfold allMay at h ih
    rw [List.all_cons, Bool.and_eq_true] at h
    have h1 := ih h.2
    have h2 := liesN_len x.k x.a x.b x.l (mayN_len h.1)
    unfold liesAll at h1 ⊢
    rw [List.flatMap_cons, List.length_append, List.length_cons]
    have : (Itm.lies x).length = (liesN x.k x.a x.b x.l).length := rfl
    omega

theorem liesAll_succ (L : List Itm) (k : Nat) (h : k < L.length) : liesAll (L.take (k + 1)) = liesAll (L.take k) ++ L[k].lies := by
  unfold liesAll
  rw [List.take_succ_eq_append_getElem h, List.flatMap_append]
  simp only [List.flatMap_cons, List.flatMap_nil, List.append_nil]
theorem allMay_succ (L : List Itm) (k : Nat) (h : k < L.length) : allMay (L.take (k + 1)) = (allMay (L.take k) && L[k].may) := by
  unfold allMay
  rw [List.take_succ_eq_append_getElem h, List.all_append]
  simp only [List.all_cons, List.all_nil, Bool.and_true]

theorem allMay_take {L : List Itm} (h : allMay L = true) (j : Nat) : allMay (L.take j) = true := by
  unfold allMay at h ⊢
  rw [List.all_eq_true] at h ⊢
  exact fun x hx => h x (List.mem_of_mem_take hx)

/-- What layAll leaves. -/
def LaidAll (I : List (Nat × Obj) → List UInt8 → World → Prop) (L : List Itm) (e : Ending) (w' : World) : Prop :=
  ∃ K' L', e = .returned (.int .i64 (if allMay L then 0 else 1)) ∧ I K' L' w' ∧ (allMay L = true → L' = liesAll L)

/-- What Put answers: the octets, and the error. -/
def putL (L : List Itm) : List UInt8 := if allMay L then liesAll L else []
def errL (L : List Itm) : Int := if allMay L then 0 else 1
theorem putL_yes {L : List Itm} (h : allMay L = true) : putL L = liesAll L := if_pos h
theorem putL_no {L : List Itm} (h : allMay L = false) : putL L = [] := by unfold putL; rw [h]; rfl
theorem errL_yes {L : List Itm} (h : allMay L = true) : errL L = 0 := if_pos h
theorem errL_no {L : List Itm} (h : allMay L = false) : errL L = 1 := by unfold errL; rw [h]; rfl

def GotPut (w : World) (L : List Itm) (e : Ending) (w' : World) : Prop :=
  ∃ A c, e = .returned (.tuple #[.slice A (putL L).length c, .int .i64 (errL L)]) ∧ Rd w' w'.heap.size A (putL L) c ∧ Below w.heap.size w w'

def GotSize (w : World) (L : List Itm) (e : Ending) (w' : World) : Prop :=
  e = .returned (.tuple #[.int .i64 ((putL L).length : Int), .int .i64 (errL L)]) ∧ Below w.heap.size w w'

end Go.Proofs.Ytmgkfibkeonpmaa
