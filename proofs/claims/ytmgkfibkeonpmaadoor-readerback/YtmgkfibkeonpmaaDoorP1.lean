/-
  Layer 4 on lists: of octets that are read, what came, laid, has no more than two octets for each; and a contract over item's Put with its answers named. No conditions beyond those each theorem states.
-/
import Derived.Test.YtmgkfibkeonpmaaDoorR9
namespace Go.Proofs.YtmgkfibkeonpmaaDoor
open Go.RowKit

def liesLen (X : List Abs) : Nat := (X.flatMap Abs.lies).length
theorem liesLen_append (X Y : List Abs) : liesLen (X ++ Y) = liesLen X + liesLen Y := by simp [liesLen]
theorem liesLen_one (x : Abs) : liesLen [x] = x.lies.length := by simp [liesLen]
theorem liesLen_nil : liesLen [] = 0 := rfl

/-- How many octets a reader has read of what is half read. -/
def pot (r : Abs) : Nat := if r.k = 2 then 1 else if r.k = 3 ∨ r.k = 4 then 2 else if r.k = 5 then 3 + (dbl r.l).length else if r.k = 6 then 4 + (dbl r.l).length else 0

theorem dat_len (c : UInt8) : (dat c).lies.length ≤ 2 := by
  have e : (dat c).lies = layL [u8 (c.toNat : Int)] := rfl
  rw [e]
  have := (layL_len [u8 (c.toNat : Int)]).2
  simpa using this

theorem d1_len (c : UInt8) : (d1 c).length ≤ 2 := by unfold d1; split <;> simp

theorem sData_pot (c : UInt8) : liesLen (sData c).2 + pot (sData c).1 ≤ 2 := by
  unfold sData
  split
  · show liesLen [] + pot (inn 2) ≤ 2
    decide
  · split
    · show liesLen [dat 13] + pot (inn 1) ≤ 2
      rw [liesLen_one]
      have := dat_len 13
      have e : pot (inn 1) = 0 := rfl
      omega
    · show liesLen [dat c] + pot (inn 0) ≤ 2
      rw [liesLen_one]
      have := dat_len c
      have e : pot (inn 0) = 0 := rfl
      omega

theorem sCmd_pot (c : UInt8) : liesLen (sCmd c).2 + pot (sCmd c).1 ≤ 2 := by
  unfold sCmd
  split
  · show liesLen [dat 255] + pot (inn 0) ≤ 2
    rw [liesLen_one]
    have := dat_len 255
    have e : pot (inn 0) = 0 := rfl
    omega
  split
  · show 0 + 2 ≤ 2
    omega
  split
  · show 0 + 2 ≤ 2
    omega
  split
  · show liesLen [⟨2, (c.toNat : Int), 0, []⟩] + pot (inn 0) ≤ 2
    rw [liesLen_one]
    show 2 + 0 ≤ 2
    omega
  · show 0 + 0 ≤ 2
    omega

theorem sKeep_pot (r : Abs) (c : UInt8) : pot (sKeep r c) ≤ 5 + (dbl r.l).length := by
  unfold sKeep
  split
  · show 0 ≤ _
    omega
  · show 3 + (dbl (r.l ++ [c])).length ≤ _
    rw [dbl_append, List.length_append]
    have : dbl [c] = d1 c := by simp [dbl]
    rw [this]
    have := d1_len c
    omega

theorem step_pot {r : Abs} (h : mayR r = true) (c : UInt8) : liesLen (step r c).2 + pot (step r c).1 ≤ pot r + 2 := by
  have hd := sData_pot c
  have hc := sCmd_pot c
  rcases nine (mayR_range h) with hk | hk | hk | hk | hk | hk | hk | hk | hk
  · rw [step_0 hk]
    omega
  · rw [step_1 hk]
    split
    · show 0 + 0 ≤ _
      omega
    · omega
  · rw [step_2 hk]
    omega
  · rw [step_3 hk]
    have : pot r = 2 := by unfold pot; rw [if_neg (by omega), if_pos (by omega)]
    rw [this]
    show liesLen [⟨3, r.a, (c.toNat : Int), []⟩] + 0 ≤ 4
    rw [liesLen_one]
    show 3 + 0 ≤ 4
    omega
  · rw [step_4 hk]
    have : pot r = 2 := by unfold pot; rw [if_neg (by omega), if_pos (by omega)]
    rw [this]
    show 0 + (3 + 0) ≤ 4
    omega
  · rw [step_5 hk]
    have hp : pot r = 3 + (dbl r.l).length := by unfold pot; rw [if_neg (by omega), if_neg (by omega), if_pos hk]
    have := sKeep_pot r c
    split
    · show 0 + (4 + (dbl r.l).length) ≤ _
      omega
    · show 0 + pot (sKeep r c) ≤ _
      omega
  · rw [step_6 hk]
    have hp : pot r = 4 + (dbl r.l).length := by unfold pot; rw [if_neg (by omega), if_neg (by omega), if_neg (by omega), if_pos hk]
    have := sKeep_pot r c
    split
    · show 0 + pot (sKeep r c) ≤ _
      omega
    split
    · show liesLen [⟨4, r.b, 0, r.l⟩] + 0 ≤ _
      rw [liesLen_one]
      have e : (Abs.lies ⟨4, r.b, 0, r.l⟩).length = 5 + (dbl r.l).length := by
        show ([255, 250, u8 r.b] ++ dbl r.l ++ [255, 240]).length = _
        simp only [List.length_append, List.length_cons, List.length_nil]
        omega
      omega
    · omega
  · rw [step_7 hk]
    split
    · show 0 + 0 ≤ _
      omega
    · show 0 + pot r ≤ _
      omega
  · rw [step_8 hk]
    split
    · show 0 + 0 ≤ _
      omega
    split
    · show 0 + 0 ≤ _
      omega
    · omega

theorem feed_pot {r : Abs} (h : mayR r = true) (b : List UInt8) : liesLen (feed r b).2 + pot (feed r b).1 ≤ pot r + 2 * b.length := by
  induction b generalizing r with
  | nil => show 0 + pot r ≤ _; omega
  | cons c b ih =>
    have h1 := step_pot h c
    have h2 := ih (step_may h c).1
    simp only [feed, liesLen_append, List.length_cons]
    omega

/-- item's Put, with its answers named. -/
theorem put_at (A : Option Addr) (L : List Itm) (out : List UInt8) (m n c : Nat) (er : Int) (w : World) (hn : n = L.length) (hl : n ≤ 300) (hr : RdI w A L c) (ho : putL L = out) (hm : out.length = m) (he : errL L = er) :
    Calls Tryd.prog 7 #[.slice A n c] w fun e w' => ∃ A' c', e = .returned (.tuple #[.slice A' m c', .int .i64 er]) ∧ Rd w' w'.heap.size A' out c' ∧ Below w.heap.size w w' := by
  subst ho hm he
  exact put_any A L n c w hn hl hr

end Go.Proofs.YtmgkfibkeonpmaaDoor
