/-
  Small steps of two sides: what comes of a thing that comes, or is asked, said or not.
-/
import Derived.Test.YtiohcdedndbbgaaDoorM3
namespace Go.Proofs.YtiohcdedndbbgaaDoor
open Go.RowKit

theorem say_say {s : Int} {sb : Bool} (hs : (s == 0) = false) (hb : (s == 1) = sb) : sayL s = [sb] ∧ sayN s = 1 := by
  have h : ¬ s = 0 := by simpa using hs
  unfold sayL sayN
  rw [if_neg h, if_neg h, hb]
  exact ⟨rfl, rfl⟩

section
variable {w wr : World} {a b : Bool} {A : Option Addr} {n c : Nat} {x0 x1 : Int} {A0 : Option Addr} {n0 c0 : Nat} {l0 : List Bool} {A1 : Option Addr} {n1 c1 : Nat} {l1 : List Bool} {said asked rk : Nat}

/-- Where the rows stand is not frozen, behind a growing of either. -/
theorem MJ.fz0 (h : MJ w wr a b A n c x0 x1 A0 n0 c0 l0 A1 n1 c1 l1) {w2 : World} (hg : wr.grownBy w2 (Value.slice A0 n0 c0).ownBlock) : w2.frozen? ⟨w.heap.size + 3, 0, none⟩ = false := by
  have hs : SR 40 w2 (w.heap.size + 3) [.slice A0 n0 c0, .slice A1 n1 c1] := (hg.block _ h.tw.lt (fun e => by have := (h.own0.ge _ e.symm).1; omega)).trans h.tw
  exact hs.frozen 0
theorem MJ.fz1 (h : MJ w wr a b A n c x0 x1 A0 n0 c0 l0 A1 n1 c1 l1) {w2 : World} (hg : wr.grownBy w2 (Value.slice A1 n1 c1).ownBlock) : w2.frozen? ⟨w.heap.size + 3, 1, none⟩ = false := by
  have hs : SR 40 w2 (w.heap.size + 3) [.slice A0 n0 c0, .slice A1 n1 c1] := (hg.block _ h.tw.lt (fun e => by have := (h.own1.ge _ e.symm).1; omega)).trans h.tw
  exact hs.frozen 1
theorem MJ.cl0 (h : MJ w wr a b A n c x0 x1 A0 n0 c0 l0 A1 n1 c1 l1) {w2 : World} (hg : wr.grownBy w2 (Value.slice A0 n0 c0).ownBlock) : w2.cell? ⟨w.heap.size + 3, 0, none⟩ = some (.slice A0 n0 c0) := by
  have hs : SR 40 w2 (w.heap.size + 3) [.slice A0 n0 c0, .slice A1 n1 c1] := (hg.block _ h.tw.lt (fun e => by have := (h.own0.ge _ e.symm).1; omega)).trans h.tw
  exact hs.cell 0
theorem MJ.cl1 (h : MJ w wr a b A n c x0 x1 A0 n0 c0 l0 A1 n1 c1 l1) {w2 : World} (hg : wr.grownBy w2 (Value.slice A1 n1 c1).ownBlock) : w2.cell? ⟨w.heap.size + 3, 1, none⟩ = some (.slice A1 n1 c1) := by
  have hs : SR 40 w2 (w.heap.size + 3) [.slice A0 n0 c0, .slice A1 n1 c1] := (hg.block _ h.tw.lt (fun e => by have := (h.own1.ge _ e.symm).1; omega)).trans h.tw
  exact hs.cell 1

/-- The same row, stored again. -/
theorem MJ.same0 (h : MJ w wr a b A n c x0 x1 A0 n0 c0 l0 A1 n1 c1 l1) : MJ w (wr.setCell ⟨w.heap.size + 3, 0, none⟩ (.slice A0 n0 c0)) a b A n c x0 x1 A0 n0 c0 l0 A1 n1 c1 l1 :=
  h.setT0 (grown_self _ _) h.own0 h.len0 fun _ h => .inl h
theorem MJ.same1 (h : MJ w wr a b A n c x0 x1 A0 n0 c0 l0 A1 n1 c1 l1) : MJ w (wr.setCell ⟨w.heap.size + 3, 1, none⟩ (.slice A1 n1 c1)) a b A n c x0 x1 A0 n0 c0 l0 A1 n1 c1 l1 :=
  h.setT1 (grown_self _ _) h.own1 h.len1 fun _ h => .inl h

theorem Meet.quiet0 {y : Bool} (h : Meet a b x0 x1 (y :: l0) l1 said asked rk) {z s e : Int} (hz : gF x0 y a = (z, s, e)) (hs : s = 0) : e = 0 ∧ ∃ rk', rk' + 1 = rk ∧ Meet a b z x1 l0 l1 said asked rk' := by
  subst hs
  obtain ⟨he, rk', h1, h2⟩ := h.come0 hz
  exact ⟨he, rk', h1, by simpa [sayL, sayN] using h2⟩
theorem Meet.tell0 {y sb : Bool} (h : Meet a b x0 x1 (y :: l0) l1 said asked rk) {z s e : Int} (hz : gF x0 y a = (z, s, e)) (hs : (s == 0) = false) (hb : (s == 1) = sb) : e = 0 ∧ ∃ rk', rk' + 1 = rk ∧ Meet a b z x1 l0 (l1 ++ [sb]) (said + 1) asked rk' := by
  obtain ⟨he, rk', h1, h2⟩ := h.come0 hz
  rw [(say_say hs hb).1, (say_say hs hb).2] at h2
  exact ⟨he, rk', h1, h2⟩
theorem Meet.quiet1 {y : Bool} (h : Meet a b x0 x1 l0 (y :: l1) said asked rk) {z s e : Int} (hz : gF x1 y b = (z, s, e)) (hs : s = 0) : e = 0 ∧ ∃ rk', (l0 = [] → rk' + 1 = rk) ∧ Meet a b x0 z l0 l1 said asked rk' := by
  subst hs
  obtain ⟨he, rk', h1, h2⟩ := h.come1 hz
  exact ⟨he, rk', h1, by simpa [sayL, sayN] using h2⟩
theorem Meet.tell1 {y sb : Bool} (h : Meet a b x0 x1 l0 (y :: l1) said asked rk) {z s e : Int} (hz : gF x1 y b = (z, s, e)) (hs : (s == 0) = false) (hb : (s == 1) = sb) : e = 0 ∧ ∃ rk', (l0 = [] → rk' + 1 = rk) ∧ Meet a b x0 z (l0 ++ [sb]) l1 (said + 1) asked rk' := by
  obtain ⟨he, rk', h1, h2⟩ := h.come1 hz
  rw [(say_say hs hb).1, (say_say hs hb).2] at h2
  exact ⟨he, rk', h1, h2⟩

theorem Meet.askq0 {on : Bool} (h : Meet a b x0 x1 l0 l1 said asked rk) (ho : a = true ∨ on = false) {z s e : Int} (hz : aF x0 on = (z, s, e)) (hs : s = 0) : ∃ rk', Meet a b z x1 l0 l1 said (asked + if e = 0 then 1 else 0) rk' := by
  subst hs
  obtain ⟨he, rk', h2⟩ := h.ask0 ho hz
  exact ⟨rk', by simpa [sayL, sayN] using h2⟩
theorem Meet.askt0 {on sb : Bool} (h : Meet a b x0 x1 l0 l1 said asked rk) (ho : a = true ∨ on = false) {z s e : Int} (hz : aF x0 on = (z, s, e)) (hs : (s == 0) = false) (hb : (s == 1) = sb) : e = 0 ∧ ∃ rk', Meet a b z x1 l0 (l1 ++ [sb]) (said + 1) (asked + 1) rk' := by
  obtain ⟨he, rk', h2⟩ := h.ask0 ho hz
  have e0 : e = 0 := by
    rcases he with he | ⟨_, h0⟩
    · exact he
    · rw [h0] at hs; cases hs
  rw [(say_say hs hb).1, (say_say hs hb).2, if_pos e0] at h2
  exact ⟨e0, rk', h2⟩
theorem Meet.askq1 {on : Bool} (h : Meet a b x0 x1 l0 l1 said asked rk) (ho : b = true ∨ on = false) {z s e : Int} (hz : aF x1 on = (z, s, e)) (hs : s = 0) : ∃ rk', Meet a b x0 z l0 l1 said (asked + if e = 0 then 1 else 0) rk' := by
  subst hs
  obtain ⟨he, rk', h2⟩ := h.ask1 ho hz
  exact ⟨rk', by simpa [sayL, sayN] using h2⟩
theorem Meet.askt1 {on sb : Bool} (h : Meet a b x0 x1 l0 l1 said asked rk) (ho : b = true ∨ on = false) {z s e : Int} (hz : aF x1 on = (z, s, e)) (hs : (s == 0) = false) (hb : (s == 1) = sb) : e = 0 ∧ ∃ rk', Meet a b x0 z (l0 ++ [sb]) l1 (said + 1) (asked + 1) rk' := by
  obtain ⟨he, rk', h2⟩ := h.ask1 ho hz
  have e0 : e = 0 := by
    rcases he with he | ⟨_, h0⟩
    · exact he
    · rw [h0] at hs; cases hs
  rw [(say_say hs hb).1, (say_say hs hb).2, if_pos e0] at h2
  exact ⟨e0, rk', h2⟩
end

end Go.Proofs.YtiohcdedndbbgaaDoor
