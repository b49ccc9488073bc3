/-
  States and events as plain data: what a key, a signal and keys do. No walks.
-/
import Derived.Test.YtecihodifgjkoaaDoorL0
import Derived.Test.YtecihodifgjkoaaDoorBM
namespace Go.Proofs.YtecihodifgjkoaaDoor
open Go.RowKit
set_option maxRecDepth 100000

/-- A state that may be. -/
structure Ed where
  l : List UInt8
  t : Nat
  ov : Bool
  li : Bool
/-- An event. -/
structure Ev where
  k : Int
  f : Int
  b : List UInt8

def Ed.ok (s : Ed) : Prop := s.t ≤ s.l.length ∧ s.l.length ≤ 4096
def zE : Ed := ⟨[], 0, false, false⟩
/-- What comes of a key: the state, the events, the bells. -/
structure Res where
  s : Ed
  es : List Ev
  n : Nat

/-- A key is typed. -/
def typE (s : Ed) (room : Int) (u : UInt8) : Res := ⟨⟨(tyR s.l s.t room s.ov u).1, (tyR s.l s.t room s.ov u).2, s.ov, s.li⟩, [], if (tyL s.l s.t room s.ov u).isSome then 0 else 1⟩
def stays (f : Int) : Bool := f == 4 || (f == 5 || f == 6)
/-- What a signal does. -/
def sigS (s : Ed) (f : Int) : Ed := if stays f then { s with li := false } else zE
def sigV (s : Ed) (f : Int) : Ev := if f = 8 ∧ s.l ≠ [] then ⟨2, 0, s.l⟩ else ⟨3, f, []⟩
def sigE (s : Ed) (f : Int) : Res := ⟨sigS s f, [sigV s f], 0⟩
def isSig (f : Int) : Bool := decide (1 ≤ f ∧ f ≤ 9)
/-- What a meaning does with a key. -/
def actE (f : Int) (room : Int) (s : Ed) (u : UInt8) : Res :=
  if isSig f then sigE s f
  else if f = 0 ∨ f = 17 ∨ f = 18 then typE s room u
  else if f = 31 then ⟨zE, [⟨1, 0, s.l⟩], 0⟩
  else if f = 14 then ⟨{ s with li := true }, [], 0⟩
  else if f = 25 then ⟨{ s with ov := false }, [], 0⟩
  else if f = 26 then ⟨{ s with ov := true }, [], 0⟩
  else if f = 13 ∨ f = 15 ∨ f = 16 then ⟨s, [], 0⟩
  else ⟨⟨(doR s.l s.t f).1, (doR s.l s.t f).2, s.ov, s.li⟩, [], 0⟩
def keyE (X : Tb) (room : Int) (s : Ed) (u : UInt8) : Res :=
  if s.li then typE { s with li := false } room u else actE (meanF X (u.toNat : Int) : Int) room s u
/-- Keys, one by one. -/
def playE (X : Tb) (room : Int) (r : Res) : List UInt8 → Res
  | [] => r
  | u :: us => playE X room ⟨(keyE X room r.s u).s, r.es ++ (keyE X room r.s u).es, r.n + (keyE X room r.s u).n⟩ us

theorem zE_ok : zE.ok := ⟨Nat.le_refl _, by simp [zE]⟩
theorem typE_ok {s : Ed} (h : s.ok) (room : Int) (u : UInt8) : (typE s room u).s.ok := by
  obtain ⟨h1, h2⟩ := h
  unfold typE tyR Ed.ok
  cases hq : tyL s.l s.t room s.ov u with
  | none => exact ⟨h1, h2⟩
  | some p =>
    obtain ⟨m, q⟩ := p
    have := ty_spec h1 hq
    simp only [Option.getD_some]
    omega
theorem sigE_ok {s : Ed} (h : s.ok) (f : Int) : (sigE s f).s.ok := by
  unfold sigE sigS
  simp only
  split
  · exact h
  · exact zE_ok
theorem actE_ok {s : Ed} (h : s.ok) (f room : Int) (u : UInt8) : (actE f room s u).s.ok := by
  unfold actE
  split
  · exact sigE_ok h f
  split
  · exact typE_ok h room u
  split
  · exact zE_ok
  split
  · exact h
  split
  · exact h
  split
  · exact h
  split
  · exact h
  · obtain ⟨h1, h2⟩ := h
    unfold doR Ed.ok
    cases hq : doL s.l s.t f with
    | none => exact ⟨h1, h2⟩
    | some p =>
      obtain ⟨m, q⟩ := p
      have := do_spec h1 hq
      simp only [Option.getD_some]
      omega
theorem keyE_ok {s : Ed} (h : s.ok) (X : Tb) (room : Int) (u : UInt8) : (keyE X room s u).s.ok := by
  unfold keyE
  split
  · exact typE_ok (s := { s with li := false }) h room u
  · exact actE_ok h _ room u
theorem playE_ok {X : Tb} {room : Int} : ∀ {us : List UInt8} {r : Res}, r.s.ok → (playE X room r us).s.ok
  | [], _, h => h
  | u :: us, r, h => playE_ok (us := us) (r := ⟨(keyE X room r.s u).s, r.es ++ (keyE X room r.s u).es, r.n + (keyE X room r.s u).n⟩) (keyE_ok h X room u)

theorem playE_app (X : Tb) (room : Int) : ∀ (us vs : List UInt8) (r : Res), playE X room r (us ++ vs) = playE X room (playE X room r us) vs
  | [], _, _ => rfl
  | _ :: us, vs, _ => playE_app X room us vs _
/-- What was there ahead stays ahead. -/
theorem playE_from (X : Tb) (room : Int) : ∀ (us : List UInt8) (s : Ed) (es : List Ev) (n : Nat), playE X room ⟨s, es, n⟩ us = ⟨(playE X room ⟨s, [], 0⟩ us).s, es ++ (playE X room ⟨s, [], 0⟩ us).es, n + (playE X room ⟨s, [], 0⟩ us).n⟩
  | [], s, es, n => by simp [playE]
  | u :: us, s, es, n => by
    unfold playE
    rw [playE_from X room us, playE_from X room us (keyE X room s u).s ([] ++ (keyE X room s u).es) (0 + (keyE X room s u).n)]
    simp [List.append_assoc, Nat.add_assoc]
theorem playE_two (X : Tb) (room : Int) (s : Ed) (us vs : List UInt8) : playE X room ⟨s, [], 0⟩ (us ++ vs) = ⟨(playE X room ⟨(playE X room ⟨s, [], 0⟩ us).s, [], 0⟩ vs).s, (playE X room ⟨s, [], 0⟩ us).es ++ (playE X room ⟨(playE X room ⟨s, [], 0⟩ us).s, [], 0⟩ vs).es, (playE X room ⟨s, [], 0⟩ us).n + (playE X room ⟨(playE X room ⟨s, [], 0⟩ us).s, [], 0⟩ vs).n⟩ := by
  rw [playE_app]
  generalize playE X room ⟨s, [], 0⟩ us = r
  obtain ⟨s1, es, n⟩ := r
  exact playE_from X room vs s1 es n
theorem playE_take {X : Tb} {room : Int} {us : List UInt8} {k : Nat} (h : k < us.length) (s : Ed) :
    playE X room ⟨s, [], 0⟩ (us.take (k + 1)) = ⟨(keyE X room (playE X room ⟨s, [], 0⟩ (us.take k)).s us[k]).s, (playE X room ⟨s, [], 0⟩ (us.take k)).es ++ (keyE X room (playE X room ⟨s, [], 0⟩ (us.take k)).s us[k]).es, (playE X room ⟨s, [], 0⟩ (us.take k)).n + (keyE X room (playE X room ⟨s, [], 0⟩ (us.take k)).s us[k]).n⟩ := by
  rw [List.take_succ_eq_append_getElem h, playE_app]
  rfl
/-- One event at the most, for each key. -/
theorem keyE_few (X : Tb) (room : Int) (s : Ed) (u : UInt8) : (keyE X room s u).es.length ≤ 1 ∧ (keyE X room s u).n ≤ 1 := by
  unfold keyE actE
  repeat' split
  all_goals (simp [typE, sigE] <;> try split) <;> simp
theorem playE_few (X : Tb) (room : Int) : ∀ (us : List UInt8) (r : Res), (playE X room r us).es.length ≤ r.es.length + us.length ∧ (playE X room r us).n ≤ r.n + us.length
  | [], r => ⟨Nat.le_refl _, Nat.le_refl _⟩
  | u :: us, r => by
    have h1 := keyE_few X room r.s u
    have h2 := playE_few X room us ⟨(keyE X room r.s u).s, r.es ++ (keyE X room r.s u).es, r.n + (keyE X room r.s u).n⟩
    simp only [List.length_append] at h2
    unfold playE
    simp only [List.length_cons]
    omega

end Go.Proofs.YtecihodifgjkoaaDoor
