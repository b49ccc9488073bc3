/-
  Several texts in one: EP NP TP E1 E2 E3. No conditions beyond those each theorem states.
-/
import Derived.Test.YtlfmbfecajhffaaDoorA2
import Derived.Test.YtlfmbfecajhffaaDoorBM
import Derived.Deep.WholeRow
/-
  States and events as plain data: what a key, a signal and keys do. No walks.
-/
namespace Go.Proofs.YtlfmbfecajhffaaDoor
open Go.RowKit
set_option maxRecDepth 100000

/-- A state that may be. -/
structure Ed where
  l : List UInt8
  t : Nat
  ov : Bool
  li : Bool
/-- An event. -/
structure Ev where
  k : Int
  f : Int
  b : List UInt8

def Ed.ok (s : Ed) : Prop := s.t ≤ s.l.length ∧ s.l.length ≤ 4096
def zE : Ed := ⟨[], 0, false, false⟩
/-- What comes of a key: the state, the events, the bells. -/
structure Res where
  s : Ed
  es : List Ev
  n : Nat

/-- A key is typed. -/
def typE (s : Ed) (room : Int) (u : UInt8) : Res := ⟨⟨(tyR s.l s.t room s.ov u).1, (tyR s.l s.t room s.ov u).2, s.ov, s.li⟩, [], if (tyL s.l s.t room s.ov u).isSome then 0 else 1⟩
def stays (f : Int) : Bool := f == 4 || (f == 5 || f == 6)
/-- What a signal does. -/
def sigS (s : Ed) (f : Int) : Ed := if stays f then { s with li := false } else zE
def sigV (s : Ed) (f : Int) : Ev := if f = 8 ∧ s.l ≠ [] then ⟨2, 0, s.l⟩ else ⟨3, f, []⟩
def sigE (s : Ed) (f : Int) : Res := ⟨sigS s f, [sigV s f], 0⟩
def isSig (f : Int) : Bool := decide (1 ≤ f ∧ f ≤ 9)
/-- What a meaning does with a key. -/
def actE (f : Int) (room : Int) (s : Ed) (u : UInt8) : Res :=
  if isSig f then sigE s f
  else if f = 0 ∨ f = 17 ∨ f = 18 then typE s room u
  else if f = 31 then ⟨zE, [⟨1, 0, s.l⟩], 0⟩
  else if f = 14 then ⟨{ s with li := true }, [], 0⟩
  else if f = 25 then ⟨{ s with ov := false }, [], 0⟩
  else if f = 26 then ⟨{ s with ov := true }, [], 0⟩
  else if f = 13 ∨ f = 15 ∨ f = 16 then ⟨s, [], 0⟩
  else ⟨⟨(doR s.l s.t f).1, (doR s.l s.t f).2, s.ov, s.li⟩, [], 0⟩
def keyE (X : Tb) (room : Int) (s : Ed) (u : UInt8) : Res :=
  if s.li then typE { s with li := false } room u else actE (meanF X (u.toNat : Int) : Int) room s u
/-- Keys, one by one. -/
def playE (X : Tb) (room : Int) (r : Res) : List UInt8 → Res
  | [] => r
  | u :: us => playE X room ⟨(keyE X room r.s u).s, r.es ++ (keyE X room r.s u).es, r.n + (keyE X room r.s u).n⟩ us

theorem zE_ok : zE.ok := ⟨Nat.le_refl _, by simp [zE]⟩
theorem typE_ok {s : Ed} (h : s.ok) (room : Int) (u : UInt8) : (typE s room u).s.ok := by
  obtain ⟨h1, h2⟩ := h
  unfold typE tyR Ed.ok
  cases hq : tyL s.l s.t room s.ov u with
  | none => exact ⟨h1, h2⟩
  | some p =>
    obtain ⟨m, q⟩ := p
    have := ty_spec h1 hq
    simp only [Option.getD_some]
    omega
theorem sigE_ok {s : Ed} (h : s.ok) (f : Int) : (sigE s f).s.ok := by
  unfold sigE sigS
  simp only
  split
  · exact h
  · exact zE_ok
theorem actE_ok {s : Ed} (h : s.ok) (f room : Int) (u : UInt8) : (actE f room s u).s.ok := by
  unfold actE
  split
  · exact sigE_ok h f
  split
  · exact typE_ok h room u
  split
  · exact zE_ok
  split
  · exact h
  split
  · exact h
  split
  · exact h
  split
  · exact h
  · obtain ⟨h1, h2⟩ := h
    unfold doR Ed.ok
    cases hq : doL s.l s.t f with
    | none => exact ⟨h1, h2⟩
    | some p =>
      obtain ⟨m, q⟩ := p
      have := do_spec h1 hq
      simp only [Option.getD_some]
      omega
theorem keyE_ok {s : Ed} (h : s.ok) (X : Tb) (room : Int) (u : UInt8) : (keyE X room s u).s.ok := by
  unfold keyE
  split
  · exact typE_ok (s := { s with li := false }) h room u
  · exact actE_ok h _ room u
theorem playE_ok {X : Tb} {room : Int} : ∀ {us : List UInt8} {r : Res}, r.s.ok → (playE X room r us).s.ok
  | [], _, h => h
  | u :: us, r, h => playE_ok (us := us) (r := ⟨(keyE X room r.s u).s, r.es ++ (keyE X room r.s u).es, r.n + (keyE X room r.s u).n⟩) (keyE_ok h X room u)

theorem playE_app (X : Tb) (room : Int) : ∀ (us vs : List UInt8) (r : Res), playE X room r (us ++ vs) = playE X room (playE X room r us) vs
  | [], _, _ => rfl
  | _ :: us, vs, _ => playE_app X room us vs _
/-- What was there ahead stays ahead. -/
theorem playE_from (X : Tb) (room : Int) : ∀ (us : List UInt8) (s : Ed) (es : List Ev) (n : Nat), playE X room ⟨s, es, n⟩ us = ⟨(playE X room ⟨s, [], 0⟩ us).s, es ++ (playE X room ⟨s, [], 0⟩ us).es, n + (playE X room ⟨s, [], 0⟩ us).n⟩
  | [], s, es, n => by simp [playE]
  | u :: us, s, es, n => by
    unfold playE
    rw [playE_from X room us, playE_from X room us (keyE X room s u).s ([] ++ (keyE X room s u).es) (0 + (keyE X room s u).n)]
    simp [List.append_assoc, Nat.add_assoc]
theorem playE_two (X : Tb) (room : Int) (s : Ed) (us vs : List UInt8) : playE X room ⟨s, [], 0⟩ (us ++ vs) = ⟨(playE X room ⟨(playE X room ⟨s, [], 0⟩ us).s, [], 0⟩ vs).s, (playE X room ⟨s, [], 0⟩ us).es ++ (playE X room ⟨(playE X room ⟨s, [], 0⟩ us).s, [], 0⟩ vs).es, (playE X room ⟨s, [], 0⟩ us).n + (playE X room ⟨(playE X room ⟨s, [], 0⟩ us).s, [], 0⟩ vs).n⟩ := by
  rw [playE_app]
  generalize playE X room ⟨s, [], 0⟩ us = r
  obtain ⟨s1, es, n⟩ := r
  exact playE_from X room vs s1 es n
theorem playE_take {X : Tb} {room : Int} {us : List UInt8} {k : Nat} (h : k < us.length) (s : Ed) :
    playE X room ⟨s, [], 0⟩ (us.take (k + 1)) = ⟨(keyE X room (playE X room ⟨s, [], 0⟩ (us.take k)).s us[k]).s, (playE X room ⟨s, [], 0⟩ (us.take k)).es ++ (keyE X room (playE X room ⟨s, [], 0⟩ (us.take k)).s us[k]).es, (playE X room ⟨s, [], 0⟩ (us.take k)).n + (keyE X room (playE X room ⟨s, [], 0⟩ (us.take k)).s us[k]).n⟩ := by
  rw [List.take_succ_eq_append_getElem h, playE_app]
  rfl
/-- One event at the most, for each key. -/
theorem keyE_few (X : Tb) (room : Int) (s : Ed) (u : UInt8) : (keyE X room s u).es.length ≤ 1 ∧ (keyE X room s u).n ≤ 1 := by
  unfold keyE actE
  repeat' split
  all_goals (simp [typE, sigE] <;> try split) <;> simp
theorem playE_few (X : Tb) (room : Int) : ∀ (us : List UInt8) (r : Res), (playE X room r us).es.length ≤ r.es.length + us.length ∧ (playE X room r us).n ≤ r.n + us.length
  | [], r => ⟨Nat.le_refl _, Nat.le_refl _⟩
  | u :: us, r => by
    have h1 := keyE_few X room r.s u
    have h2 := playE_few X room us ⟨(keyE X room r.s u).s, r.es ++ (keyE X room r.s u).es, r.n + (keyE X room r.s u).n⟩
    simp only [List.length_append] at h2
    unfold playE
    simp only [List.length_cons]
    omega

end Go.Proofs.YtlfmbfecajhffaaDoor
/-
  Keys that renew a state, as lists: what they are, and where they lead. No walks.
-/
namespace Go.Proofs.YtlfmbfecajhffaaDoor
open Go.RowKit
set_option maxRecDepth 100000

/-- A table's keys are octets. -/
def TbO (X : Tb) : Prop := ∀ i, 0 ≤ (X i).v ∧ (X i).v ≤ 255
def okt (z : Int) : UInt8 := UInt8.ofNat z.toNat
theorem okt_nat {z : Int} (h0 : 0 ≤ z) (h1 : z ≤ 255) : ((okt z).toNat : Int) = z := by
  unfold okt
  rw [UInt8.toNat_ofNat']
  omega
theorem okt_of (u : UInt8) : okt (u.toNat : Int) = u := by simp [okt]
/-- A key is plain. -/
def plainB (X : Tb) (u : UInt8) : Bool := meanF X (u.toNat : Int) == 0 || (meanF X (u.toNat : Int) == 17 || meanF X (u.toNat : Int) == 18)
/-- A function's key, so often; none if it has none. -/
def kN (X : Tb) (f : Int) (n : Nat) : List UInt8 := if (keyF X f).2 then List.replicate n (okt (keyF X f).1) else []
def kL (X : Tb) (f : Int) : List UInt8 := kN X f 1
/-- An octet, octets, as they are told. -/
def tell1 (X : Tb) (u : UInt8) : List UInt8 := if plainB X u then [u] else kL X 14 ++ [u]
def toldL (X : Tb) (l : List UInt8) : List UInt8 := l.flatMap (tell1 X)
/-- The first move that has a key. -/
def firstL (X : Tb) : List (Int × Nat) → List UInt8
  | [] => []
  | m :: ms => if (keyF X m.1).2 then List.replicate m.2 (okt (keyF X m.1).1) else firstL X ms
def homeL (X : Tb) (n : Nat) : List UInt8 := if n = 0 then [] else firstL X [(23, 1), (19, n), (21, n)]
/-- Keys that renew a state. -/
def keysL (X : Tb) (s : Ed) : List UInt8 := toldL X (s.l.drop s.t) ++ (homeL X (s.l.drop s.t).length ++ toldL X (s.l.take s.t)) ++ (if s.ov then kL X 26 else []) ++ (if s.li then kL X 14 else [])

theorem keyF_bound {X : Tb} (hX : TbO X) (f : Int) : 0 ≤ (keyF X f).1 ∧ (keyF X f).1 ≤ 255 := by
  unfold keyF
  split
  · exact ⟨by decide, by decide⟩
  split
  · exact hX _
  · exact ⟨by decide, by decide⟩
/-- A function's key means it. -/
theorem keyF_mean {X : Tb} {f : Nat} (h : (keyF X (f : Int)).2 = true) : meanF X (keyF X (f : Int)).1 = f := by
  unfold keyF at h ⊢
  split
  · rename_i h1
    obtain rfl : f = 31 := by omega
    rfl
  · rename_i h1
    rw [if_neg h1] at h
    split
    · rename_i h2
      have := h2.2.2
      simpa using this
    · rename_i h2
      rw [if_neg h2] at h
      cases h
theorem keyF_oct {X : Tb} (hX : TbO X) {f : Nat} (h : (keyF X (f : Int)).2 = true) : meanF X ((okt (keyF X (f : Int)).1).toNat : Int) = f := by
  obtain ⟨h0, h1⟩ := keyF_bound hX (f : Int)
  rw [okt_nat h0 h1]
  exact keyF_mean h
/-- What a key means has a key. -/
theorem mean_has {X : Tb} {u : UInt8} {m : Nat} (hm : meanF X (u.toNat : Int) = m) (h : m ≠ 0) : (keyF X (m : Int)).2 = true := by rw [key_mean hm h]

theorem kN_len (X : Tb) (f : Int) (n : Nat) : (kN X f n).length ≤ n := by unfold kN; split <;> simp
theorem tell1_len (X : Tb) (u : UInt8) : 1 ≤ (tell1 X u).length ∧ (tell1 X u).length ≤ 2 := by
  unfold tell1
  have := kN_len X 14 1
  split <;> simp [kL] <;> omega
theorem toldL_len (X : Tb) : ∀ l : List UInt8, l.length ≤ (toldL X l).length ∧ (toldL X l).length ≤ 2 * l.length
  | [] => ⟨by simp [toldL], by simp [toldL]⟩
  | u :: l => by
    have h1 := toldL_len X l
    have h2 := tell1_len X u
    unfold toldL at h1 ⊢
    rw [List.flatMap_cons, List.length_append, List.length_cons]
    omega
theorem homeL_len (X : Tb) (n : Nat) : (homeL X n).length ≤ n := by
  unfold homeL firstL firstL firstL firstL
  split
  · simp
  · dsimp only
    split
    · simp; omega
    split
    · simp
    split
    · simp
    · simp
theorem keysL_len (X : Tb) (s : Ed) : (keysL X s).length ≤ 3 * s.l.length + 2 ∧ s.l.length ≤ (keysL X s).length := by
  have h1 := toldL_len X (s.l.drop s.t)
  have h2 := toldL_len X (s.l.take s.t)
  have h3 := homeL_len X (s.l.drop s.t).length
  have h4 : (if s.ov then kL X 26 else []).length ≤ 1 := by split; exact kN_len X 26 1; simp
  have h5 : (if s.li then kL X 14 else []).length ≤ 1 := by split; exact kN_len X 14 1; simp
  unfold keysL
  simp only [List.length_append]
  simp only [List.length_drop, List.length_take] at h1 h2 h3 ⊢
  omega
theorem keysL_zero (X : Tb) : keysL X zE = [] := by simp [keysL, zE, toldL, homeL]
theorem toldL_plain {X : Tb} : ∀ {l : List UInt8}, (∀ u ∈ l, plainB X u = true) → toldL X l = l
  | [], _ => rfl
  | u :: l, h => by
    unfold toldL
    rw [List.flatMap_cons]
    have h1 : tell1 X u = [u] := by unfold tell1; rw [if_pos (h u (by simp))]
    have h2 := toldL_plain (l := l) fun v hv => h v (by simp [hv])
    unfold toldL at h2
    rw [h1, h2]
    rfl
theorem toldL_succ (X : Tb) {l : List UInt8} {k : Nat} (h : k < l.length) : toldL X (l.take (k + 1)) = toldL X (l.take k) ++ tell1 X l[k] := by
  unfold toldL
  rw [List.take_succ_eq_append_getElem h, List.flatMap_append]
  simp

/-- What holds of each state that is reached. -/
structure Inv (X : Tb) (room : Int) (s : Ed) : Prop where
  ok : s.ok
  rm : s.l = [] ∨ (s.l.length : Int) ≤ room
  ov : s.ov = true → (keyF X 26).2 = true
  li : s.li = true → (keyF X 14).2 = true
  oc : ∀ u ∈ s.l, plainB X u = true ∨ (keyF X 14).2 = true
  hm : s.t < s.l.length → (keyF X 23).2 = true ∨ (keyF X 19).2 = true ∨ (keyF X 21).2 = true
theorem Inv.zero (X : Tb) (room : Int) : Inv X room zE := ⟨zE_ok, .inl rfl, by simp [zE], by simp [zE], by simp [zE], by simp [zE]⟩

theorem do_inv {l m : List UInt8} {t q : Nat} {f : Int} (ht : t ≤ l.length) (h : doL l t f = some (m, q)) : (∀ u ∈ m, u ∈ l) ∧ (q < m.length → t < l.length ∨ f = 23 ∨ f = 19 ∨ f = 21) := by
  have h1 := back_le l t
  have h2 := on_ge l t
  have h3 := on_le l ht
  have two : ∀ a b : Nat, ∀ u ∈ l.take a ++ l.drop b, u ∈ l := fun a b u hu => by
    rcases List.mem_append.1 hu with hu | hu
    · exact List.mem_of_mem_take hu
    · exact List.mem_of_mem_drop hu
  unfold doL at h
  by_cases h9 : f = 10
  · rw [if_pos h9] at h
    simp only [Option.some.injEq, Prod.mk.injEq] at h
    obtain ⟨rfl, rfl⟩ := h
    exact ⟨two _ _, fun hq => .inl (by simp only [List.length_append, List.length_take, List.length_drop] at hq; omega)⟩
  rw [if_neg h9] at h
  clear h9
  by_cases h9 : f = 27
  · rw [if_pos h9] at h
    simp only [Option.some.injEq, Prod.mk.injEq] at h
    obtain ⟨rfl, rfl⟩ := h
    exact ⟨two _ _, fun hq => .inl (by simp only [List.length_append, List.length_take, List.length_drop] at hq; omega)⟩
  rw [if_neg h9] at h
  clear h9
  by_cases h9 : f = 12
  · rw [if_pos h9] at h
    simp only [Option.some.injEq, Prod.mk.injEq] at h
    obtain ⟨rfl, rfl⟩ := h
    exact ⟨two _ _, fun hq => .inl (by simp only [List.length_append, List.length_take, List.length_drop] at hq; omega)⟩
  rw [if_neg h9] at h
  clear h9
  by_cases h9 : f = 28
  · rw [if_pos h9] at h
    simp only [Option.some.injEq, Prod.mk.injEq] at h
    obtain ⟨rfl, rfl⟩ := h
    exact ⟨two _ _, fun hq => .inl (by simp only [List.length_append, List.length_take, List.length_drop] at hq; omega)⟩
  rw [if_neg h9] at h
  clear h9
  by_cases h9 : f = 29
  · rw [if_pos h9] at h
    simp only [Option.some.injEq, Prod.mk.injEq] at h
    obtain ⟨rfl, rfl⟩ := h
    exact ⟨fun u hu => List.mem_of_mem_drop hu, fun hq => .inl (by simp only [List.length_drop] at hq; omega)⟩
  rw [if_neg h9] at h
  clear h9
  by_cases h9 : f = 30
  · rw [if_pos h9] at h
    simp only [Option.some.injEq, Prod.mk.injEq] at h
    obtain ⟨rfl, rfl⟩ := h
    exact ⟨fun u hu => List.mem_of_mem_take hu, fun hq => .inl (by simp only [List.length_take] at hq; omega)⟩
  rw [if_neg h9] at h
  clear h9
  by_cases h9 : f = 11
  · rw [if_pos h9] at h
    simp only [Option.some.injEq, Prod.mk.injEq] at h
    obtain ⟨rfl, rfl⟩ := h
    exact ⟨fun u hu => absurd hu List.not_mem_nil, fun hq => absurd hq (Nat.not_lt_zero _)⟩
  rw [if_neg h9] at h
  clear h9
  by_cases h9 : f = 19
  · rw [if_pos h9] at h
    simp only [Option.some.injEq, Prod.mk.injEq] at h
    obtain ⟨rfl, rfl⟩ := h
    exact ⟨fun u hu => hu, fun hq => .inr (.inr (.inl h9))⟩
  rw [if_neg h9] at h
  clear h9
  by_cases h9 : f = 20
  · rw [if_pos h9] at h
    simp only [Option.some.injEq, Prod.mk.injEq] at h
    obtain ⟨rfl, rfl⟩ := h
    exact ⟨fun u hu => hu, fun hq => .inl (by omega)⟩
  rw [if_neg h9] at h
  clear h9
  by_cases h9 : f = 21
  · rw [if_pos h9] at h
    simp only [Option.some.injEq, Prod.mk.injEq] at h
    obtain ⟨rfl, rfl⟩ := h
    exact ⟨fun u hu => hu, fun hq => .inr (.inr (.inr h9))⟩
  rw [if_neg h9] at h
  clear h9
  by_cases h9 : f = 22
  · rw [if_pos h9] at h
    simp only [Option.some.injEq, Prod.mk.injEq] at h
    obtain ⟨rfl, rfl⟩ := h
    exact ⟨fun u hu => hu, fun hq => .inl (by omega)⟩
  rw [if_neg h9] at h
  clear h9
  by_cases h9 : f = 23
  · rw [if_pos h9] at h
    simp only [Option.some.injEq, Prod.mk.injEq] at h
    obtain ⟨rfl, rfl⟩ := h
    exact ⟨fun u hu => hu, fun hq => .inr (.inl h9)⟩
  rw [if_neg h9] at h
  clear h9
  by_cases h9 : f = 24
  · rw [if_pos h9] at h
    simp only [Option.some.injEq, Prod.mk.injEq] at h
    obtain ⟨rfl, rfl⟩ := h
    exact ⟨fun u hu => hu, fun hq => .inl (by omega)⟩
  rw [if_neg h9] at h
  clear h9
  cases h

theorem typE_inv {X : Tb} {room : Int} {s : Ed} {u : UInt8} (h : Inv X room s) (hu : plainB X u = true ∨ (keyF X 14).2 = true) (b : Bool) (hb : b = true → s.li = true) : Inv X room (typE { s with li := b } room u).s := by
  have hok := typE_ok (s := { s with li := b }) h.ok room u
  refine ⟨hok, ?_, h.ov, fun hl => h.li (hb hl), ?_, ?_⟩
  all_goals
    unfold typE tyR
    simp only
    generalize hq : tyL s.l s.t room s.ov u = y
    rcases y with _ | ⟨m, q⟩
    · first | exact h.rm | exact h.oc | exact h.hm
    simp only [Option.getD_some]
    have hs := ty_spec h.ok.1 hq
    unfold tyL at hq
  · rcases hs.2.2 with h1 | h1
    · rcases h.rm with h2 | h2
      · rw [h2, List.length_nil] at h1
        exact .inl (List.length_eq_zero_iff.1 h1)
      · exact .inr (by omega)
    · exact .inr h1.2.1
  · have mem : ∀ a c : Nat, ∀ v ∈ s.l.take a ++ ([u] ++ s.l.drop c), plainB X v = true ∨ (keyF X 14).2 = true := fun a c v hv => by
      rcases List.mem_append.1 hv with hv | hv
      · exact h.oc v (List.mem_of_mem_take hv)
      rcases List.mem_append.1 hv with hv | hv
      · obtain rfl : v = u := by simpa using hv
        exact hu
      · exact h.oc v (List.mem_of_mem_drop hv)
    split at hq
    · cases hq
      exact mem _ _
    · split at hq
      · cases hq
      · cases hq
        exact mem _ _
  · intro hlt
    apply h.hm
    omega
theorem inv_key {X : Tb} {room : Int} {s : Ed} (h : Inv X room s) (u : UInt8) : Inv X room (keyE X room s u).s := by
  unfold keyE
  split
  · rename_i hl
    exact typE_inv h (.inr (h.li hl)) false (by simp)
  obtain ⟨m, hm⟩ : ∃ m, meanF X (u.toNat : Int) = m := ⟨_, rfl⟩
  rw [hm]
  unfold actE
  split
  · unfold sigE sigS
    simp only
    split
    · exact ⟨h.ok, h.rm, h.ov, by simp, h.oc, h.hm⟩
    · exact Inv.zero X room
  split
  · rename_i hp
    exact typE_inv h (.inl (by unfold plainB; rw [hm]; simp; omega)) s.li id
  split
  · exact Inv.zero X room
  split
  · rename_i h14
    have h14' : m = 14 := by omega
    exact ⟨h.ok, h.rm, h.ov, fun _ => mean_has (hm.trans h14') (by decide), h.oc, h.hm⟩
  split
  · exact ⟨h.ok, h.rm, by simp, h.li, h.oc, h.hm⟩
  split
  · rename_i h26
    have h26' : m = 26 := by omega
    exact ⟨h.ok, h.rm, fun _ => mean_has (hm.trans h26') (by decide), h.li, h.oc, h.hm⟩
  split
  · exact h
  unfold doR
  simp only
  cases hq : doL s.l s.t (m : Int) with
  | none => exact ⟨h.ok, h.rm, h.ov, h.li, h.oc, h.hm⟩
  | some p =>
    obtain ⟨m', q⟩ := p
    simp only [Option.getD_some]
    have hs := do_spec h.ok.1 hq
    have hi := do_inv h.ok.1 hq
    have hk := h.ok.2
    refine ⟨⟨hs.1, Nat.le_trans hs.2 hk⟩, ?_, h.ov, h.li, fun v hv => h.oc v (hi.1 v hv), fun hlt => ?_⟩
    · rcases h.rm with h2 | h2
      · refine .inl (List.length_eq_zero_iff.1 ?_)
        show m'.length = 0
        have := hs.2
        rw [h2, List.length_nil] at this
        omega
      · refine .inr ?_
        show (m'.length : Int) ≤ room
        have := hs.2
        omega
    · rcases hi.2 hlt with h1 | h1 | h1 | h1
      · exact h.hm h1
      · have h1' : m = 23 := by omega
        exact .inl (mean_has (hm.trans h1') (by decide))
      · have h1' : m = 19 := by omega
        exact .inr (.inl (mean_has (hm.trans h1') (by decide)))
      · have h1' : m = 21 := by omega
        exact .inr (.inr (mean_has (hm.trans h1') (by decide)))
theorem inv_play {X : Tb} {room : Int} : ∀ {us : List UInt8} {r : Res}, Inv X room r.s → Inv X room (playE X room r us).s
  | [], _, h => h
  | u :: us, r, h => inv_play (us := us) (r := ⟨(keyE X room r.s u).s, r.es ++ (keyE X room r.s u).es, r.n + (keyE X room r.s u).n⟩) (inv_key h u)

/-- A key that does nothing but change the state. -/
theorem play_one {X : Tb} {room : Int} {s s' : Ed} {u : UInt8} (h : keyE X room s u = ⟨s', [], 0⟩) (es : List Ev) (n : Nat) : playE X room ⟨s, es, n⟩ [u] = ⟨s', es, n⟩ := by
  unfold playE playE
  rw [h]
  simp
theorem typ_at {room : Int} {l : List UInt8} {t : Nat} (u : UInt8) (h1 : (l.length : Int) < room) (h2 : l.length < 4096) : typE ⟨l, t, false, false⟩ room u = ⟨⟨l.take t ++ ([u] ++ l.drop t), t + 1, false, false⟩, [], 0⟩ := by
  have : tyL l t room false u = some (l.take t ++ ([u] ++ l.drop t), t + 1) := by
    unfold tyL
    rw [if_neg (by simp), if_neg (by omega)]
  unfold typE tyR
  simp [this]
theorem play_tell1 {X : Tb} (hX : TbO X) {room : Int} {l : List UInt8} {t : Nat} {u : UInt8} (h1 : (l.length : Int) < room) (h2 : l.length < 4096) (hu : plainB X u = true ∨ (keyF X 14).2 = true) (es : List Ev) (n : Nat) :
    playE X room ⟨⟨l, t, false, false⟩, es, n⟩ (tell1 X u) = ⟨⟨l.take t ++ ([u] ++ l.drop t), t + 1, false, false⟩, es, n⟩ := by
  unfold tell1
  split
  · rename_i hp
    refine play_one ?_ es n
    unfold plainB at hp
    unfold keyE
    simp only [Bool.false_eq_true, if_false]
    unfold actE
    have hm : meanF X (u.toNat : Int) = 0 ∨ meanF X (u.toNat : Int) = 17 ∨ meanF X (u.toNat : Int) = 18 := by simpa using hp
    rw [if_neg (by unfold isSig; simp; omega), if_pos (by omega)]
    exact typ_at u h1 h2
  · rename_i hp
    have h14 : (keyF X 14).2 = true := by
      rcases hu with h | h
      · exact absurd h hp
      · exact h
    have hk := keyF_oct (f := 14) hX h14
    unfold kL kN
    rw [if_pos h14]
    rw [playE_app]
    have e1 : keyE X room ⟨l, t, false, false⟩ (okt (keyF X 14).1) = ⟨⟨l, t, false, true⟩, [], 0⟩ := by
      unfold keyE
      simp only [Bool.false_eq_true, if_false]
      have hk' : meanF X ((okt (keyF X 14).1).toNat : Int) = 14 := hk
      rw [hk']
      rfl
    show playE X room (playE X room ⟨⟨l, t, false, false⟩, es, n⟩ [okt (keyF X 14).1]) [u] = _
    rw [play_one e1]
    refine play_one ?_ es n
    unfold keyE
    simp only [if_true]
    exact typ_at u h1 h2
theorem play_told {X : Tb} (hX : TbO X) {room : Int} : ∀ (b l : List UInt8) (t : Nat), t ≤ l.length → ((b = [] ∨ ((l.length + b.length : Nat) : Int) ≤ room) ∧ l.length + b.length ≤ 4096) → (∀ u ∈ b, plainB X u = true ∨ (keyF X 14).2 = true) → ∀ (es : List Ev) (n : Nat),
    playE X room ⟨⟨l, t, false, false⟩, es, n⟩ (toldL X b) = ⟨⟨l.take t ++ (b ++ l.drop t), t + b.length, false, false⟩, es, n⟩
  | [], l, t, ht, _, _, es, n => by simp [toldL, playE]
  | u :: b, l, t, ht, hr, hu, es, n => by
    have hr1 : ((l.length + (b.length + 1) : Nat) : Int) ≤ room := by
      rcases hr.1 with h | h
      · cases h
      · exact h
    have hr2 := hr.2
    rw [List.length_cons] at hr2
    have e : toldL X (u :: b) = tell1 X u ++ toldL X b := rfl
    rw [e, playE_app, play_tell1 hX (by omega) (by omega) (hu u (by simp))]
    have hlen : (l.take t ++ ([u] ++ l.drop t)).length = l.length + 1 := by simp; omega
    rw [play_told hX b _ (t + 1) (by rw [hlen]; omega) ⟨.inr (by rw [hlen]; omega), by rw [hlen]; omega⟩ (fun v hv => hu v (by simp [hv]))]
    have f1 : (l.take t ++ ([u] ++ l.drop t)).take (t + 1) = l.take t ++ [u] := by
      rw [← List.append_assoc, List.take_left' (by simp; omega)]
    have f2 : (l.take t ++ ([u] ++ l.drop t)).drop (t + 1) = l.drop t := by
      rw [← List.append_assoc, List.drop_left' (by simp; omega)]
    rw [f1, f2]
    congr 2
    · simp
    · rw [List.length_cons]; omega
theorem key_moves {X : Tb} {room : Int} {l : List UInt8} {t t' : Nat} {u : UInt8} {m : Nat} (hm : meanF X (u.toNat : Int) = m) (h19 : m = 19 ∨ m = 21 ∨ m = 23) (hd : doL l t (m : Int) = some (l, t')) : keyE X room ⟨l, t, false, false⟩ u = ⟨⟨l, t', false, false⟩, [], 0⟩ := by
  unfold keyE
  simp only [Bool.false_eq_true, if_false]
  rw [hm]
  unfold actE
  rw [if_neg (by unfold isSig; simp; omega), if_neg (by omega), if_neg (by omega), if_neg (by omega), if_neg (by omega), if_neg (by omega), if_neg (by omega)]
  unfold doR
  rw [hd]
  rfl
theorem play_left {X : Tb} {room : Int} {l : List UInt8} {u : UInt8} (hm : meanF X (u.toNat : Int) = 19) (es : List Ev) (n : Nat) : ∀ (k t : Nat), playE X room ⟨⟨l, t, false, false⟩, es, n⟩ (List.replicate k u) = ⟨⟨l, t - k, false, false⟩, es, n⟩
  | 0, t => rfl
  | k + 1, t => by
    rw [List.replicate_succ]
    show playE X room (playE X room ⟨⟨l, t, false, false⟩, es, n⟩ [u]) (List.replicate k u) = _
    rw [play_one (key_moves hm (.inl rfl) (t' := t - 1) rfl), play_left hm es n k (t - 1)]
    congr 2
    omega
theorem play_word {X : Tb} {room : Int} {l : List UInt8} {u : UInt8} (hm : meanF X (u.toNat : Int) = 21) (es : List Ev) (n : Nat) : ∀ (k t : Nat), t ≤ k → playE X room ⟨⟨l, t, false, false⟩, es, n⟩ (List.replicate k u) = ⟨⟨l, 0, false, false⟩, es, n⟩
  | 0, t, h => by
    obtain rfl : t = 0 := by omega
    rfl
  | k + 1, t, h => by
    rw [List.replicate_succ]
    show playE X room (playE X room ⟨⟨l, t, false, false⟩, es, n⟩ [u]) (List.replicate k u) = _
    have hb := back_spec l t
    rw [play_one (key_moves hm (.inr (.inl rfl)) (t' := backL l t) rfl), play_word hm es n k (backL l t) (by
      rcases hb.2 with h0 | h0
      · have := back_le l t; omega
      · omega)]
theorem play_home {X : Tb} (hX : TbO X) {room : Int} (b : List UInt8) (hh : 0 < b.length → (keyF X 23).2 = true ∨ (keyF X 19).2 = true ∨ (keyF X 21).2 = true) (es : List Ev) (n : Nat) :
    playE X room ⟨⟨b, b.length, false, false⟩, es, n⟩ (homeL X b.length) = ⟨⟨b, 0, false, false⟩, es, n⟩ := by
  unfold homeL firstL firstL firstL firstL
  split
  · rename_i h0
    rw [h0]
    rfl
  rename_i h0
  have hh := hh (by omega)
  dsimp only
  split
  · rename_i hk
    exact play_one (u := okt (keyF X 23).1) (key_moves (keyF_oct (f := 23) hX hk) (.inr (.inr rfl)) (t' := 0) rfl) es n
  split
  · rename_i hk
    have := play_left (X := X) (room := room) (l := b) (keyF_oct (f := 19) hX hk) es n b.length b.length
    rw [Nat.sub_self] at this
    exact this
  split
  · rename_i hk
    exact play_word (keyF_oct (f := 21) hX hk) es n _ _ (Nat.le_refl _)
  · rename_i a1 a2 a3
    rcases hh with h | h | h
    · exact absurd h a1
    · exact absurd h a2
    · exact absurd h a3

/-- The keys that renew a state that is reached lead to it. -/
theorem makes {X : Tb} (hX : TbO X) {room : Int} {s : Ed} (h : Inv X room s) : playE X room ⟨zE, [], 0⟩ (keysL X s) = ⟨s, [], 0⟩ := by
  obtain ⟨l, t, ov, li⟩ := s
  obtain ⟨⟨h1, h2⟩, hrm, hov, hli, hoc, hhm⟩ := h
  simp only at h1 h2 hrm hov hli hoc hhm
  have hsum : (l.drop t).length + (l.take t).length = l.length := by simp; omega
  unfold keysL
  simp only
  rw [playE_app, playE_app, playE_app, playE_app]
  have hr0 : ∀ b : List UInt8, b.length ≤ l.length → b = [] ∨ (b.length : Int) ≤ room := fun b hb => by
    rcases hrm with h | h
    · rw [h] at hb
      exact .inl (List.length_eq_zero_iff.1 (Nat.le_zero.1 hb))
    · exact .inr (by omega)
  have e1 := play_told hX (room := room) (l.drop t) [] 0 (Nat.le_refl _) ⟨by simpa using hr0 (l.drop t) (by omega), by simp; omega⟩ (fun u hu => hoc u (List.mem_of_mem_drop hu)) [] 0
  simp only [List.take_nil, List.drop_nil, List.nil_append, List.append_nil, Nat.zero_add] at e1
  rw [show (⟨[], 0, false, false⟩ : Ed) = zE from rfl] at e1
  rw [e1, play_home hX (l.drop t) (fun h => hhm (by rw [List.length_drop] at h; omega))]
  have e2 := play_told hX (room := room) (l.take t) (l.drop t) 0 (Nat.zero_le _) ⟨by
    rcases hrm with h | h
    · exact .inl (by rw [h]; simp)
    · exact .inr (by rw [hsum]; exact h), by rw [hsum]; exact h2⟩ (fun u hu => hoc u (List.mem_of_mem_take hu)) [] 0
  simp only [List.take_zero, List.drop_zero, List.nil_append, Nat.zero_add, List.take_append_drop] at e2
  rw [e2]
  have ht : (l.take t).length = t := by simp; omega
  rw [ht]
  have e3 : playE X room ⟨⟨l, t, false, false⟩, [], 0⟩ (if ov then kL X 26 else []) = ⟨⟨l, t, ov, false⟩, [], 0⟩ := by
    cases ov
    · rfl
    · simp only [if_true]
      unfold kL kN
      rw [if_pos (hov rfl)]
      refine play_one ?_ [] 0
      unfold keyE
      simp only [Bool.false_eq_true, if_false]
      have hk' : meanF X ((okt (keyF X 26).1).toNat : Int) = 26 := keyF_oct (f := 26) hX (hov rfl)
      rw [hk']
      rfl
  rw [e3]
  cases li
  · rfl
  · simp only [if_true]
    unfold kL kN
    rw [if_pos (hli rfl)]
    refine play_one ?_ [] 0
    unfold keyE
    simp only [Bool.false_eq_true, if_false]
    have hk' : meanF X ((okt (keyF X 14).1).toNat : Int) = 14 := keyF_oct (f := 14) hX (hli rfl)
    rw [hk']
    rfl
/-- Plain keys are typed, and are the keys that renew what comes. -/
theorem play_plain {X : Tb} (hX : TbO X) {b : List UInt8} (hb : ∀ u ∈ b, plainB X u = true) (hl : b.length ≤ 4096) : playE X 4096 ⟨zE, [], 0⟩ b = ⟨⟨b, b.length, false, false⟩, [], 0⟩ ∧ keysL X ⟨b, b.length, false, false⟩ = b := by
  have e := play_told hX (room := 4096) b [] 0 (Nat.le_refl _) ⟨.inr (by simp; omega), by simp; omega⟩ (fun u hu => .inl (hb u hu)) [] 0
  rw [toldL_plain hb] at e
  simp only [List.take_nil, List.drop_nil, List.nil_append, List.append_nil, Nat.zero_add] at e
  refine ⟨e, ?_⟩
  unfold keysL
  simp [toldL, homeL]
  exact toldL_plain hb

end Go.Proofs.YtlfmbfecajhffaaDoor
/-
  Layer 15 ahead of its code: talks as lists, and that what is passed on has the events of what was typed. No walks.
-/
namespace Go.Proofs.YtlfmbfecajhffaaDoor
open Go.RowKit
set_option maxRecDepth 100000

/-- A talk, and what comes of a key. -/
structure Tk where
  s : Ed
  held : Bool
structure Ty where
  ks : List UInt8
  sg : Nat
  n : Nat
def isZ (s : Ed) : Bool := (s.l == []) && (s.t == 0 && (s.ov == false && s.li == false))
theorem isZ_iff {s : Ed} : isZ s = true ↔ s = zE := by
  obtain ⟨l, t, ov, li⟩ := s
  simp [isZ, zE]
def zTk : Tk := ⟨zE, false⟩
/-- What it has is passed on. -/
def passT (X : Tb) (k : Tk) : Tk × List UInt8 := if k.held then (⟨k.s, false⟩, keysL X k.s) else (k, [])
def sgT (X : Tb) (s : Ed) (u : UInt8) : Nat := if s.li || decide (9 < meanF X (u.toNat : Int)) then 0 else meanF X (u.toNat : Int)
/-- A key is typed. -/
def typeT (X : Tb) (room : Int) (k : Tk) (u : UInt8) (edit fwd : Bool) : Tk × Ty :=
  let r := keyE X room k.s u
  if edit && ((k.held || isZ k.s) && r.es.isEmpty) then
    if fwd && !isZ r.s then (⟨r.s, false⟩, ⟨keysL X r.s, 0, r.n⟩) else (⟨r.s, true⟩, ⟨[], 0, r.n⟩)
  else (⟨r.s, false⟩, ⟨(if k.held then keysL X k.s else []) ++ [u], sgT X k.s u, r.n⟩)
/-- Where the other editor is. -/
def farT (k : Tk) : Ed := if k.held then zE else k.s

theorem passT_inv {X : Tb} {room : Int} {k : Tk} (h : Inv X room k.s) : Inv X room (passT X k).1.s := by
  unfold passT
  split <;> exact h
theorem typeT_s (X : Tb) (room : Int) (k : Tk) (u : UInt8) (edit fwd : Bool) : (typeT X room k u edit fwd).1.s = (keyE X room k.s u).s ∧ (typeT X room k u edit fwd).2.n = (keyE X room k.s u).n := by
  unfold typeT
  simp only
  split
  · split <;> exact ⟨rfl, rfl⟩
  · exact ⟨rfl, rfl⟩
theorem typeT_inv {X : Tb} {room : Int} {k : Tk} (h : Inv X room k.s) (u : UInt8) (edit fwd : Bool) : Inv X room (typeT X room k u edit fwd).1.s := by
  rw [(typeT_s X room k u edit fwd).1]
  exact inv_key h u
/-- Passed on, the other editor is where the talk is, and has told nothing. -/
theorem pass_far {X : Tb} (hX : TbO X) {room : Int} {k : Tk} (h : Inv X room k.s) : playE X room ⟨farT k, [], 0⟩ (passT X k).2 = ⟨farT (passT X k).1, [], 0⟩ := by
  unfold passT farT
  cases hk : k.held
  · simp only [Bool.false_eq_true, if_false, hk]
    rfl
  · simp only [if_true]
    exact makes hX h
theorem play_key (X : Tb) (room : Int) (s : Ed) (u : UInt8) : playE X room ⟨s, [], 0⟩ [u] = keyE X room s u := by
  unfold playE playE
  simp
/-- A key typed: the other editor tells the events of the key, and is where the talk is, or where it was if that is held. -/
theorem type_far {X : Tb} (hX : TbO X) {room : Int} {k : Tk} (h : Inv X room k.s) (u : UInt8) (edit fwd : Bool) :
    (playE X room ⟨farT k, [], 0⟩ (typeT X room k u edit fwd).2.ks).s = farT (typeT X room k u edit fwd).1 ∧ (playE X room ⟨farT k, [], 0⟩ (typeT X room k u edit fwd).2.ks).es = (keyE X room k.s u).es := by
  have hn := inv_key h u
  have hfar : playE X room ⟨farT k, [], 0⟩ (if k.held then keysL X k.s else []) = ⟨k.s, [], 0⟩ := by
    unfold farT
    cases hk : k.held
    · rfl
    · simp only [if_true]
      exact makes hX h
  unfold typeT
  simp only
  split
  · rename_i hc
    simp only [Bool.and_eq_true, Bool.or_eq_true, List.isEmpty_iff] at hc
    obtain ⟨_, hz, he⟩ := hc
    have hf : farT k = zE := by
      unfold farT
      cases hk : k.held
      · rw [hk] at hz
        rcases hz with hz | hz
        · cases hz
        · exact isZ_iff.1 hz
      · rfl
    rw [hf, he]
    split
    · rw [makes hX hn]
      exact ⟨rfl, rfl⟩
    · exact ⟨rfl, rfl⟩
  · rw [playE_app, hfar, play_key]
    exact ⟨rfl, rfl⟩
/-- What is passed on with one key, some passed on ahead of it or not. -/
theorem step_far {X : Tb} (hX : TbO X) {room : Int} {k : Tk} (h : Inv X room k.s) (p : Bool) (u : UInt8) (edit fwd : Bool) :
    let k' := if p then (passT X k).1 else k
    let sent := if p then (passT X k).2 else []
    (playE X room ⟨farT k, [], 0⟩ (sent ++ (typeT X room k' u edit fwd).2.ks)).s = farT (typeT X room k' u edit fwd).1 ∧
    (playE X room ⟨farT k, [], 0⟩ (sent ++ (typeT X room k' u edit fwd).2.ks)).es = (keyE X room k.s u).es ∧ k'.s = k.s := by
  cases p
  · simp only [Bool.false_eq_true, if_false, List.nil_append]
    exact ⟨(type_far hX h u edit fwd).1, (type_far hX h u edit fwd).2, trivial⟩
  · simp only [if_true]
    have hs : (passT X k).1.s = k.s := by unfold passT; split <;> rfl
    have h2 := type_far hX (passT_inv (X := X) h) u edit fwd
    rw [hs] at h2
    rw [playE_app, pass_far hX h]
    exact ⟨h2.1, h2.2, hs⟩
/-- A signal that is passed on: where all ahead of its key has been passed on, the key does what the signal does. -/
theorem signal_far {X : Tb} (hX : TbO X) {room : Int} {k : Tk} (h : Inv X room k.s) (u : UInt8) (edit fwd : Bool) (h0 : (typeT X room k u edit fwd).2.sg ≠ 0) :
    ∃ ks, (typeT X room k u edit fwd).2.ks = ks ++ [u] ∧ playE X room ⟨farT k, [], 0⟩ ks = ⟨k.s, [], 0⟩ ∧ 1 ≤ (typeT X room k u edit fwd).2.sg ∧ (typeT X room k u edit fwd).2.sg ≤ 9 ∧
      keyE X room k.s u = sigE k.s ((typeT X room k u edit fwd).2.sg : Int) := by
  have hfar : playE X room ⟨farT k, [], 0⟩ (if k.held then keysL X k.s else []) = ⟨k.s, [], 0⟩ := by
    unfold farT
    cases hk : k.held
    · rfl
    · simp only [if_true]
      exact makes hX h
  unfold typeT at h0 ⊢
  simp only at h0 ⊢
  split at h0
  · split at h0 <;> exact absurd rfl h0
  · rename_i hc
    rw [if_neg hc]
    refine ⟨_, rfl, hfar, ?_⟩
    simp only at h0 ⊢
    unfold sgT at h0 ⊢
    split at h0
    · exact absurd rfl h0
    · rename_i hq
      rw [if_neg hq]
      simp only [Bool.or_eq_true, decide_eq_true_eq, not_or, Bool.not_eq_true] at hq
      refine ⟨by omega, by omega, ?_⟩
      unfold keyE actE
      rw [if_neg (by rw [hq.1]; decide), if_pos (by unfold isSig; simp; omega)]

end Go.Proofs.YtlfmbfecajhffaaDoor
/-
  What an editor that works holds: a state, a table, the room, events and bells, whole ones out of their blocks and into them, by law; the table in its place. No conditions beyond those each theorem states.
-/
namespace Go.Proofs.YtlfmbfecajhffaaDoor
open Go.RowKit
set_option maxRecDepth 100000

/-- The cells of what works. -/
def wk (A : Option Addr) (n c : Nat) (z : Int) (ov li : Bool) (X : Tb) (room : Int) (iv : Value) (be : Int) : List Value :=
  .slice A n c :: .int .i64 z :: .bool ov :: .bool li :: (cs X ++ [.int .i64 room, iv, .int .i64 be])
theorem wk_len (A : Option Addr) (n c : Nat) (z : Int) (ov li : Bool) (X : Tb) (room : Int) (iv : Value) (be : Int) : (wk A n c z ov li X room iv be).length = 69 := by simp [wk, cs_len]
theorem wk_end (A : Option Addr) (n c : Nat) (z : Int) (ov li : Bool) (X : Tb) (room : Int) (iv : Value) (be : Int) :
    (wk A n c z ov li X room iv be)[66]? = some (.int .i64 room) ∧ (wk A n c z ov li X room iv be)[67]? = some iv ∧ (wk A n c z ov li X room iv be)[68]? = some (.int .i64 be) := by
  refine ⟨?_, ?_, ?_⟩
  · show (cs X ++ [.int .i64 room, iv, .int .i64 be])[62]? = _
    rw [List.getElem?_append_right (by rw [cs_len]; omega), cs_len]
    rfl
  · show (cs X ++ [.int .i64 room, iv, .int .i64 be])[63]? = _
    rw [List.getElem?_append_right (by rw [cs_len]; omega), cs_len]
    rfl
  · show (cs X ++ [.int .i64 room, iv, .int .i64 be])[64]? = _
    rw [List.getElem?_append_right (by rw [cs_len]; omega), cs_len]
    rfl
theorem wk_set67 (A : Option Addr) (n c : Nat) (z : Int) (ov li : Bool) (X : Tb) (room : Int) (iv iv' : Value) (be : Int) : (wk A n c z ov li X room iv be).set 67 iv' = wk A n c z ov li X room iv' be := by
  show _ :: _ :: _ :: _ :: (cs X ++ [.int .i64 room, iv, .int .i64 be]).set 63 iv' = _
  rw [List.set_append_right _ _ (by rw [cs_len]; omega), cs_len]
  rfl
theorem wk_set68 (A : Option Addr) (n c : Nat) (z : Int) (ov li : Bool) (X : Tb) (room : Int) (iv : Value) (be be' : Int) : (wk A n c z ov li X room iv be).set 68 (.int .i64 be') = wk A n c z ov li X room iv be' := by
  show _ :: _ :: _ :: _ :: (cs X ++ [.int .i64 room, iv, .int .i64 be]).set 64 (.int .i64 be') = _
  rw [List.set_append_right _ _ (by rw [cs_len]; omega), cs_len]
  rfl

/-- Block b is one that works. -/
abbrev WB (W : World) (b : Nat) (A : Option Addr) (n c : Nat) (z : Int) (ov li : Bool) (X : Tb) (room : Int) (iv : Value) (be : Int) : Prop := SR 84 W b (wk A n c z ov li X room iv be)
theorem WB.cells {W : World} {b : Nat} {A : Option Addr} {n c : Nat} {z : Int} {ov li : Bool} {X : Tb} {room : Int} {iv : Value} {be : Int} (h : WB W b A n c z ov li X room iv be) :
    W.cell? ⟨b, 0, none⟩ = some (.slice A n c) ∧ W.cell? ⟨b, 1, none⟩ = some (.int .i64 z) ∧ W.cell? ⟨b, 2, none⟩ = some (.bool ov) ∧ W.cell? ⟨b, 3, none⟩ = some (.bool li) ∧
    W.cell? ⟨b, 66, none⟩ = some (.int .i64 room) ∧ W.cell? ⟨b, 67, none⟩ = some iv ∧ W.cell? ⟨b, 68, none⟩ = some (.int .i64 be) :=
  ⟨SR.cell h 0, SR.cell h 1, SR.cell h 2, SR.cell h 3, (SR.cell h 66).trans (wk_end ..).1, (SR.cell h 67).trans (wk_end ..).2.1, (SR.cell h 68).trans (wk_end ..).2.2⟩
theorem WB.froz {W : World} {b : Nat} {A : Option Addr} {n c : Nat} {z : Int} {ov li : Bool} {X : Tb} {room : Int} {iv : Value} {be : Int} (h : WB W b A n c z ov li X room iv be) :
    W.frozen? ⟨b, 0, none⟩ = false ∧ W.frozen? ⟨b, 1, none⟩ = false ∧ W.frozen? ⟨b, 2, none⟩ = false ∧ W.frozen? ⟨b, 3, none⟩ = false ∧ W.frozen? ⟨b, 67, none⟩ = false ∧ W.frozen? ⟨b, 68, none⟩ = false :=
  ⟨SR.frozen h 0, SR.frozen h 1, SR.frozen h 2, SR.frozen h 3, SR.frozen h 67, SR.frozen h 68⟩
theorem WB.facts {W : World} {b : Nat} {A : Option Addr} {n c : Nat} {z : Int} {ov li : Bool} {X : Tb} {room : Int} {iv : Value} {be : Int} (h : WB W b A n c z ov li X room iv be) : rowOf W b = (wk A n c z ov li X room iv be).toArray ∧ isRow W 84 b 69 = true := SR.facts h 69 (wk_len ..)
theorem WB.setL {W : World} {b : Nat} {A A' : Option Addr} {n c n' c' : Nat} {z z' : Int} {ov li : Bool} {X : Tb} {room : Int} {iv : Value} {be : Int} (h : WB W b A n c z ov li X room iv be) :
    WB ((W.setCell ⟨b, 0, none⟩ (.slice A' n' c')).setCell ⟨b, 1, none⟩ (.int .i64 z')) b A' n' c' z' ov li X room iv be := SR.set (SR.set h 0 _) 1 _
theorem WB.setO {W : World} {b : Nat} {A : Option Addr} {n c : Nat} {z : Int} {ov li : Bool} {X : Tb} {room : Int} {iv : Value} {be : Int} (h : WB W b A n c z ov li X room iv be) (o : Bool) :
    WB (W.setCell ⟨b, 2, none⟩ (.bool o)) b A n c z o li X room iv be := SR.set h 2 _
theorem WB.setI {W : World} {b : Nat} {A : Option Addr} {n c : Nat} {z : Int} {ov li : Bool} {X : Tb} {room : Int} {iv : Value} {be : Int} (h : WB W b A n c z ov li X room iv be) (o : Bool) :
    WB (W.setCell ⟨b, 3, none⟩ (.bool o)) b A n c z ov o X room iv be := SR.set h 3 _
theorem WB.setV {W : World} {b : Nat} {A : Option Addr} {n c : Nat} {z : Int} {ov li : Bool} {X : Tb} {room : Int} {iv : Value} {be : Int} (h : WB W b A n c z ov li X room iv be) (v : Value) :
    WB (W.setCell ⟨b, 67, none⟩ v) b A n c z ov li X room v be := by
  have := SR.set h 67 v
  rw [wk_set67] at this
  exact this
theorem WB.setN {W : World} {b : Nat} {A : Option Addr} {n c : Nat} {z : Int} {ov li : Bool} {X : Tb} {room : Int} {iv : Value} {be : Int} (h : WB W b A n c z ov li X room iv be) (k : Int) :
    WB (W.setCell ⟨b, 68, none⟩ (.int .i64 k)) b A n c z ov li X room iv k := by
  have := SR.set h 68 (.int .i64 k)
  rw [wk_set68] at this
  exact this

theorem info65 : (Tryd.prog.info? 84).map (·.size) = some 69 := by kernel_rfl
theorem ex_st65 (ρ : Operand → Value) (dst : Option Tmp) (x y : Operand) (ty : TypeId) (pos : String) (af : Array Edge) (gd : Option (Nat × Bool)) (W : World) (h : okPtr W 84 69 (ρ x) = true) (hy : okAgg 69 (ρ y) = true) :
    Sem.run Tryd.prog (execOp ρ ⟨dst, .store 84 x y, ty, pos, af, gd⟩) W = .ok .skip (W.setRow (ptrB (ρ x)) (aggC (ρ y))) := by
  obtain ⟨h1, h2⟩ := okPtr_eq h
  obtain ⟨h3, h4⟩ := isRow_sr h2
  obtain ⟨k1, k2, k3⟩ := okAgg_eq hy
  unfold execOp
  simp only []
  rw [h1, k1]
  simp only [Instr.storeAt, Instr.sureAddr, Sem.run_bind, Sem.run_pure, Result.andThen_ok, ptrB_at, aggC_at]
  rw [run_storeVar_row W _ 84 84 _ _ h3 (by rw [info65, k2]) (by rw [h4, k2]) k3]
  rfl
theorem agg69 (A : Option Addr) (n c : Nat) (z : Int) (ov li : Bool) (X : Tb) (room : Int) (A' : Option Addr) (n' c' : Nat) (be : Int) : okAgg 69 (.agg (wk A n c z ov li X room (.slice A' n' c') be).toArray) = true := by
  have h : ∀ u ∈ wk A n c z ov li X room (.slice A' n' c') be, u.oneCell' = true := by
    intro u hu
    unfold wk at hu
    simp only [List.mem_cons, List.mem_append, List.not_mem_nil, or_false] at hu
    rcases hu with rfl | rfl | rfl | rfl | hu | rfl | rfl | rfl
    · rfl
    · rfl
    · rfl
    · rfl
    · exact cs_one X u hu
    · rfl
    · rfl
    · rfl
  simp [okAgg, wk_len]
  exact h
theorem zero65 : (Tryd.prog.info? 84).map (fun i => i.zero) = some (some (.agg (wk none 0 0 0 false false zT 0 (.slice none 0 0) 0).toArray)) := by kernel_rfl
theorem ex_al65 (ρ : Operand → Value) (dst : Option Tmp) (ty : TypeId) (pos : String) (af : Array Edge) (gd : Option (Nat × Bool)) (W : World) :
    Sem.run Tryd.prog (execOp ρ ⟨dst, .alloc 84, ty, pos, af, gd⟩) W = .ok (.value (.pointer (some ⟨W.heap.size, 0, none⟩))) (W.alloc (.cells (wk none 0 0 0 false false zT 0 (.slice none 0 0) 0).toArray 84)) := by
  have h := zero65
  cases hq : Tryd.prog.info? 84 with
  | none => rw [hq] at h; cases h
  | some i =>
    rw [hq] at h
    simp only [Option.map_some, Option.some.injEq] at h
    unfold execOp
    simp [Instr.alloc, zeroValue, typeInfo, hq, h, newVar, newRow, Value.cells, go_sem]
theorem bu65 (A : Option Addr) (n c : Nat) (z : Int) (ov li : Bool) (X : Tb) (room : Int) (W : World) : Sem.run Tryd.prog (Instr.build 84 #[(0, .agg #[.slice A n c, .int .i64 z, .bool ov, .bool li]), (1, tv X), (2, .int .i64 room)]) W = .ok (.agg (wk A n c z ov li X room (.slice none 0 0) 0).toArray) W := by kernel_rfl
theorem bu65s (A : Option Addr) (n c : Nat) (z : Int) (ov li : Bool) (W : World) : Sem.run Tryd.prog (Instr.build 84 #[(0, .agg #[.slice A n c, .int .i64 z, .bool ov, .bool li])]) W = .ok (.agg (wk A n c z ov li zT 0 (.slice none 0 0) 0).toArray) W := by kernel_rfl

/-- Is it a number, a state? What is built of them. -/
def isI : Value → Bool
  | .int .i64 _ => true
  | _ => false
theorem isI_at (k : Int) : isI (.int .i64 k) = true := by simp [isI]
theorem isI_eq {v : Value} (h : isI v = true) : ∃ k, v = .int .i64 k := by
  unfold isI at h
  split at h
  · exact ⟨_, rfl⟩
  · cases h
def isS : Value → Bool
  | .agg ⟨[.slice _ _ _, .int .i64 _, .bool _, .bool _]⟩ => true
  | _ => false
theorem isS_at (A : Option Addr) (n c : Nat) (z : Int) (ov li : Bool) : isS (.agg #[.slice A n c, .int .i64 z, .bool ov, .bool li]) = true := by simp [isS]
theorem isS_eq {v : Value} (h : isS v = true) : ∃ A n c z ov li, v = .agg #[.slice A n c, .int .i64 z, .bool ov, .bool li] := by
  unfold isS at h
  split at h
  · exact ⟨_, _, _, _, _, _, rfl⟩
  · cases h
def bW (x y z : Value) : Array Value := ((aggC x).toList ++ ((aggC y).toList ++ [z, .slice none 0 0, .int .i64 0])).toArray
theorem bW_at (A : Option Addr) (n c : Nat) (z : Int) (ov li : Bool) (X : Tb) (room : Int) : bW (.agg #[.slice A n c, .int .i64 z, .bool ov, .bool li]) (tv X) (.int .i64 room) = (wk A n c z ov li X room (.slice none 0 0) 0).toArray := rfl
def bWs (x : Value) : Array Value := ((aggC x).toList ++ (cs zT ++ ([.int .i64 0, .slice none 0 0, .int .i64 0] : List Value))).toArray
theorem bWs_at (A : Option Addr) (n c : Nat) (z : Int) (ov li : Bool) : bWs (.agg #[.slice A n c, .int .i64 z, .bool ov, .bool li]) = (wk A n c z ov li zT 0 (.slice none 0 0) 0).toArray := rfl
theorem ex_bu65 (ρ : Operand → Value) (dst : Option Tmp) (x y z : Operand) (ty : TypeId) (pos : String) (af : Array Edge) (gd : Option (Nat × Bool)) (W : World) (h : isS (ρ x) = true) (hy : isT (ρ y) = true) (hz : isI (ρ z) = true) :
    Sem.run Tryd.prog (execOp ρ ⟨dst, .build 84 #[(0, x), (1, y), (2, z)], ty, pos, af, gd⟩) W = .ok (.value (.agg (bW (ρ x) (ρ y) (ρ z)))) W := by
  obtain ⟨A, n, c, q, ov, li, hk⟩ := isS_eq h
  obtain ⟨X, hX⟩ := isT_eq hy
  obtain ⟨r, hr⟩ := isI_eq hz
  unfold execOp
  simp only [List.map_toArray, List.map_cons, List.map_nil, hk, hX, hr, Sem.run_bind, bu65, Result.andThen_ok]
  rfl
theorem ex_bu65s (ρ : Operand → Value) (dst : Option Tmp) (x : Operand) (ty : TypeId) (pos : String) (af : Array Edge) (gd : Option (Nat × Bool)) (W : World) (h : isS (ρ x) = true) :
    Sem.run Tryd.prog (execOp ρ ⟨dst, .build 84 #[(0, x)], ty, pos, af, gd⟩) W = .ok (.value (.agg (bWs (ρ x)))) W := by
  obtain ⟨A, n, c, q, ov, li, hk⟩ := isS_eq h
  unfold execOp
  simp only [List.map_toArray, List.map_cons, List.map_nil, hk, Sem.run_bind, bu65s, Result.andThen_ok]
  rfl

/-- The table out of its place. -/
def ptr4 : Value → Nat
  | .pointer (some ⟨b, 4, none⟩) => b
  | _ => 0
def okPtr4 (W : World) : Value → Bool
  | .pointer (some ⟨b, 4, none⟩) => isRow W 84 b 69
  | _ => false
theorem ptr4_at (b : Nat) : ptr4 (.pointer (some ⟨b, 4, none⟩)) = b := rfl
theorem okPtr4_at (W : World) (b : Nat) : okPtr4 W (.pointer (some ⟨b, 4, none⟩)) = isRow W 84 b 69 := rfl
theorem okPtr4_eq {W : World} {v : Value} (h : okPtr4 W v = true) : v = .pointer (some ⟨ptr4 v, 4, none⟩) ∧ isRow W 84 (ptr4 v) 69 = true := by
  unfold okPtr4 at h
  split at h
  · exact ⟨rfl, h⟩
  · cases h
def cutT (row : Array Value) : Array Value := ((row.toList.drop 4).take 62).toArray
theorem cutT_at (A : Option Addr) (n c : Nat) (z : Int) (ov li : Bool) (X : Tb) (room : Int) (iv : Value) (be : Int) : cutT (wk A n c z ov li X room iv be).toArray = (cs X).toArray := by
  unfold cutT wk
  simp only [List.drop_succ_cons, List.drop_zero]
  rw [List.take_left' (cs_len X)]
theorem add4 (b j : Nat) : (⟨b, 4, none⟩ : Addr).add j = ⟨b, 4 + j, none⟩ := by unfold Addr.add; split <;> simp_all
theorem ex_ld25o (ρ : Operand → Value) (dst : Option Tmp) (x : Operand) (ty : TypeId) (pos : String) (af : Array Edge) (gd : Option (Nat × Bool)) (W : World) (h : okPtr4 W (ρ x) = true) :
    Sem.run Tryd.prog (execOp ρ ⟨dst, .load 25 x, ty, pos, af, gd⟩) W = .ok (.value (.agg (cutT (rowOf W (ptr4 (ρ x)))))) W := by
  obtain ⟨h1, h2⟩ := okPtr4_eq h
  obtain ⟨h3, h4⟩ := isRow_sr h2
  unfold execOp
  simp only []
  rw [h1]
  simp only [Instr.loadAt, Instr.sureAddr, Sem.run_bind, Sem.run_pure, Result.andThen_ok, ptr4_at]
  generalize rowOf W (ptr4 (ρ x)) = row at h3 h4 ⊢
  generalize ptr4 (ρ x) = b at h3 h4 ⊢
  have hlen : ((row.toList.drop 4).take 62).length = 62 := by simp [h4]
  have hl := run_loadCells_list (P := Tryd.prog) (w := W) ⟨b, 4, none⟩ ((row.toList.drop 4).take 62) (fun j v hv => by
    rw [add4, cell_of_row W b (4 + j) row 84 (0, 0) h3]
    rw [List.getElem?_take] at hv
    split at hv
    · rw [List.getElem?_drop] at hv
      simpa using hv
    · cases hv)
  rw [hlen] at hl
  have hagg : ∀ W, (isAgg 25).run Tryd.prog W = .ok true W := fun W => by kernel_rfl
  have hsz : ∀ W, (sizeOf 25).run Tryd.prog W = .ok 62 W := fun W => by kernel_rfl
  simp [loadVar, Sem.run_bind, hagg, hsz, hl, cutT]
theorem isRow_new65 (W : World) (A : Option Addr) (n c : Nat) (z : Int) (ov li : Bool) (X : Tb) (room : Int) (iv : Value) (be : Int) : isRow (W.alloc (.cells (wk A n c z ov li X room iv be).toArray 84)) 84 W.heap.size 69 = true := (WB.facts (SR.new 84 W _)).2

end Go.Proofs.YtlfmbfecajhffaaDoor
/-
  Rows of events in memory: reading, owning, what append makes of them. No conditions beyond those each theorem states.
-/
namespace Go.Proofs.YtlfmbfecajhffaaDoor
open Go.RowKit
set_option maxRecDepth 100000

/-- An event in memory. -/
structure EvM where
  k : Int
  f : Int
  A : Option Addr
  l : List UInt8
  c : Nat
def EvM.abs (x : EvM) : Ev := ⟨x.k, x.f, x.l⟩
/-- An event's cells. -/
def EvM.cells (x : EvM) : List Value := [.int .i64 x.k, .int .i64 x.f, .slice x.A x.l.length x.c]

/-- The slice value 'slice A L.length c' reads as the events L. -/
def RdE (w : World) (A : Option Addr) (L : List EvM) (c : Nat) : Prop :=
  L.length ≤ c ∧ c ≤ maxLen ∧
  (L ≠ [] → ∃ b off, A = some ⟨b, off, none⟩ ∧ b < w.heap.size ∧ ∀ (i : Nat) (h : i < L.length),
    w.cell? ⟨b, off + i * 3, none⟩ = some (.int .i64 L[i].k) ∧ w.cell? ⟨b, off + i * 3 + 1, none⟩ = some (.int .i64 L[i].f) ∧
    w.cell? ⟨b, off + i * 3 + 2, none⟩ = some (.slice L[i].A L[i].l.length L[i].c)) ∧
  ∀ x ∈ L, Rd w w.heap.size x.A x.l x.c

theorem RdE.at_ {w W : World} {A : Option Addr} {L : List EvM} {c : Nat} (h : RdE w A L c) (hb : Below w.heap.size w W) : RdE W A L c := by
  refine ⟨h.1, h.2.1, fun hne => ?_, fun x hx => (h.2.2.2 x hx).at_ hb⟩
  obtain ⟨b, off, e, hlt, hce⟩ := h.2.2.1 hne
  refine ⟨b, off, e, Nat.lt_of_lt_of_le hlt hb.size, fun i hi => ?_⟩
  obtain ⟨c0, c1, c2⟩ := hce i hi
  exact ⟨(hb.cell (p := ⟨b, _, none⟩) hlt).trans c0, (hb.cell (p := ⟨b, _, none⟩) hlt).trans c1, (hb.cell (p := ⟨b, _, none⟩) hlt).trans c2⟩

/-- v is an owned row of the events L. -/
def OwnE (w : World) (base : Nat) (v : Value) (L : List EvM) : Prop := w.ownsRow base 69 3 v L.length (L.flatMap EvM.cells)
theorem OwnE.nil (w : World) (base : Nat) : OwnE w base (.slice none 0 0) [] := World.ownsRow_nil w base 69 3
theorem OwnE.alloc {w : World} {base : Nat} {v : Value} {L : List EvM} (h : OwnE w base v L) (o : Obj) : OwnE (w.alloc o) base v L := World.ownsRow.alloc h o
theorem OwnE.ge {w : World} {base : Nat} {v : Value} {L : List EvM} (h : OwnE w base v L) : ∀ k, v.ownBlock = some k → base ≤ k ∧ k < w.heap.size := World.ownsRow.lt h
theorem OwnE.of_block {w w' : World} {base : Nat} {v : Value} {L : List EvM} (h : OwnE w base v L) (hk : ∀ g, v.ownBlock = some g → w'.heap[g]? = w.heap[g]?) : OwnE w' base v L := by
  refine ⟨h.1, ?_⟩
  rcases h.2 with hn | ⟨g, cap, cur, rfl, hb, hgg, rest⟩
  · exact .inl hn
  · exact .inr ⟨g, cap, cur, rfl, hb, (hk g rfl).trans hgg, rest⟩
theorem OwnE.form {w : World} {base : Nat} {v : Value} {L : List EvM} (h : OwnE w base v L) : ∃ A c, v = .slice A L.length c := by
  rcases h.2 with ⟨rfl, h0⟩ | ⟨g, cap, cur, rfl, _⟩
  · exact ⟨none, 0, by rw [h0]⟩
  · exact ⟨_, _, rfl⟩

theorem eflat_get (L : List EvM) : ∀ (i : Nat) (h : i < L.length), (L.flatMap EvM.cells)[i * 3]? = some (.int .i64 L[i].k) ∧ (L.flatMap EvM.cells)[i * 3 + 1]? = some (.int .i64 L[i].f) ∧
    (L.flatMap EvM.cells)[i * 3 + 2]? = some (.slice L[i].A L[i].l.length L[i].c) := by
  induction L with
  | nil => intro i h; simp at h
  | cons x r ih =>
    intro i h
    have e : (x :: r).flatMap EvM.cells = .int .i64 x.k :: .int .i64 x.f :: .slice x.A x.l.length x.c :: r.flatMap EvM.cells := by simp [EvM.cells]
    rw [e]
    cases i with
    | zero => exact ⟨rfl, rfl, rfl⟩
    | succ i =>
      have := ih i (by simpa using h)
      have e1 : (i + 1) * 3 = i * 3 + 1 + 1 + 1 := by omega
      simp only [e1, List.getElem?_cons_succ, List.getElem_cons_succ]
      exact this
theorem eflat_len (L : List EvM) : (L.flatMap EvM.cells).length = L.length * 3 := by
  induction L with
  | nil => rfl
  | cons x r ih =>
    rw [List.flatMap_cons, List.length_append, ih, List.length_cons]
    simp only [EvM.cells, List.length_cons, List.length_nil]
    omega
theorem eflat_one (L : List EvM) : ∀ u ∈ L.flatMap EvM.cells, u.oneCell' = true := by
  intro u hu
  obtain ⟨x, _, hx⟩ := List.mem_flatMap.1 hu
  simp only [EvM.cells, List.mem_cons, List.not_mem_nil, or_false] at hx
  rcases hx with rfl | rfl | rfl <;> rfl
theorem eflat_cells {w : World} {b : Nat} (L : List EvM) : ∀ (off : Nat), (∀ (i : Nat) (h : i < L.length),
    w.cell? ⟨b, off + i * 3, none⟩ = some (.int .i64 L[i].k) ∧ w.cell? ⟨b, off + i * 3 + 1, none⟩ = some (.int .i64 L[i].f) ∧
    w.cell? ⟨b, off + i * 3 + 2, none⟩ = some (.slice L[i].A L[i].l.length L[i].c)) →
    ∀ j u, (L.flatMap EvM.cells)[j]? = some u → w.cell? ⟨b, off + j, none⟩ = some u := by
  induction L with
  | nil => intro off _ j u hu; simp at hu
  | cons x r ih =>
    intro off h j u hu
    have e : (x :: r).flatMap EvM.cells = .int .i64 x.k :: .int .i64 x.f :: .slice x.A x.l.length x.c :: r.flatMap EvM.cells := by simp [EvM.cells]
    rw [e] at hu
    obtain ⟨h0, h1, h2⟩ := h 0 (by simp)
    simp only [Nat.zero_mul, Nat.add_zero, List.getElem_cons_zero] at h0 h1 h2
    match j, hu with
    | 0, hu => simp only [List.getElem?_cons_zero, Option.some.injEq] at hu; subst hu; exact h0
    | 1, hu => simp only [List.getElem?_cons_succ, List.getElem?_cons_zero, Option.some.injEq] at hu; subst hu; exact h1
    | 2, hu => simp only [List.getElem?_cons_succ, List.getElem?_cons_zero, Option.some.injEq] at hu; subst hu; exact h2
    | j + 3, hu =>
      simp only [List.getElem?_cons_succ] at hu
      have := ih (off + 3) (fun i hi => by
        have := h (i + 1) (by simpa using hi)
        simp only [List.getElem_cons_succ] at this
        rw [show off + 3 + i * 3 = off + (i + 1) * 3 by omega]
        exact this) j u hu
      rw [show off + (j + 3) = off + 3 + j by omega]
      exact this
theorem OwnE.rd {w : World} {base : Nat} {v : Value} {L : List EvM} (h : OwnE w base v L) (hx : ∀ x ∈ L, Rd w w.heap.size x.A x.l x.c) : ∃ A c, v = .slice A L.length c ∧ RdE w A L c := by
  rcases h.2 with ⟨rfl, h0⟩ | ⟨g, cap, cur, rfl, hbg, hg, hnc, hcm, _, _⟩
  · have : L = [] := List.eq_nil_of_length_eq_zero h0
    subst this
    exact ⟨none, 0, rfl, by simp, by simp, fun e => absurd rfl e, fun x hx => by simp at hx⟩
  · refine ⟨_, _, rfl, hnc, hcm, fun _ => ⟨g, 0, rfl, (Array.getElem?_eq_some_iff.1 hg).1, fun i hi => ?_⟩, hx⟩
    have hc := World.ownsRow.cells h (g := g) rfl
    obtain ⟨f0, f1, f2⟩ := eflat_get L i hi
    have a0 := hc _ _ f0
    have a1 := hc _ _ f1
    have a2 := hc _ _ f2
    rw [Addr.add_lit] at a0 a1 a2
    rw [show (0 : Nat) + i * 3 + 1 = 0 + (i * 3 + 1) by omega, show (0 : Nat) + i * 3 + 2 = 0 + (i * 3 + 2) by omega]
    exact ⟨a0, a1, a2⟩

theorem info53 : (Tryd.prog.info? 69).map (fun i => (i.zero, i.size, i.bytes)) = some (some (.agg #[.int .i64 0, .int .i64 0, .slice none 0 0]), 3, 40) := by kernel_rfl

theorem run_appE (w : World) (base : Nat) (ty : TypeId) (v : Value) (L : List EvM) (hown : OwnE w base v L) (A : Option Addr) (m c : Nat) (M : List EvM) (hm : m = M.length) (hr : RdE w A M c)
    (hlen : L.length + M.length ≤ 200000) (hbase : base ≤ w.heap.size) :
    ∃ v' w', (Builtin.append_ #[53, 53] ty #[v, .slice A m c]).run Tryd.prog w = .ok v' w' ∧ OwnE w' base v' (L ++ M) ∧ w.grownBy w' v.ownBlock ∧ (v'.ownBlock = v.ownBlock ∨ v'.ownBlock = some w.heap.size) := by
  subst hm
  obtain ⟨i0, hi, hz0, hz1, hz2⟩ := info_parts info53
  cases A with
  | none =>
    have : M = [] := by
      cases M with
      | nil => rfl
      | cons x r => obtain ⟨b, off, e, _⟩ := hr.2.2.1 (by simp); cases e
    subst this
    refine ⟨v, w, ?_, by simpa using hown, World.grownBy.refl w _, .inl rfl⟩
    rcases hown.2 with ⟨rfl, _⟩ | ⟨g, cap, cur, rfl, _, _, hnc, _⟩
    · simp [Builtin.append_, run_underlying Tryd.underlying53, sizeOf, typeInfo, hi, Builtin.lenOf, Builtin.firstCells]
    · simp [Builtin.append_, run_underlying Tryd.underlying53, sizeOf, typeInfo, hi, Builtin.lenOf, Builtin.firstCells, hnc, storeCells]
  | some ad =>
    obtain ⟨v', w', hrun, h2, h3, _, h5⟩ := run_append_own_at (P := Tryd.prog) w base 53 ty 69 i0 _ 3 40 Tryd.underlying53 hi hz0 hz1 hz2 rfl (by omega) v L.length (L.flatMap EvM.cells) hown ad M.length c (M.flatMap EvM.cells) (eflat_len M)
      (fun j u hu => by
        obtain ⟨b, off, e, _, hce⟩ := hr.2.2.1 (by rintro rfl; simp at hu)
        injection e with e
        subst e
        rw [Addr.add_lit]
        exact eflat_cells M off hce j u hu) (eflat_one M) (by unfold maxLen; omega) (by omega) hbase
    refine ⟨v', w', hrun, ?_, h3, h5⟩
    unfold OwnE
    rw [List.length_append, List.flatMap_append]
    exact h2

theorem wpList_appE (w : World) {ops : Array Oper} {rest : List Oper} {o : Oper} {a : Act} {Q : Exit → Act → World → Prop} (hgd : o.guard = none) (s x : Operand)
    (ho : o.op = .call { callee := .builtin .append, args := #[s, x], argTypes := #[53, 53] })
    (base : Nat) (v : Value) (L : List EvM) (hs : a.eval s = v) (hown : OwnE w base v L) (A : Option Addr) (m c : Nat) (M : List EvM) (hx : a.eval x = .slice A m c) (hm : m = M.length) (hr : RdE w A M c)
    (hlen : L.length + M.length ≤ 200000) (hbase : base ≤ w.heap.size)
    (h : ∀ v' w', OwnE w' base v' (L ++ M) → w.grownBy w' v.ownBlock → (v'.ownBlock = v.ownBlock ∨ v'.ownBlock = some w.heap.size) → wpList Tryd.prog ops Q rest (a.put o.dst v') w') : wpList Tryd.prog ops Q (o :: rest) a w := by
  obtain ⟨v', w', hrun, h2, h3, h4⟩ := run_appE w base o.type v L hown A m c M hm hr hlen hbase
  refine wpList_plain hgd fun _ hK => ?_
  unfold Oper.wp execOp
  simp only [ho, resolve, invoke, builtin, Sem.run_bind, Sem.run_pure, Result.andThen_ok, List.map_toArray, List.map_cons, List.map_nil, hs, hx, hrun]
  exact hK _ _ (h v' w' h2 h3 h4)
theorem step_appE (w : World) {ops : Array Oper} {o : Oper} {a : Act} {K : Act → World → Prop} {Q : Exit → Act → World → Prop} {E : Prop} (hgd : o.guard = none) (s x : Operand)
    (ho : o.op = .call { callee := .builtin .append, args := #[s, x], argTypes := #[53, 53] })
    (base : Nat) (v : Value) (L : List EvM) (hs : a.eval s = v) (hown : OwnE w base v L) (A : Option Addr) (m c : Nat) (M : List EvM) (hx : a.eval x = .slice A m c) (hm : m = M.length) (hr : RdE w A M c)
    (hlen : L.length + M.length ≤ 200000) (hbase : base ≤ w.heap.size)
    (h : ∀ v' w', OwnE w' base v' (L ++ M) → w.grownBy w' v.ownBlock → (v'.ownBlock = v.ownBlock ∨ v'.ownBlock = some w.heap.size) → K (a.put o.dst v') w') :
    if Region.wanted o (yielded ops a.tmps) = true then Oper.wp Tryd.prog o a w K Q else E := by
  have hw : Region.wanted o (yielded ops a.tmps) = true := by simp [Region.wanted, hgd]
  rw [if_pos hw]
  obtain ⟨v', w', hrun, h2, h3, h4⟩ := run_appE w base o.type v L hown A m c M hm hr hlen hbase
  unfold Oper.wp execOp
  simp only [ho, resolve, invoke, builtin, Sem.run_bind, Sem.run_pure, Result.andThen_ok, List.map_toArray, List.map_cons, List.map_nil, hs, hx, hrun]
  exact h v' w' h2 h3 h4

/-- One event in a new block. -/
theorem one_rdE (w : World) (X : EvM) (hr : Rd w w.heap.size X.A X.l X.c) : RdE (w.alloc (.cells #[.int .i64 X.k, .int .i64 X.f, .slice X.A X.l.length X.c] 69)) (some ⟨w.heap.size, 0, none⟩) [X] 1 := by
  have q := SR.new 69 w [.int .i64 X.k, .int .i64 X.f, .slice X.A X.l.length X.c]
  refine ⟨by simp, by unfold maxLen; omega, fun _ => ⟨w.heap.size, 0, rfl, by simp, fun i hi => ?_⟩, fun x hx => ?_⟩
  · have : i = 0 := by simpa using hi
    subst this
    exact ⟨q.cell 0, q.cell 1, q.cell 2⟩
  · have : x = X := by simpa using hx
    subst this
    exact hr.at_ (bAlloc (Below.refl _ _) _)
/-- One event in a new block, behind another new block. -/
theorem one_rdE2 (w : World) (o : Obj) (X : EvM) (hr : Rd w w.heap.size X.A X.l X.c) : RdE ((w.alloc o).alloc (.cells #[.int .i64 X.k, .int .i64 X.f, .slice X.A X.l.length X.c] 69)) (some ⟨w.heap.size + 1, 0, none⟩) [X] 1 := by
  have := one_rdE (w.alloc o) X (hr.at_ (bAlloc (Below.refl _ _) _))
  rwa [World.size_alloc] at this

end Go.Proofs.YtlfmbfecajhffaaDoor
/-
  An editor that works, in memory (WJ), and what stays of it; what is stored, what is told. No conditions beyond those each theorem states.
-/
namespace Go.Proofs.YtlfmbfecajhffaaDoor
open Go.RowKit
set_option maxRecDepth 100000

theorem Rd.of_block {w w' : World} {A : Option Addr} {l : List UInt8} {c : Nat} (h : Rd w w.heap.size A l c) (hs : w.heap.size ≤ w'.heap.size) (hk : ∀ ad, A = some ad → w'.heap[ad.block]? = w.heap[ad.block]?) : Rd w' w'.heap.size A l c := by
  refine ⟨h.1, h.2.1, fun hl => ?_, fun ad had j u hu => ?_⟩
  · obtain ⟨ad, e, hb⟩ := h.2.2.1 hl
    exact ⟨ad, e, Nat.lt_of_lt_of_le hb hs⟩
  · rw [World.cell?_of_block (w := w) (by rw [blk_add]; exact hk ad had)]
    exact h.2.2.2 ad had j u hu

/-- Where octets lie: apart from what works, and from its events. -/
def Far (w : World) (p : Nat) (iv : Value) (A : Option Addr) : Prop := ∀ ad, A = some ad → ad.block < w.heap.size ∧ ad.block ≠ p ∧ iv.ownBlock ≠ some ad.block
theorem Far.nil (w : World) (p : Nat) (iv : Value) : Far w p iv none := fun ad h => by cases h
theorem Own.far {w1 : World} {B p n c : Nat} {iv : Value} {A : Option Addr} {l : List UInt8} (ho : Own w1 B (.slice A n c) l) (hp : p < B) (hi : ∀ g, iv.ownBlock = some g → g < B) : Far w1 p iv A := by
  intro ad had
  subst had
  rcases ho.2 with ⟨e, _⟩ | ⟨g, cap, cur, e, hb, hg, _⟩
  · cases e
  · injection e with e1 _ _
    injection e1 with e1
    subst e1
    exact ⟨(Array.getElem?_eq_some_iff.1 hg).1, by show g ≠ p; omega, fun h => by have := hi _ h; show False; simp at this; omega⟩

/-- An editor in the state s that works, in the block p, by the table X, with the events L, and n bells: its octets, and what the events hold, are apart from both. -/
structure WJ (W : World) (p : Nat) (X : Tb) (room : Int) (s : Ed) (L : List EvM) (n : Int) (w : World) (A : Option Addr) (c : Nat) (iv : Value) : Prop where
  sr : WB w p A s.l.length c (s.t : Int) s.ov s.li X room iv n
  rd : Rd w w.heap.size A s.l c
  fr : Far w p iv A
  owns : OwnE w W.heap.size iv L
  ip : iv.ownBlock ≠ some p
  far : ∀ x ∈ L, Rd w w.heap.size x.A x.l x.c ∧ Far w p iv x.A
  below : Below W.heap.size W w
  base : W.heap.size ≤ p

theorem WJ.lt {W : World} {p : Nat} {X : Tb} {room : Int} {s : Ed} {L : List EvM} {n : Int} {w : World} {A : Option Addr} {c : Nat} {iv : Value} (h : WJ W p X room s L n w A c iv) : p < w.heap.size := SR.lt h.sr

/-- All but the block p stays. -/
theorem WJ.to {W : World} {p : Nat} {X : Tb} {room : Int} {s s' : Ed} {L : List EvM} {n n' : Int} {w w' : World} {A A' : Option Addr} {c c' : Nat} {iv : Value} (h : WJ W p X room s L n w A c iv)
    (hs : w.heap.size ≤ w'.heap.size) (hh : ∀ k, k < w.heap.size → k ≠ p → w'.heap[k]? = w.heap[k]?) (sr : WB w' p A' s'.l.length c' (s'.t : Int) s'.ov s'.li X room iv n')
    (rd : Rd w' w'.heap.size A' s'.l c') (fr : Far w' p iv A') (hb : Below W.heap.size W w') : WJ W p X room s' L n' w' A' c' iv where
  sr := sr
  rd := rd
  fr := fr
  owns := h.owns.of_block fun g hg => hh g (h.owns.ge g hg).2 (fun e => h.ip (by rw [hg, e]))
  ip := h.ip
  far := fun x hx => by
    obtain ⟨h1, h2⟩ := h.far x hx
    exact ⟨h1.of_block hs fun ad had => hh _ (h2 ad had).1 (h2 ad had).2.1, fun ad had => ⟨Nat.lt_of_lt_of_le (h2 ad had).1 hs, (h2 ad had).2⟩⟩
  below := hb
  base := h.base
/-- The octets stay. -/
theorem WJ.same {W : World} {p : Nat} {X : Tb} {room : Int} {s : Ed} {L : List EvM} {n n' : Int} {ov li : Bool} {w w' : World} {A : Option Addr} {c : Nat} {iv : Value} (h : WJ W p X room s L n w A c iv)
    (hs : w.heap.size ≤ w'.heap.size) (hh : ∀ k, k < w.heap.size → k ≠ p → w'.heap[k]? = w.heap[k]?) (sr : WB w' p A s.l.length c (s.t : Int) ov li X room iv n') (hb : Below W.heap.size W w') : WJ W p X room ⟨s.l, s.t, ov, li⟩ L n' w' A c iv :=
  h.to hs hh sr (h.rd.of_block hs fun ad had => hh _ (h.fr ad had).1 (h.fr ad had).2.1) (fun ad had => ⟨Nat.lt_of_lt_of_le (h.fr ad had).1 hs, (h.fr ad had).2⟩) hb

/-- New memory changes nothing. -/
theorem WJ.call {W : World} {p : Nat} {X : Tb} {room : Int} {s : Ed} {L : List EvM} {n : Int} {w w' : World} {A : Option Addr} {c : Nat} {iv : Value} (h : WJ W p X room s L n w A c iv) (hb : Below w.heap.size w w') : WJ W p X room s L n w' A c iv :=
  h.same hb.size (fun k hk _ => hb.block k hk) (SR.call h.sr hb h.lt) (h.below.trans (hb.mono h.below.size))

theorem set1_size (w : World) (p : Addr) (u : Value) : (w.setCell p u).heap.size = w.heap.size := by simp [World.setCell]
theorem WJ.setI {W : World} {p : Nat} {X : Tb} {room : Int} {s : Ed} {L : List EvM} {n : Int} {w : World} {A : Option Addr} {c : Nat} {iv : Value} (h : WJ W p X room s L n w A c iv) (o : Bool) :
    WJ W p X room ⟨s.l, s.t, s.ov, o⟩ L n (w.setCell ⟨p, 3, none⟩ (.bool o)) A c iv :=
  h.same (by rw [set1_size]; exact Nat.le_refl _) (fun k _ hk => Below.heap_setCell _ ⟨p, 3, none⟩ _ k hk) (WB.setI h.sr o) (h.below.setCell (p := ⟨p, 3, none⟩) h.base _)
theorem WJ.setO {W : World} {p : Nat} {X : Tb} {room : Int} {s : Ed} {L : List EvM} {n : Int} {w : World} {A : Option Addr} {c : Nat} {iv : Value} (h : WJ W p X room s L n w A c iv) (o : Bool) :
    WJ W p X room ⟨s.l, s.t, o, s.li⟩ L n (w.setCell ⟨p, 2, none⟩ (.bool o)) A c iv :=
  h.same (by rw [set1_size]; exact Nat.le_refl _) (fun k _ hk => Below.heap_setCell _ ⟨p, 2, none⟩ _ k hk) (WB.setO h.sr o) (h.below.setCell (p := ⟨p, 2, none⟩) h.base _)
theorem WJ.setN {W : World} {p : Nat} {X : Tb} {room : Int} {s : Ed} {L : List EvM} {n : Int} {w : World} {A : Option Addr} {c : Nat} {iv : Value} (h : WJ W p X room s L n w A c iv) (k : Int) :
    WJ W p X room s L k (w.setCell ⟨p, 68, none⟩ (.int .i64 k)) A c iv :=
  h.same (by rw [set1_size]; exact Nat.le_refl _) (fun k _ hk => Below.heap_setCell _ ⟨p, 68, none⟩ _ k hk) (WB.setN h.sr k) (h.below.setCell (p := ⟨p, 68, none⟩) h.base _)
/-- Another line. -/
theorem WJ.setL {W : World} {p : Nat} {X : Tb} {room : Int} {s : Ed} {L : List EvM} {n : Int} {w w1 : World} {A A' : Option Addr} {c c' m : Nat} {iv : Value} {l' : List UInt8} {t' : Nat} (h : WJ W p X room s L n w A c iv) (hb : Below w.heap.size w w1)
    (ho : Own w1 w.heap.size (.slice A' m c') l') (hm : l'.length = m) :
    WJ W p X room ⟨l', t', s.ov, s.li⟩ L n ((w1.setCell ⟨p, 0, none⟩ (.slice A' m c')).setCell ⟨p, 1, none⟩ (.int .i64 (t' : Int))) A' c' iv := by
  subst hm
  have hp := h.lt
  have hf : Far w1 p iv A' := ho.far hp fun g hg => (h.owns.ge g hg).2
  have hh : ∀ k, k ≠ p → ((w1.setCell ⟨p, 0, none⟩ (.slice A' l'.length c')).setCell ⟨p, 1, none⟩ (.int .i64 (t' : Int))).heap[k]? = w1.heap[k]? := fun k hk => (Below.heap_setCell _ ⟨p, 1, none⟩ _ k hk).trans (Below.heap_setCell _ ⟨p, 0, none⟩ _ k hk)
  refine h.to (by rw [set2_size]; exact hb.size) (fun k hk hne => (hh k hne).trans (hb.block k hk)) (WB.setL (SR.call h.sr hb hp)) ?_ (fun ad had => ?_) (set2_below (h.below.trans (hb.mono h.below.size)) h.base _ _)
  · exact ho.rdOf.of_block (by rw [set2_size]; exact Nat.le_refl _) fun ad had => hh _ (hf ad had).2.1
  · rw [set2_size]
    exact hf ad had

/-- The state in the block p, stored whole: the zero one. -/
def setZ (w : World) (p : Nat) : World :=
  (((w.setCell ⟨p, 0, none⟩ (.slice none 0 0)).setCell ⟨p, 1, none⟩ (.int .i64 0)).setCell ⟨p, 2, none⟩ (.bool false)).setCell ⟨p, 3, none⟩ (.bool false)
theorem setZ_heap (w : World) (p : Nat) {k : Nat} (hk : k ≠ p) : (setZ w p).heap[k]? = w.heap[k]? := by
  unfold setZ
  rw [Below.heap_setCell _ ⟨p, 3, none⟩ _ k hk, Below.heap_setCell _ ⟨p, 2, none⟩ _ k hk, Below.heap_setCell _ ⟨p, 1, none⟩ _ k hk, Below.heap_setCell _ ⟨p, 0, none⟩ _ k hk]
theorem setZ_size (w : World) (p : Nat) : (setZ w p).heap.size = w.heap.size := by simp [setZ, World.setCell]
theorem WJ.setZ {W : World} {p : Nat} {X : Tb} {room : Int} {s : Ed} {L : List EvM} {n : Int} {w : World} {A : Option Addr} {c : Nat} {iv : Value} (h : WJ W p X room s L n w A c iv) :
    WJ W p X room zE L n (setZ w p) none 0 iv :=
  h.to (by rw [setZ_size]; exact Nat.le_refl _) (fun k _ hk => setZ_heap w p hk) (SR.set (SR.set (SR.set (SR.set h.sr 0 _) 1 _) 2 _) 3 _) (Rd.nil _ _) (Far.nil _ _ _)
    ((((h.below.setCell (p := ⟨p, 0, none⟩) h.base _).setCell (p := ⟨p, 1, none⟩) h.base _).setCell (p := ⟨p, 2, none⟩) h.base _).setCell (p := ⟨p, 3, none⟩) h.base _)

/-- An event comes. -/
theorem WJ.come {W : World} {p : Nat} {X : Tb} {room : Int} {s : Ed} {L : List EvM} {n : Int} {w w1 w2 : World} {A : Option Addr} {c : Nat} {iv iv' : Value} {x : EvM} (h : WJ W p X room s L n w A c iv) (hb : Below w.heap.size w w1)
    (hX : Rd w w.heap.size x.A x.l x.c) (hXf : Far w p iv x.A)
    (ho : OwnE w2 W.heap.size iv' (L ++ [x])) (hg : w1.grownBy w2 iv.ownBlock) (hat : iv'.ownBlock = iv.ownBlock ∨ iv'.ownBlock = some w1.heap.size) :
    WJ W p X room s (L ++ [x]) n (w2.setCell ⟨p, 67, none⟩ iv') A c iv' := by
  have hsz := hb.size
  have hs2 := hg.size
  have hh : ∀ k, k ≠ p → (w2.setCell ⟨p, 67, none⟩ iv').heap[k]? = w2.heap[k]? := fun k hk => Below.heap_setCell _ ⟨p, 67, none⟩ _ k hk
  have hg2 : ∀ k, k < w.heap.size → iv.ownBlock ≠ some k → w2.heap[k]? = w.heap[k]? := fun k hk hn => (hg.block k (by omega) (fun e => hn e.symm)).trans (hb.block k hk)
  have hn : ∀ k, k < w.heap.size → iv.ownBlock ≠ some k → iv'.ownBlock ≠ some k := fun k hk hk2 => by
    rcases hat with e | e
    · rw [e]; exact hk2
    · rw [e]; intro e2; injection e2 with e2; omega
  have h3 : ∀ k, k < w.heap.size → k ≠ p → iv.ownBlock ≠ some k → (w2.setCell ⟨p, 67, none⟩ iv').heap[k]? = w.heap[k]? := fun k hk hp hl => (hh k hp).trans (hg2 k hk hl)
  have hfar : ∀ B, Far w p iv B → Far (w2.setCell ⟨p, 67, none⟩ iv') p iv' B := fun B hB ad had => by
    obtain ⟨a1, a2, a3⟩ := hB ad had
    exact ⟨by rw [set1_size]; omega, a2, hn _ a1 a3⟩
  have hrd : ∀ B l d, Rd w w.heap.size B l d → Far w p iv B → Rd (w2.setCell ⟨p, 67, none⟩ iv') (w2.setCell ⟨p, 67, none⟩ iv').heap.size B l d := fun B l d hr hB =>
    hr.of_block (by rw [set1_size]; omega) fun ad had => h3 _ (hB ad had).1 (hB ad had).2.1 (hB ad had).2.2
  exact {
    sr := WB.setV (show WB w2 p A s.l.length c (s.t : Int) s.ov s.li X room iv n from (hg2 p h.lt h.ip).trans h.sr) iv'
    rd := hrd _ _ _ h.rd h.fr
    fr := hfar _ h.fr
    owns := ho.of_block fun g hg => hh g (fun e => hn p h.lt h.ip (by rw [hg, e]))
    ip := hn p h.lt h.ip
    far := fun y hy => by
      rcases List.mem_append.1 hy with hy | hy
      · exact ⟨hrd _ _ _ (h.far y hy).1 (h.far y hy).2, hfar _ (h.far y hy).2⟩
      · have : y = x := by simpa using hy
        subst this
        exact ⟨hrd _ _ _ hX hXf, hfar _ hXf⟩
    below := ((h.below.trans (hb.mono h.below.size)).grown hg (by have := h.below.size; omega) (fun k hk => (h.owns.ge k hk).1)).setCell (p := ⟨p, 67, none⟩) h.base _
    base := h.base }
/-- What come's append leaves, ahead of the store. -/
theorem come_sr {W : World} {p : Nat} {X : Tb} {room : Int} {s : Ed} {L : List EvM} {n : Int} {w w1 w2 : World} {A : Option Addr} {c : Nat} {iv : Value} (h : WJ W p X room s L n w A c iv) (hb : Below w.heap.size w w1) (hg : w1.grownBy w2 iv.ownBlock) :
    WB w2 p A s.l.length c (s.t : Int) s.ov s.li X room iv n :=
  (hg.block p (Nat.lt_of_lt_of_le h.lt hb.size) (fun e => h.ip e.symm)).trans ((hb.block p h.lt).trans h.sr)

end Go.Proofs.YtlfmbfecajhffaaDoor
