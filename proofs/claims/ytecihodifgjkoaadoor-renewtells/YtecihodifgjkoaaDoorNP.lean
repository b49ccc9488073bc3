/-
  Keys that renew a state, as lists: what they are, and where they lead. No walks.
-/
import Derived.Test.YtecihodifgjkoaaDoorEP
namespace Go.Proofs.YtecihodifgjkoaaDoor
open Go.RowKit
set_option maxRecDepth 100000

/-- A table's keys are octets. -/
def TbO (X : Tb) : Prop := ∀ i, 0 ≤ (X i).v ∧ (X i).v ≤ 255
def okt (z : Int) : UInt8 := UInt8.ofNat z.toNat
theorem okt_nat {z : Int} (h0 : 0 ≤ z) (h1 : z ≤ 255) : ((okt z).toNat : Int) = z := by
  unfold okt
  rw [UInt8.toNat_ofNat']
  omega
theorem okt_of (u : UInt8) : okt (u.toNat : Int) = u := by simp [okt]
/-- A key is plain. -/
def plainB (X : Tb) (u : UInt8) : Bool := meanF X (u.toNat : Int) == 0 || (meanF X (u.toNat : Int) == 17 || meanF X (u.toNat : Int) == 18)
/-- A function's key, so often; none if it has none. -/
def kN (X : Tb) (f : Int) (n : Nat) : List UInt8 := if (keyF X f).2 then List.replicate n (okt (keyF X f).1) else []
def kL (X : Tb) (f : Int) : List UInt8 := kN X f 1
/-- An octet, octets, as they are told. -/
def tell1 (X : Tb) (u : UInt8) : List UInt8 := if plainB X u then [u] else kL X 14 ++ [u]
def toldL (X : Tb) (l : List UInt8) : List UInt8 := l.flatMap (tell1 X)
/-- The first move that has a key. -/
def firstL (X : Tb) : List (Int × Nat) → List UInt8
  | [] => []
  | m :: ms => if (keyF X m.1).2 then List.replicate m.2 (okt (keyF X m.1).1) else firstL X ms
def homeL (X : Tb) (n : Nat) : List UInt8 := if n = 0 then [] else firstL X [(23, 1), (19, n), (21, n)]
/-- Keys that renew a state. -/
def keysL (X : Tb) (s : Ed) : List UInt8 := toldL X (s.l.drop s.t) ++ (homeL X (s.l.drop s.t).length ++ toldL X (s.l.take s.t)) ++ (if s.ov then kL X 26 else []) ++ (if s.li then kL X 14 else [])

theorem keyF_bound {X : Tb} (hX : TbO X) (f : Int) : 0 ≤ (keyF X f).1 ∧ (keyF X f).1 ≤ 255 := by
  unfold keyF
  split
  · exact ⟨by decide, by decide⟩
  split
  · exact hX _
  · exact ⟨by decide, by decide⟩
/-- A function's key means it. -/
theorem keyF_mean {X : Tb} {f : Nat} (h : (keyF X (f : Int)).2 = true) : meanF X (keyF X (f : Int)).1 = f := by
  unfold keyF at h ⊢
  split
  · rename_i h1
    obtain rfl : f = 31 := by omega
    rfl
  · rename_i h1
    rw [if_neg h1] at h
    split
    · rename_i h2
      have := h2.2.2
      simpa using this
    · rename_i h2
      rw [if_neg h2] at h
      cases h
theorem keyF_oct {X : Tb} (hX : TbO X) {f : Nat} (h : (keyF X (f : Int)).2 = true) : meanF X ((okt (keyF X (f : Int)).1).toNat : Int) = f := by
  obtain ⟨h0, h1⟩ := keyF_bound hX (f : Int)
  rw [okt_nat h0 h1]
  exact keyF_mean h
/-- What a key means has a key. -/
theorem mean_has {X : Tb} {u : UInt8} {m : Nat} (hm : meanF X (u.toNat : Int) = m) (h : m ≠ 0) : (keyF X (m : Int)).2 = true := by rw [key_mean hm h]

theorem kN_len (X : Tb) (f : Int) (n : Nat) : (kN X f n).length ≤ n := by unfold kN; split <;> simp
theorem tell1_len (X : Tb) (u : UInt8) : 1 ≤ (tell1 X u).length ∧ (tell1 X u).length ≤ 2 := by
  unfold tell1
  have := kN_len X 14 1
  split <;> simp [kL] <;> omega
theorem toldL_len (X : Tb) : ∀ l : List UInt8, l.length ≤ (toldL X l).length ∧ (toldL X l).length ≤ 2 * l.length
  | [] => ⟨by simp [toldL], by simp [toldL]⟩
  | u :: l => by
    have h1 := toldL_len X l
    have h2 := tell1_len X u
    unfold toldL at h1 ⊢
    rw [List.flatMap_cons, List.length_append, List.length_cons]
    omega
theorem homeL_len (X : Tb) (n : Nat) : (homeL X n).length ≤ n := by
  unfold homeL firstL firstL firstL firstL
  split
  · simp
  · dsimp only
    split
    · simp; omega
    split
    · simp
    split
    · simp
    · simp
theorem keysL_len (X : Tb) (s : Ed) : (keysL X s).length ≤ 3 * s.l.length + 2 ∧ s.l.length ≤ (keysL X s).length := by
  have h1 := toldL_len X (s.l.drop s.t)
  have h2 := toldL_len X (s.l.take s.t)
  have h3 := homeL_len X (s.l.drop s.t).length
  have h4 : (if s.ov then kL X 26 else []).length ≤ 1 := by split; exact kN_len X 26 1; simp
  have h5 : (if s.li then kL X 14 else []).length ≤ 1 := by split; exact kN_len X 14 1; simp
  unfold keysL
  simp only [List.length_append]
  simp only [List.length_drop, List.length_take] at h1 h2 h3 ⊢
  omega
theorem keysL_zero (X : Tb) : keysL X zE = [] := by simp [keysL, zE, toldL, homeL]
theorem toldL_plain {X : Tb} : ∀ {l : List UInt8}, (∀ u ∈ l, plainB X u = true) → toldL X l = l
  | [], _ => rfl
  | u :: l, h => by
    unfold toldL
    rw [List.flatMap_cons]
    have h1 : tell1 X u = [u] := by unfold tell1; rw [if_pos (h u (by simp))]
    have h2 := toldL_plain (l := l) fun v hv => h v (by simp [hv])
    unfold toldL at h2
    rw [h1, h2]
    rfl
theorem toldL_succ (X : Tb) {l : List UInt8} {k : Nat} (h : k < l.length) : toldL X (l.take (k + 1)) = toldL X (l.take k) ++ tell1 X l[k] := by
  unfold toldL
  rw [List.take_succ_eq_append_getElem h, List.flatMap_append]
  simp

/-- What holds of each state that is reached. -/
structure Inv (X : Tb) (room : Int) (s : Ed) : Prop where
  ok : s.ok
  rm : s.l = [] ∨ (s.l.length : Int) ≤ room
  ov : s.ov = true → (keyF X 26).2 = true
  li : s.li = true → (keyF X 14).2 = true
  oc : ∀ u ∈ s.l, plainB X u = true ∨ (keyF X 14).2 = true
  hm : s.t < s.l.length → (keyF X 23).2 = true ∨ (keyF X 19).2 = true ∨ (keyF X 21).2 = true
theorem Inv.zero (X : Tb) (room : Int) : Inv X room zE := ⟨zE_ok, .inl rfl, by simp [zE], by simp [zE], by simp [zE], by simp [zE]⟩

theorem do_inv {l m : List UInt8} {t q : Nat} {f : Int} (ht : t ≤ l.length) (h : doL l t f = some (m, q)) : (∀ u ∈ m, u ∈ l) ∧ (q < m.length → t < l.length ∨ f = 23 ∨ f = 19 ∨ f = 21) := by
  have h1 := back_le l t
  have h2 := on_ge l t
  have h3 := on_le l ht
  have two : ∀ a b : Nat, ∀ u ∈ l.take a ++ l.drop b, u ∈ l := fun a b u hu => by
    rcases List.mem_append.1 hu with hu | hu
    · exact List.mem_of_mem_take hu
    · exact List.mem_of_mem_drop hu
  unfold doL at h
  by_cases h9 : f = 10
  · rw [if_pos h9] at h
    simp only [Option.some.injEq, Prod.mk.injEq] at h
    obtain ⟨rfl, rfl⟩ := h
    exact ⟨two _ _, fun hq => .inl (by simp only [List.length_append, List.length_take, List.length_drop] at hq; omega)⟩
  rw [if_neg h9] at h
  clear h9
  by_cases h9 : f = 27
  · rw [if_pos h9] at h
    simp only [Option.some.injEq, Prod.mk.injEq] at h
    obtain ⟨rfl, rfl⟩ := h
    exact ⟨two _ _, fun hq => .inl (by simp only [List.length_append, List.length_take, List.length_drop] at hq; omega)⟩
  rw [if_neg h9] at h
  clear h9
  by_cases h9 : f = 12
  · rw [if_pos h9] at h
    simp only [Option.some.injEq, Prod.mk.injEq] at h
    obtain ⟨rfl, rfl⟩ := h
    exact ⟨two _ _, fun hq => .inl (by simp only [List.length_append, List.length_take, List.length_drop] at hq; omega)⟩
  rw [if_neg h9] at h
  clear h9
  by_cases h9 : f = 28
  · rw [if_pos h9] at h
    simp only [Option.some.injEq, Prod.mk.injEq] at h
    obtain ⟨rfl, rfl⟩ := h
    exact ⟨two _ _, fun hq => .inl (by simp only [List.length_append, List.length_take, List.length_drop] at hq; omega)⟩
  rw [if_neg h9] at h
  clear h9
  by_cases h9 : f = 29
  · rw [if_pos h9] at h
    simp only [Option.some.injEq, Prod.mk.injEq] at h
    obtain ⟨rfl, rfl⟩ := h
    exact ⟨fun u hu => List.mem_of_mem_drop hu, fun hq => .inl (by simp only [List.length_drop] at hq; omega)⟩
  rw [if_neg h9] at h
  clear h9
  by_cases h9 : f = 30
  · rw [if_pos h9] at h
    simp only [Option.some.injEq, Prod.mk.injEq] at h
    obtain ⟨rfl, rfl⟩ := h
    exact ⟨fun u hu => List.mem_of_mem_take hu, fun hq => .inl (by simp only [List.length_take] at hq; omega)⟩
  rw [if_neg h9] at h
  clear h9
  by_cases h9 : f = 11
  · rw [if_pos h9] at h
    simp only [Option.some.injEq, Prod.mk.injEq] at h
    obtain ⟨rfl, rfl⟩ := h
    exact ⟨fun u hu => absurd hu List.not_mem_nil, fun hq => absurd hq (Nat.not_lt_zero _)⟩
  rw [if_neg h9] at h
  clear h9
  by_cases h9 : f = 19
  · rw [if_pos h9] at h
    simp only [Option.some.injEq, Prod.mk.injEq] at h
    obtain ⟨rfl, rfl⟩ := h
    exact ⟨fun u hu => hu, fun hq => .inr (.inr (.inl h9))⟩
  rw [if_neg h9] at h
  clear h9
  by_cases h9 : f = 20
  · rw [if_pos h9] at h
    simp only [Option.some.injEq, Prod.mk.injEq] at h
    obtain ⟨rfl, rfl⟩ := h
    exact ⟨fun u hu => hu, fun hq => .inl (by omega)⟩
  rw [if_neg h9] at h
  clear h9
  by_cases h9 : f = 21
  · rw [if_pos h9] at h
    simp only [Option.some.injEq, Prod.mk.injEq] at h
    obtain ⟨rfl, rfl⟩ := h
    exact ⟨fun u hu => hu, fun hq => .inr (.inr (.inr h9))⟩
  rw [if_neg h9] at h
  clear h9
  by_cases h9 : f = 22
  · rw [if_pos h9] at h
    simp only [Option.some.injEq, Prod.mk.injEq] at h
    obtain ⟨rfl, rfl⟩ := h
    exact ⟨fun u hu => hu, fun hq => .inl (by omega)⟩
  rw [if_neg h9] at h
  clear h9
  by_cases h9 : f = 23
  · rw [if_pos h9] at h
    simp only [Option.some.injEq, Prod.mk.injEq] at h
    obtain ⟨rfl, rfl⟩ := h
    exact ⟨fun u hu => hu, fun hq => .inr (.inl h9)⟩
  rw [if_neg h9] at h
  clear h9
  by_cases h9 : f = 24
  · rw [if_pos h9] at h
    simp only [Option.some.injEq, Prod.mk.injEq] at h
    obtain ⟨rfl, rfl⟩ := h
    exact ⟨fun u hu => hu, fun hq => .inl (by omega)⟩
  rw [if_neg h9] at h
  clear h9
  cases h

theorem typE_inv {X : Tb} {room : Int} {s : Ed} {u : UInt8} (h : Inv X room s) (hu : plainB X u = true ∨ (keyF X 14).2 = true) (b : Bool) (hb : b = true → s.li = true) : Inv X room (typE { s with li := b } room u).s := by
  have hok := typE_ok (s := { s with li := b }) h.ok room u
  refine ⟨hok, ?_, h.ov, fun hl => h.li (hb hl), ?_, ?_⟩
  all_goals
    unfold typE tyR
    simp only
    generalize hq : tyL s.l s.t room s.ov u = y
    rcases y with _ | ⟨m, q⟩
    · first | exact h.rm | exact h.oc | exact h.hm
    simp only [Option.getD_some]
    have hs := ty_spec h.ok.1 hq
    unfold tyL at hq
  · rcases hs.2.2 with h1 | h1
    · rcases h.rm with h2 | h2
      · rw [h2, List.length_nil] at h1
        exact .inl (List.length_eq_zero_iff.1 h1)
      · exact .inr (by omega)
    · exact .inr h1.2.1
  · have mem : ∀ a c : Nat, ∀ v ∈ s.l.take a ++ ([u] ++ s.l.drop c), plainB X v = true ∨ (keyF X 14).2 = true := fun a c v hv => by
      rcases List.mem_append.1 hv with hv | hv
      · exact h.oc v (List.mem_of_mem_take hv)
      rcases List.mem_append.1 hv with hv | hv
      · obtain rfl : v = u := by simpa using hv
        exact hu
      · exact h.oc v (List.mem_of_mem_drop hv)
    split at hq
    · cases hq
      exact mem _ _
    · split at hq
      · cases hq
      · cases hq
        exact mem _ _
  · intro hlt
    apply h.hm
    omega
theorem inv_key {X : Tb} {room : Int} {s : Ed} (h : Inv X room s) (u : UInt8) : Inv X room (keyE X room s u).s := by
  unfold keyE
  split
  · rename_i hl
    exact typE_inv h (.inr (h.li hl)) false (by simp)
  obtain ⟨m, hm⟩ : ∃ m, meanF X (u.toNat : Int) = m := ⟨_, rfl⟩
  rw [hm]
  unfold actE
  split
  · unfold sigE sigS
    simp only
    split
    · exact ⟨h.ok, h.rm, h.ov, by simp, h.oc, h.hm⟩
    · exact Inv.zero X room
  split
  · rename_i hp
    exact typE_inv h (.inl (by unfold plainB; rw [hm]; simp; omega)) s.li id
  split
  · exact Inv.zero X room
  split
  · rename_i h14
    have h14' : m = 14 := by omega
    exact ⟨h.ok, h.rm, h.ov, fun _ => mean_has (hm.trans h14') (by decide), h.oc, h.hm⟩
  split
  · exact ⟨h.ok, h.rm, by simp, h.li, h.oc, h.hm⟩
  split
  · rename_i h26
    have h26' : m = 26 := by omega
    exact ⟨h.ok, h.rm, fun _ => mean_has (hm.trans h26') (by decide), h.li, h.oc, h.hm⟩
  split
  · exact h
  unfold doR
  simp only
  cases hq : doL s.l s.t (m : Int) with
  | none => exact ⟨h.ok, h.rm, h.ov, h.li, h.oc, h.hm⟩
  | some p =>
    obtain ⟨m', q⟩ := p
    simp only [Option.getD_some]
    have hs := do_spec h.ok.1 hq
    have hi := do_inv h.ok.1 hq
    have hk := h.ok.2
    refine ⟨⟨hs.1, Nat.le_trans hs.2 hk⟩, ?_, h.ov, h.li, fun v hv => h.oc v (hi.1 v hv), fun hlt => ?_⟩
    · rcases h.rm with h2 | h2
      · refine .inl (List.length_eq_zero_iff.1 ?_)
        show m'.length = 0
        have := hs.2
        rw [h2, List.length_nil] at this
        omega
      · refine .inr ?_
        show (m'.length : Int) ≤ room
        have := hs.2
        omega
    · rcases hi.2 hlt with h1 | h1 | h1 | h1
      · exact h.hm h1
      · have h1' : m = 23 := by omega
        exact .inl (mean_has (hm.trans h1') (by decide))
      · have h1' : m = 19 := by omega
        exact .inr (.inl (mean_has (hm.trans h1') (by decide)))
      · have h1' : m = 21 := by omega
        exact .inr (.inr (mean_has (hm.trans h1') (by decide)))
theorem inv_play {X : Tb} {room : Int} : ∀ {us : List UInt8} {r : Res}, Inv X room r.s → Inv X room (playE X room r us).s
  | [], _, h => h
  | u :: us, r, h => inv_play (us := us) (r := ⟨(keyE X room r.s u).s, r.es ++ (keyE X room r.s u).es, r.n + (keyE X room r.s u).n⟩) (inv_key h u)

/-- A key that does nothing but change the state. -/
theorem play_one {X : Tb} {room : Int} {s s' : Ed} {u : UInt8} (h : keyE X room s u = ⟨s', [], 0⟩) (es : List Ev) (n : Nat) : playE X room ⟨s, es, n⟩ [u] = ⟨s', es, n⟩ := by
  unfold playE playE
  rw [h]
  simp
theorem typ_at {room : Int} {l : List UInt8} {t : Nat} (u : UInt8) (h1 : (l.length : Int) < room) (h2 : l.length < 4096) : typE ⟨l, t, false, false⟩ room u = ⟨⟨l.take t ++ ([u] ++ l.drop t), t + 1, false, false⟩, [], 0⟩ := by
  have : tyL l t room false u = some (l.take t ++ ([u] ++ l.drop t), t + 1) := by
    unfold tyL
    rw [if_neg (by simp), if_neg (by omega)]
  unfold typE tyR
  simp [this]
theorem play_tell1 {X : Tb} (hX : TbO X) {room : Int} {l : List UInt8} {t : Nat} {u : UInt8} (h1 : (l.length : Int) < room) (h2 : l.length < 4096) (hu : plainB X u = true ∨ (keyF X 14).2 = true) (es : List Ev) (n : Nat) :
    playE X room ⟨⟨l, t, false, false⟩, es, n⟩ (tell1 X u) = ⟨⟨l.take t ++ ([u] ++ l.drop t), t + 1, false, false⟩, es, n⟩ := by
  unfold tell1
  split
  · rename_i hp
    refine play_one ?_ es n
    unfold plainB at hp
    unfold keyE
    simp only [Bool.false_eq_true, if_false]
    unfold actE
    have hm : meanF X (u.toNat : Int) = 0 ∨ meanF X (u.toNat : Int) = 17 ∨ meanF X (u.toNat : Int) = 18 := by simpa using hp
    rw [if_neg (by unfold isSig; simp; omega), if_pos (by omega)]
    exact typ_at u h1 h2
  · rename_i hp
    have h14 : (keyF X 14).2 = true := by
      rcases hu with h | h
      · exact absurd h hp
      · exact h
    have hk := keyF_oct (f := 14) hX h14
    unfold kL kN
    rw [if_pos h14]
    rw [playE_app]
    have e1 : keyE X room ⟨l, t, false, false⟩ (okt (keyF X 14).1) = ⟨⟨l, t, false, true⟩, [], 0⟩ := by
      unfold keyE
      simp only [Bool.false_eq_true, if_false]
      have hk' : meanF X ((okt (keyF X 14).1).toNat : Int) = 14 := hk
      rw [hk']
      rfl
    show playE X room (playE X room ⟨⟨l, t, false, false⟩, es, n⟩ [okt (keyF X 14).1]) [u] = _
    rw [play_one e1]
    refine play_one ?_ es n
    unfold keyE
    simp only [if_true]
    exact typ_at u h1 h2
theorem play_told {X : Tb} (hX : TbO X) {room : Int} : ∀ (b l : List UInt8) (t : Nat), t ≤ l.length → ((b = [] ∨ ((l.length + b.length : Nat) : Int) ≤ room) ∧ l.length + b.length ≤ 4096) → (∀ u ∈ b, plainB X u = true ∨ (keyF X 14).2 = true) → ∀ (es : List Ev) (n : Nat),
    playE X room ⟨⟨l, t, false, false⟩, es, n⟩ (toldL X b) = ⟨⟨l.take t ++ (b ++ l.drop t), t + b.length, false, false⟩, es, n⟩
  | [], l, t, ht, _, _, es, n => by simp [toldL, playE]
  | u :: b, l, t, ht, hr, hu, es, n => by
    have hr1 : ((l.length + (b.length + 1) : Nat) : Int) ≤ room := by
      rcases hr.1 with h | h
      · cases h
      · exact h
    have hr2 := hr.2
    rw [List.length_cons] at hr2
    have e : toldL X (u :: b) = tell1 X u ++ toldL X b := rfl
    rw [e, playE_app, play_tell1 hX (by omega) (by omega) (hu u (by simp))]
    have hlen : (l.take t ++ ([u] ++ l.drop t)).length = l.length + 1 := by simp; omega
    rw [play_told hX b _ (t + 1) (by rw [hlen]; omega) ⟨.inr (by rw [hlen]; omega), by rw [hlen]; omega⟩ (fun v hv => hu v (by simp [hv]))]
    have f1 : (l.take t ++ ([u] ++ l.drop t)).take (t + 1) = l.take t ++ [u] := by
      rw [← List.append_assoc, List.take_left' (by simp; omega)]
    have f2 : (l.take t ++ ([u] ++ l.drop t)).drop (t + 1) = l.drop t := by
      rw [← List.append_assoc, List.drop_left' (by simp; omega)]
    rw [f1, f2]
    congr 2
    · simp
    · rw [List.length_cons]; omega
theorem key_moves {X : Tb} {room : Int} {l : List UInt8} {t t' : Nat} {u : UInt8} {m : Nat} (hm : meanF X (u.toNat : Int) = m) (h19 : m = 19 ∨ m = 21 ∨ m = 23) (hd : doL l t (m : Int) = some (l, t')) : keyE X room ⟨l, t, false, false⟩ u = ⟨⟨l, t', false, false⟩, [], 0⟩ := by
  unfold keyE
  simp only [Bool.false_eq_true, if_false]
  rw [hm]
  unfold actE
  rw [if_neg (by unfold isSig; simp; omega), if_neg (by omega), if_neg (by omega), if_neg (by omega), if_neg (by omega), if_neg (by omega), if_neg (by omega)]
  unfold doR
  rw [hd]
  rfl
theorem play_left {X : Tb} {room : Int} {l : List UInt8} {u : UInt8} (hm : meanF X (u.toNat : Int) = 19) (es : List Ev) (n : Nat) : ∀ (k t : Nat), playE X room ⟨⟨l, t, false, false⟩, es, n⟩ (List.replicate k u) = ⟨⟨l, t - k, false, false⟩, es, n⟩
  | 0, t => rfl
  | k + 1, t => by
    rw [List.replicate_succ]
    show playE X room (playE X room ⟨⟨l, t, false, false⟩, es, n⟩ [u]) (List.replicate k u) = _
    rw [play_one (key_moves hm (.inl rfl) (t' := t - 1) rfl), play_left hm es n k (t - 1)]
    congr 2
    omega
theorem play_word {X : Tb} {room : Int} {l : List UInt8} {u : UInt8} (hm : meanF X (u.toNat : Int) = 21) (es : List Ev) (n : Nat) : ∀ (k t : Nat), t ≤ k → playE X room ⟨⟨l, t, false, false⟩, es, n⟩ (List.replicate k u) = ⟨⟨l, 0, false, false⟩, es, n⟩
  | 0, t, h => by
    obtain rfl : t = 0 := by omega
    rfl
  | k + 1, t, h => by
    rw [List.replicate_succ]
    show playE X room (playE X room ⟨⟨l, t, false, false⟩, es, n⟩ [u]) (List.replicate k u) = _
    have hb := back_spec l t
    rw [play_one (key_moves hm (.inr (.inl rfl)) (t' := backL l t) rfl), play_word hm es n k (backL l t) (by
      rcases hb.2 with h0 | h0
      · have := back_le l t; omega
      · omega)]
theorem play_home {X : Tb} (hX : TbO X) {room : Int} (b : List UInt8) (hh : 0 < b.length → (keyF X 23).2 = true ∨ (keyF X 19).2 = true ∨ (keyF X 21).2 = true) (es : List Ev) (n : Nat) :
    playE X room ⟨⟨b, b.length, false, false⟩, es, n⟩ (homeL X b.length) = ⟨⟨b, 0, false, false⟩, es, n⟩ := by
  unfold homeL firstL firstL firstL firstL
  split
  · rename_i h0
    rw [h0]
    rfl
  rename_i h0
  have hh := hh (by omega)
  dsimp only
  split
  · rename_i hk
    exact play_one (u := okt (keyF X 23).1) (key_moves (keyF_oct (f := 23) hX hk) (.inr (.inr rfl)) (t' := 0) rfl) es n
  split
  · rename_i hk
    have := play_left (X := X) (room := room) (l := b) (keyF_oct (f := 19) hX hk) es n b.length b.length
    rw [Nat.sub_self] at this
    exact this
  split
  · rename_i hk
    exact play_word (keyF_oct (f := 21) hX hk) es n _ _ (Nat.le_refl _)
  · rename_i a1 a2 a3
    rcases hh with h | h | h
    · exact absurd h a1
    · exact absurd h a2
    · exact absurd h a3

/-- The keys that renew a state that is reached lead to it. -/
theorem makes {X : Tb} (hX : TbO X) {room : Int} {s : Ed} (h : Inv X room s) : playE X room ⟨zE, [], 0⟩ (keysL X s) = ⟨s, [], 0⟩ := by
  obtain ⟨l, t, ov, li⟩ := s
  obtain ⟨⟨h1, h2⟩, hrm, hov, hli, hoc, hhm⟩ := h
  simp only at h1 h2 hrm hov hli hoc hhm
  have hsum : (l.drop t).length + (l.take t).length = l.length := by simp; omega
  unfold keysL
  simp only
  rw [playE_app, playE_app, playE_app, playE_app]
  have hr0 : ∀ b : List UInt8, b.length ≤ l.length → b = [] ∨ (b.length : Int) ≤ room := fun b hb => by
    rcases hrm with h | h
    · rw [h] at hb
      exact .inl (List.length_eq_zero_iff.1 (Nat.le_zero.1 hb))
    · exact .inr (by omega)
  have e1 := play_told hX (room := room) (l.drop t) [] 0 (Nat.le_refl _) ⟨by simpa using hr0 (l.drop t) (by omega), by simp; omega⟩ (fun u hu => hoc u (List.mem_of_mem_drop hu)) [] 0
  simp only [List.take_nil, List.drop_nil, List.nil_append, List.append_nil, Nat.zero_add] at e1
  rw [show (⟨[], 0, false, false⟩ : Ed) = zE from rfl] at e1
  rw [e1, play_home hX (l.drop t) (fun h => hhm (by rw [List.length_drop] at h; omega))]
  have e2 := play_told hX (room := room) (l.take t) (l.drop t) 0 (Nat.zero_le _) ⟨by
    rcases hrm with h | h
    · exact .inl (by rw [h]; simp)
    · exact .inr (by rw [hsum]; exact h), by rw [hsum]; exact h2⟩ (fun u hu => hoc u (List.mem_of_mem_take hu)) [] 0
  simp only [List.take_zero, List.drop_zero, List.nil_append, Nat.zero_add, List.take_append_drop] at e2
  rw [e2]
  have ht : (l.take t).length = t := by simp; omega
  rw [ht]
  have e3 : playE X room ⟨⟨l, t, false, false⟩, [], 0⟩ (if ov then kL X 26 else []) = ⟨⟨l, t, ov, false⟩, [], 0⟩ := by
    cases ov
    · rfl
    · simp only [if_true]
      unfold kL kN
      rw [if_pos (hov rfl)]
      refine play_one ?_ [] 0
      unfold keyE
      simp only [Bool.false_eq_true, if_false]
      have hk' : meanF X ((okt (keyF X 26).1).toNat : Int) = 26 := keyF_oct (f := 26) hX (hov rfl)
      rw [hk']
      rfl
  rw [e3]
  cases li
  · rfl
  · simp only [if_true]
    unfold kL kN
    rw [if_pos (hli rfl)]
    refine play_one ?_ [] 0
    unfold keyE
    simp only [Bool.false_eq_true, if_false]
    have hk' : meanF X ((okt (keyF X 14).1).toNat : Int) = 14 := keyF_oct (f := 14) hX (hli rfl)
    rw [hk']
    rfl
/-- Plain keys are typed, and are the keys that renew what comes. -/
theorem play_plain {X : Tb} (hX : TbO X) {b : List UInt8} (hb : ∀ u ∈ b, plainB X u = true) (hl : b.length ≤ 4096) : playE X 4096 ⟨zE, [], 0⟩ b = ⟨⟨b, b.length, false, false⟩, [], 0⟩ ∧ keysL X ⟨b, b.length, false, false⟩ = b := by
  have e := play_told hX (room := 4096) b [] 0 (Nat.le_refl _) ⟨.inr (by simp; omega), by simp; omega⟩ (fun u hu => .inl (hb u hu)) [] 0
  rw [toldL_plain hb] at e
  simp only [List.take_nil, List.drop_nil, List.nil_append, List.append_nil, Nat.zero_add] at e
  refine ⟨e, ?_⟩
  unfold keysL
  simp [toldL, homeL]
  exact toldL_plain hb

end Go.Proofs.YtecihodifgjkoaaDoor
