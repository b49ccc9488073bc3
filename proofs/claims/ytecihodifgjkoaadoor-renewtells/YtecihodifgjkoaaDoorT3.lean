/-
  Concat of rows of octets. No conditions beyond those each theorem states.
-/
import Derived.Test.YtecihodifgjkoaaDoorT2
namespace Go.Proofs.YtecihodifgjkoaaDoor
open Go.RowKit
set_option maxRecDepth 100000

/-- A part: a slice of octets. -/
structure Pt where
  A : Option Addr
  n : Nat
  c : Nat
  l : List UInt8
def Pt.v (p : Pt) : Value := .slice p.A p.n p.c
def flat (Ps : List Pt) : List UInt8 := Ps.flatMap (·.l)
theorem flat_succ (Ps : List Pt) (k : Nat) (h : k < Ps.length) : flat (Ps.take (k + 1)) = flat (Ps.take k) ++ Ps[k].l := by
  unfold flat
  rw [List.take_succ_eq_append_getElem h, List.flatMap_append]
  simp
theorem flat_len (Ps : List Pt) (k : Nat) : (flat (Ps.take k)).length ≤ (flat Ps).length := by
  unfold flat
  conv => rhs; rw [← List.take_append_drop k Ps, List.flatMap_append, List.length_append]
  omega
/-- Block g is the row of the parts, and each of them reads as its octets. -/
structure RdP (w : World) (g : Nat) (Ps : List Pt) : Prop where
  b : w.heap[g]? = some (.cells (Ps.map Pt.v).toArray 26 (0, 0))
  r : ∀ p ∈ Ps, p.n = p.l.length ∧ Rd w w.heap.size p.A p.l p.c
theorem RdP.at_ {w W : World} {g : Nat} {Ps : List Pt} (h : RdP w g Ps) (hb : Below w.heap.size w W) : RdP W g Ps :=
  ⟨(hb.block g (Array.getElem?_eq_some_iff.1 h.b).1).trans h.b, fun p hp => ⟨(h.r p hp).1, (h.r p hp).2.at_ hb⟩⟩
theorem RdP.get {w : World} {g : Nat} {Ps : List Pt} (h : RdP w g Ps) {k : Nat} (hk : k < Ps.length) : w.cell? ⟨g, k, none⟩ = some (.slice Ps[k].A Ps[k].n Ps[k].c) ∧ Ps[k].n = Ps[k].l.length ∧ Rd w w.heap.size Ps[k].A Ps[k].l Ps[k].c := by
  refine ⟨?_, h.r _ (List.getElem_mem hk)⟩
  rw [cell_of_row w g k _ 26 (0, 0) h.b]
  simp [hk, Pt.v]

set_option maxHeartbeats 1000000 in
theorem concat_any (g K : Nat) (Ps : List Pt) (L : List UInt8) (w : World) (h : RdP w g Ps) (hK : K = Ps.length) (hk1 : K ≤ 1000) (hL : flat Ps = L) (hs : L.length ≤ 1000000) :
    Calls Tryd.prog 26 #[.slice (some ⟨g, 0, none⟩) K K] w fun e w' => (∃ A c, e = .returned (.slice A L.length c) ∧ Own w' w.heap.size (.slice A L.length c) L) ∧ Below w.heap.size w w' := by
  have HR := keepd h
  have HK := keepd hK
  have HL := keepd hL
  have HS := keepd hs
  have CG := keepd (grow_any L.length hs w)
  obtain ⟨M, hM⟩ : ∃ M, L.length = M := ⟨_, rfl⟩
  rw [hM] at CG
  rw [hM]
  have HM := keepd hM
  rw [hM] at hs
  have c1 : K ≤ maxLen := by unfold maxLen; omega
  unfold maxLen at c1
  clear h hK hL hM
  go_enter Tryd.func26, Tryd.ntmps26
  go_wp2_with fail
  go_loopw [3, 11] (fun vs vi wr => ∃ k s : Nat, k ≤ K ∧ vi = .int .i64 k ∧ vs = .int .i64 s ∧ Hid (s = (flat (Ps.take k)).length) ∧ s ≤ M ∧ w = wr) (fun _ vi _ => K - (intOf vi).toNat)
  case atStart => exact ⟨0, 0, by omega, rfl, rfl, rfl, by omega, rfl⟩
  case round =>
    obtain ⟨k, s, hk, rfl, rfl, HT, hsM, rfl⟩ := hrel
    by_cases hlt : k < K
    · have hkL : k < Ps.length := by rw [← HK.out]; exact hlt
      obtain ⟨hce, hn, _⟩ := HR.out.get hkL
      have hsu := flat_succ Ps k hkL
      have hle := flat_len Ps (k + 1)
      generalize Ps[k] = p at *
      obtain ⟨A, n, c, l⟩ := p
      simp only at hce hn hsu
      have hsn : (flat (Ps.take (k + 1))).length = s + n := by rw [hsu, List.length_append, ← HT.out, ← hn]
      rw [hsn, HL.out, show L.length = M from HM.out] at hle
      have HT2 := keepd hsn.symm
      have i0 : (0 : Int) ≤ (k : Int) := by omega
      have i1 : (k : Int) < (K : Int) := by omega
      have i2 : ¬ ((s : Int) + (n : Int) < 0) := by omega
      clear hsu hsn hn
      go_wp2_with fail
      go_roundw
      case rel => exact ⟨k + 1, s + n, by omega, by go_num, by go_num, HT2, by omega, by first | trivial | rfl⟩
      case measure => simp [intOf]; omega
    · obtain rfl : k = K := by omega
      obtain rfl : s = M := by
        have := HT.out
        rw [List.take_of_length_le (by rw [← HK.out]; omega), HL.out, show L.length = M from HM.out] at this
        exact this
      go_wp2_with fail
      with_reducible refine CG.out.mono ?_
      rintro e w2 ⟨⟨A0, c0, rfl, ho⟩, hb⟩
      have HO := keepd ho
      have HB := keepd hb
      clear ho hb CG
      go_wp2_with fail
      go_loopw [6, 27] (fun vs vi wr => ∃ j : Nat, j ≤ k ∧ vi = .int .i64 j ∧ Hid (Own wr w.heap.size vs (flat (Ps.take j))) ∧ Hid (Below w.heap.size w wr)) (fun _ vi _ => k - (intOf vi).toNat)
      case atStart => exact ⟨0, by omega, rfl, by simpa [flat] using HO, HB⟩
      case round =>
        obtain ⟨j, hj, rfl, HO2, HB2⟩ := hrel
        by_cases hlt2 : j < k
        · have hkL : j < Ps.length := by rw [← HK.out]; exact hlt2
          obtain ⟨hce, hn, hr⟩ := (HR.out.at_ HB2.out).get hkL
          have hsu := flat_succ Ps j hkL
          have hle := flat_len Ps (j + 1)
          generalize Ps[j] = p at *
          obtain ⟨A, n, c, l⟩ := p
          simp only at hce hn hsu hr
          have hlen : (flat (Ps.take j)).length + l.length ≤ 1000000 := by
            rw [hsu, List.length_append, HL.out] at hle
            have := HS.out
            omega
          have HSU := keepd hsu
          have HLE := keepd hlen
          have HN := keepd hn
          have HRR := keepd hr
          have i0 : (0 : Int) ≤ (j : Int) := by omega
          have i1 : (j : Int) < (k : Int) := by omega
          clear hsu hle hn hr hlen
          go_wp2_with (at_builtin; refine wpList_app _ rfl (.tmp 31) (.tmp 32) rfl w.heap.size _ (flat (Ps.take j)) rfl HO2.out _ A n c l rfl HN.out HRR.out HLE.out HB2.out.size ?_; intro v3 w3 ho3 hg3 _)
          have HB3 := keepd (app_below HB2.out HO2.out hg3)
          have HO3 : Hid (Own w3 w.heap.size v3 (flat (Ps.take (j + 1)))) := by
            show Own _ _ _ _
            rw [HSU.out]
            exact ho3
          clear ho3 hg3
          go_wp2_with fail
          go_roundw
          case rel => exact ⟨j + 1, by omega, by go_num, HO3, HB3⟩
          case measure => simp [intOf]; omega
        · obtain rfl : j = k := by omega
          have ho := HO2.out
          rw [List.take_of_length_le (by rw [← HK.out]; omega), HL.out] at ho
          obtain ⟨A, c, he, _⟩ := ho.rd
          rw [show L.length = s from HM.out] at he
          rw [he] at ho
          have HO4 := keepd ho
          have HE := keepd he
          clear ho he
          go_wp2_with fail
          go_ret
          exact ⟨⟨A, c, congrArg Ending.returned HE.out, HO4.out⟩, HB2.out⟩

end Go.Proofs.YtecihodifgjkoaaDoor
