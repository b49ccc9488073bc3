/-
  The law ItemData, walked: it returns true, whatever the octets.
-/
import Derived.Test.YtagfoidljficoaaDoorLong
import Derived.Test.YtagfoidljficoaaDoorJ1
import Derived.Test.YtagfoidljficoaaDoorJ2
import Derived.Test.YtagfoidljficoaaDoorT8
namespace Go.Proofs.YtagfoidljficoaaDoor
open Go.RowKit

theorem u8_self (u : UInt8) : u8 (u.toNat : Int) = u := by
  unfold u8
  rw [Int.toNat_natCast]
  exact UInt8.ofNat_toNat

theorem oct_self (u : UInt8) : oct (u.toNat : Int) = true := by
  have := u.toNat_lt
  exact decide_eq_true ⟨by omega, by omega⟩

theorem datum_may (u : UInt8) : (datum u).may = true := by
  unfold Itm.may mayN datum
  rw [if_pos rfl, oct_self]
  rfl

theorem datum_lies (u : UInt8) : (datum u).lies = layL [u] := by
  unfold Itm.lies liesN datum
  rw [if_pos rfl, u8_self]

theorem dataL_may (l : List UInt8) : allMay (dataL l) = true := by
  unfold allMay dataL
  rw [List.all_eq_true]
  intro x hx
  obtain ⟨u, _, rfl⟩ := List.mem_map.1 hx
  exact datum_may u

theorem dataL_lies (l : List UInt8) : liesAll (dataL l) = layL l := by
  induction l with
  | nil => rfl
  | cons u r ih =>
    have : liesAll (dataL (u :: r)) = (datum u).lies ++ liesAll (dataL r) := by simp [liesAll, dataL]
    rw [this, ih, datum_lies, layL_cons, layL_cons]
    simp [layL]

theorem dataL_put (l : List UInt8) : putL (dataL l) = layL l := by rw [putL_yes (dataL_may l), dataL_lies]

theorem datum_same (u v : UInt8) : sameI (datum u) (datum v) = (u == v) := by
  unfold sameI datum
  show ((1 : Int) == 1 && ((u.toNat : Int) == (v.toNat : Int)) && (0 : Int) == 0 && ([] : List UInt8) == []) = _
  rw [u8_beq]
  simp

theorem dataL_same : ∀ (a b : List UInt8), sameL (dataL a) (dataL b) = (a == b)
  | [], [] => rfl
  | [], _ :: _ => rfl
  | _ :: _, [] => rfl
  | u :: r, v :: s => by
    have h := dataL_same r s
    show (sameI (datum u) (datum v) && sameL (dataL r) (dataL s)) = _
    rw [h, datum_same]
    rfl

theorem dataL_get (l : List UInt8) (k : Nat) (h : k < (dataL l).length) (h' : k < l.length) : (dataL l)[k] = datum l[k] := by simp [dataL]

/-- An item's cells and an octet's, in every world that has w1's old memory. -/
theorem sOf5 {w1 W : World} {b b' o : Nat} {o' : Nat} {u0 u1 u2 u3 v : Value} (k0 : w1.cell? ⟨b, o, none⟩ = some u0) (k1 : w1.cell? ⟨b, o + 1, none⟩ = some u1) (k2 : w1.cell? ⟨b, o + 2, none⟩ = some u2) (k3 : w1.cell? ⟨b, o + 3, none⟩ = some u3)
    (k4 : w1.cell? ⟨b', o', none⟩ = some v) (hb : b < w1.heap.size) (hb' : b' < w1.heap.size) (h : Below w1.heap.size w1 W) :
    W.cell? ⟨b, o, none⟩ = some u0 ∧ W.cell? ⟨b, o + 1, none⟩ = some u1 ∧ W.cell? ⟨b, o + 2, none⟩ = some u2 ∧ W.cell? ⟨b, o + 3, none⟩ = some u3 ∧ W.cell? ⟨b', o', none⟩ = some v ∧ Below w1.heap.size w1 W :=
  ⟨(h.cell (p := ⟨b, o, none⟩) hb).trans k0, (h.cell (p := ⟨b, o + 1, none⟩) hb).trans k1, (h.cell (p := ⟨b, o + 2, none⟩) hb).trans k2, (h.cell (p := ⟨b, o + 3, none⟩) hb).trans k3, (h.cell (p := ⟨b', o', none⟩) hb').trans k4, h⟩

set_option maxRecDepth 100000 in
set_option maxHeartbeats 2000000 in
theorem data_law (A A' : Option Addr) (l l' : List UInt8) (n n' c c' : Nat) (w : World) (hn : n = l.length) (hn' : n' = l'.length) (hr : Rd w w.heap.size A l c) (hr' : Rd w w.heap.size A' l' c') :
    Calls Tryd.prog 8 #[.slice A n c, .slice A' n' c'] w fun e w' => e = .returned (.bool true) ∧ Below w.heap.size w w' := by
  have c1 := hr.1
  have c2 := hr.2.1
  have c3 := hr'.1
  have c4 := hr'.2.1
  rw [← hn] at c1
  rw [← hn'] at c3
  have HF := fun w => few_any A n c w c1 c2
  have HF' := fun w => few_any A' n' c' w c3 c4
  have HR : Hid (Rd w w.heap.size A (l.take 200) c) := hr.take 200
  have HR' : Hid (Rd w w.heap.size A' (l'.take 200) c') := hr'.take 200
  have HN : Hid (min n 200 = (l.take 200).length) := by show _ = _; rw [List.length_take, ← hn]; omega
  have HN' : Hid (min n' 200 = (l'.take 200).length) := by show _ = _; rw [List.length_take, ← hn']; omega
  generalize l.take 200 = a at *
  generalize l'.take 200 = b at *
  obtain ⟨na, hna⟩ : ∃ na, min n 200 = na := ⟨_, rfl⟩
  obtain ⟨nb, hnb⟩ : ∃ nb, min n' 200 = nb := ⟨_, rfl⟩
  have ha2 : na ≤ 200 := by omega
  have hb2 : nb ≤ 200 := by omega
  have hac : na ≤ c := by omega
  rw [hna] at HN HF
  rw [hnb] at HN' HF'
  unfold maxLen at c2 c4
  clear hr hr' hn hn' hna hnb
  go_enter Tryd.func8, Tryd.ntmps8
  go_wp2_with (first | (go_at_call 10; first | (with_reducible refine (HF _).mono ?_; rintro e w1 ⟨rfl, rfl⟩) | (with_reducible refine (HF' _).mono ?_; rintro e w1 ⟨rfl, rfl⟩)))
  with_reducible refine (data_any A a na c _ HN.out (by omega) HR.out).mono ?_
  rintro e w1 ⟨A1, c1', rfl, hx1, hb1⟩
  rw [← HN.out]
  have HX1 := keepd hx1
  have HB1 := keepd hb1
  have HRb := keepd (HR'.out.at_ hb1)
  clear hx1 hb1 HF HF'
  go_wp2_with fail
  with_reducible refine (data_any A' b nb c' _ HN'.out (by omega) HRb.out).mono ?_
  rintro e w2 ⟨A2, c2', rfl, hx2, hb2'⟩
  rw [← HN'.out]
  have HX2 := keepd hx2
  have HXa := keepd (HX1.out.at_ hb2')
  have HB2 := keepd (bCall HB1.out hb2')
  clear hx2 hb2' HX1 HB1 HRb
  have HLd : Hid (na = (dataL a).length) := by show _ = _; unfold dataL; rw [List.length_map]; exact HN.out
  have HLd' : Hid (nb = (dataL b).length) := by show _ = _; unfold dataL; rw [List.length_map]; exact HN'.out
  obtain ⟨z, hz⟩ : ∃ z, (layL a).length = z := ⟨_, rfl⟩
  have HZ := keepd hz
  have hz2 : z ≤ 400 := by
    have := (layL_len a).2
    rw [hz, ← HN.out] at this
    omega
  have HZ1 : Hid ((putL (dataL a)).length = z) := by show _ = _; rw [dataL_put]; exact hz
  have HE1 := keepd (errL_yes (dataL_may a))
  clear hz
  go_wp2_with fail
  with_reducible refine (isize_at A1 (dataL a) z na c1' 0 _ HLd.out (by omega) HXa.out HZ1.out HE1.out).mono ?_
  rintro e w3 ⟨rfl, hb3⟩
  have HXc := keepd (HXa.out.at_ hb3)
  have HXd := keepd (HX2.out.at_ hb3)
  have HB3 := keepd (bCall HB2.out hb3)
  have q1 := HXa.out.1
  have q2 := HXa.out.2.1
  rw [← HLd.out] at q1
  unfold maxLen at q2
  clear hb3 HXa HX2 HB2
  go_wp2_with fail
  go_loopw [9] (fun vi wr => ∃ k : Nat, k ≤ na ∧ vi = .int .i64 k ∧ Hid (Below w3.heap.size w3 wr)) (fun vi _ => na - (intOf vi).toNat)
  case atStart => exact ⟨0, by omega, rfl, Below.refl _ _⟩
  case round =>
    obtain ⟨k, hk, rfl, HB⟩ := hrel
    by_cases hlt : k < na
    · have hkL : k < (dataL a).length := by rw [← HLd.out]; exact hlt
      have hka : k < a.length := by rw [← HN.out]; exact hlt
      obtain ⟨b0, off, hA, hbl, hce⟩ := (HXc.out.at_ HB.out).2.2.1 (by intro e; rw [e] at hkL; simp at hkL)
      obtain ⟨b1, off1, hA', hbl', hcu⟩ := (HR.out.at_ (bCall HB3.out HB.out)).form hka
      subst hA hA'
      obtain ⟨e0, e1, e2, e3⟩ := hce k hkL
      have hdk := dataL_get a k hkL hka
      rw [hdk] at e0 e1 e2 e3
      have hu0 : (0 : Int) ≤ (a[k].toNat : Int) := by omega
      have hu1 : (a[k].toNat : Int) ≤ 255 := by have := a[k].toNat_lt; omega
      have HCk := fun w => check_any 1 (a[k].toNat : Int) 0 none 0 0 true (datum_may a[k]) w
      have E0 : wr.cell? ⟨b0, off + k * 4, none⟩ = some (.int .i64 1) := e0
      have E1 : wr.cell? ⟨b0, off + k * 4 + 1, none⟩ = some (.int .i64 (a[k].toNat : Int)) := e1
      have E2 : wr.cell? ⟨b0, off + k * 4 + 2, none⟩ = some (.int .i64 0) := e2
      have E3 : wr.cell? ⟨b0, off + k * 4 + 3, none⟩ = some (.slice none 0 0) := e3
      generalize a[k] = u at *
      have HE0 := keepd E0
      have HE1' := keepd E1
      have HE2 := keepd E2
      have HE3 := keepd E3
      have HE4 := keepd hcu
      have i0 : (0 : Int) ≤ (k : Int) := by omega
      have i1 : (k : Int) < (na : Int) := by omega
      have i2 : decide ((k : Int) < (na : Int)) = true := by simp; omega
      have i3 : ((u.toNat : Int) != (u.toNat : Int)) = false := by simp
      have i4 : IntKind.i64.wrap (u.toNat : Int) = (u.toNat : Int) := wrap_small _ hu0 (by omega)
      clear hce e0 e1 e2 e3
      go_wp2_with fail
      go_region_held3 (fun W => W.cell? ⟨b0, off + k * 4, none⟩ = some (.int .i64 1) ∧ W.cell? ⟨b0, off + k * 4 + 1, none⟩ = some (.int .i64 (u.toNat : Int)) ∧ W.cell? ⟨b0, off + k * 4 + 2, none⟩ = some (.int .i64 0) ∧ W.cell? ⟨b0, off + k * 4 + 3, none⟩ = some (.slice none 0 0) ∧ W.cell? ⟨b1, off1 + k, none⟩ = some (.int .u8 (u.toNat : Int)) ∧ Below wr.heap.size wr W)
        ((refine sOf5 HE0.out HE1'.out HE2.out HE3.out HE4.out hbl hbl' ?_; repeat (first | assumption | exact Below.refl _ _ | with_reducible refine bAlloc ?_ _ | with_reducible refine Below.drew ?_)))
        (first | (go_at_call 11; (with_reducible refine (HCk _).mono ?_); rintro e w4 ⟨rfl, hb4⟩; have hbb : Below wr.heap.size wr w4 := noDrew hb4))
      have HB4 := keepd (bCall HB.out hbb)
      clear hb4 hbb HCk E0 E1 E2 E3 hcu
      go_wp2
      refine ⟨⟨k + 1, by omega, by go_num, HB4⟩, ?_⟩
      simp only [intOf]
      omega
    · obtain rfl : k = na := by omega
      have hgk : decide ((k : Int) < (k : Int)) = false := by simp
      have HRa := keepd (HR.out.at_ (bCall HB3.out HB.out))
      have HBa := keepd (bCall HB3.out HB.out)
      have HXe := keepd (HXc.out.at_ HB.out)
      have HXf := keepd (HXd.out.at_ HB.out)
      clear HXc HXd
      go_wp2_with fail
      with_reducible refine (size_any A a k c _ HN.out HRa.out (by omega)).mono ?_
      rintro e w5 ⟨rfl, hb5⟩
      rw [HZ.out]
      have HXg := keepd (HXe.out.at_ hb5)
      have HXh := keepd (HXf.out.at_ hb5)
      have HB5 := keepd (bCall HBa.out hb5)
      clear hb5 HXe HXf HBa HRa
      go_wp2_with fail
      with_reducible refine (same_any A1 A2 (dataL a) (dataL b) k nb c1' c2' _ HLd.out HLd'.out HXg.out HXh.out).mono ?_
      rintro e w6 ⟨rfl, hb6⟩
      rw [dataL_same]
      have HB6 := keepd (bCall HB5.out hb6)
      have HRa := keepd (HR.out.at_ HB6.out)
      have HRb := keepd (HR'.out.at_ HB6.out)
      clear hb6 HXg HXh HB5
      go_wp2_with fail
      with_reducible refine (octets_n A A' a b k nb c c' _ _ HN.out HN'.out HRa.out HRb.out).mono ?_
      rintro e w7 ⟨rfl, rfl⟩
      have HAw := keepd iawake_any
      generalize (a == b) = v
      cases v
      all_goals
        go_wp2_with (go_at_call 20; with_reducible refine (HAw.out _).mono ?_; rintro e w8 ⟨rfl, hb8⟩)
        go_ret
        exact ⟨rfl, bCall HB6.out hb8⟩

end Go.Proofs.YtagfoidljficoaaDoor
