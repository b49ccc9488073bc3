/-
  A contract over layer 1: joined lays the octets of its parts one behind the other into new memory.
-/
import Derived.Test.YtifimgachkecpaaT1
import Derived.Laws.CopyOwn

namespace Go.Proofs.Ytifimgachkecpaa
open Go.RowKit

/-- A part: where it lies, its octets, its capacity. -/
structure Pt where
  A : Option Addr
  l : List UInt8
  c : Nat
def Pt.v (p : Pt) : Value := .slice p.A p.l.length p.c
/-- All octets of some parts. -/
def allOf (ps : List Pt) : List UInt8 := ps.flatMap (·.l)
def zeros (n : Nat) : List UInt8 := List.replicate n 0

theorem allOf_succ (ps : List Pt) (k : Nat) (h : k < ps.length) : allOf (ps.take (k + 1)) = allOf (ps.take k) ++ ps[k].l := by
  unfold allOf
  rw [List.take_succ_eq_append_getElem h, List.flatMap_append]
  simp only [List.flatMap_cons, List.flatMap_nil, List.append_nil]

theorem allOf_le (ps : List Pt) (k : Nat) : (allOf (ps.take k)).length ≤ (allOf ps).length := by
  have : allOf ps = allOf (ps.take k) ++ allOf (ps.drop k) := by unfold allOf; rw [← List.flatMap_append, List.take_append_drop]
  rw [this]; simp

theorem zs_eq (n : Nat) : madeCells #[Value.int .u8 0] n = ((zeros n).map bv).toArray := by
  apply Array.ext'
  rw [toList_madeCells_one]
  simp [zeros, bv]

theorem info5 : (Try.prog.info? 5).map (fun i => (i.zero, i.size, i.bytes)) = some (some (.int .u8 0), 1, 1) := by kernel_rfl

theorem make_run (n : Nat) (hn : n ≤ 1000000) (W : World) :
    (Instr.makeSlice 22 (.int .i64 (n : Int)) (.int .i64 (n : Int))).run Try.prog W = .ok (.slice (some ⟨W.heap.size, 0, none⟩) n n) (W.alloc (.cells ((zeros n).map bv).toArray 5)) := by
  obtain ⟨i0, hi, hz0, hz1, hz2⟩ := info_parts info5
  have := run_make (P := Try.prog) W 22 5 i0 _ Try.underlying22 hi hz0 .i64 .i64 n n (by omega) (by omega) (by rw [hz2]; omega) (by omega)
  rw [this, hz1]
  simp [Value.cells, zs_eq]

theorem splice_step (L M : List UInt8) (n : Nat) :
    splice ((L ++ zeros (n - L.length)).map bv) L.length (M.map bv) = ((L ++ M) ++ zeros (n - (L ++ M).length)).map bv := by
  unfold splice
  have e1 : (L ++ zeros (n - L.length)).map bv = L.map bv ++ (zeros (n - L.length)).map bv := by simp
  have e2 : (L.map bv ++ (zeros (n - L.length)).map bv).drop (L.length + (M.map bv).length) = (zeros (n - (L ++ M).length)).map bv := by
    have e3 : L.length + (M.map bv).length = (L.map bv).length + M.length := by simp
    rw [e3, List.drop_append, List.drop_of_length_le (by omega)]
    have e4 : (L.map bv).length + M.length - (L.map bv).length = M.length := by omega
    have e5 : n - L.length - M.length = n - (L ++ M).length := by rw [List.length_append]; omega
    rw [e4, List.nil_append]
    unfold zeros
    rw [← List.map_drop, List.drop_replicate, e5]
  rw [e1, e2, List.take_append_of_le_length (by simp), List.take_of_length_le (by simp)]
  simp

theorem splice_len (L : List UInt8) (n : Nat) (h : L.length ≤ n) : ((L ++ zeros (n - L.length)).map bv).length = n := by simp [zeros]; omega

theorem bv_one (l : List UInt8) : ∀ v ∈ l.map bv, v.oneCell' = true := by
  intro v hv
  obtain ⟨u, _, rfl⟩ := List.mem_map.1 hv
  rfl

theorem Rd.src {w : World} {B : Nat} {A : Option Addr} {l : List UInt8} {c : Nat} (h : Rd w B A l c) (hp : 0 < (l.map bv).length) : ∃ ad, A = some ad ∧ ∀ j v, (l.map bv)[j]? = some v → w.cell? (ad.add j) = some v := by
  obtain ⟨ad, e, _⟩ := h.2.2.1 (by rintro rfl; simp at hp)
  refine ⟨ad, e, fun j v hj => ?_⟩
  rw [List.getElem?_map, Option.map_eq_some_iff] at hj
  obtain ⟨u, hu, rfl⟩ := hj
  exact h.2.2.2 ad e j u hu

theorem size5 : (Try.prog.info? 5).map (·.size) = some 1 := by kernel_rfl

theorem start_row (w : World) (ps : List Pt) : Hid ((w.alloc (.cells ((zeros (allOf ps).length).map bv).toArray 5)).heap[w.heap.size]? =
    some (.cells ((allOf (ps.take 0) ++ zeros ((allOf ps).length - (allOf (ps.take 0)).length)).map bv).toArray 5 (0, 0))) := by
  show _ = _
  rw [heap_alloc_new]
  simp [allOf]

set_option maxHeartbeats 400000 in
theorem joined_any (gp : Nat) (ps : List Pt) (w : World) (hg : w.heap[gp]? = some (.cells (ps.map Pt.v).toArray 22 (0, 0)))
    (hps : ∀ p ∈ ps, Rd w w.heap.size p.A p.l p.c) (hn : (allOf ps).length ≤ 1000000) (hk : ps.length ≤ 1000) :
    Calls Try.prog 24 #[.slice (some ⟨gp, 0, none⟩) ps.length ps.length] w fun e w' =>
      e = .returned (.slice (some ⟨w.heap.size, 0, none⟩) (allOf ps).length (allOf ps).length) ∧ Bk w' w.heap.size (allOf ps) ∧ Below w.heap.size w w' := by
  have hmk := make_run (allOf ps).length hn
  have hgp : gp < w.heap.size := (Array.getElem?_eq_some_iff.1 hg).1
  have HC : Hid (∀ k (h : k < ps.length), w.cell? ⟨gp, k, none⟩ = some (.slice ps[k].A ps[k].l.length ps[k].c)) := by
    intro k h
    rw [cell_of_row w gp k _ 22 (0, 0) hg]
    simp [h, Pt.v]
  have HG := keepd hg
  have HP := keepd hps
  clear hg hps
  go_enter Try.func24, Try.ntmps24
  go_wp2
  go_loop [3, 12] (fun s i => ∃ k : Nat, k ≤ ps.length ∧ i = .int .i64 k ∧ s = .int .i64 (allOf (ps.take k)).length) (fun _ i => ps.length - (intOf i).toNat)
  case atStart => exact ⟨0, Nat.zero_le _, rfl, rfl⟩
  case round =>
    obtain ⟨k, hkl, rfl, rfl⟩ := hrel
    have hle := allOf_le ps k
    by_cases hlt : k < ps.length
    · have hc := HC.out k hlt
      have hs : (allOf (ps.take (k + 1))).length = (allOf (ps.take k)).length + ps[k].l.length := by rw [allOf_succ ps k hlt]; simp
      have hle' := allOf_le ps (k + 1)
      have HS := keepd hs
      have hb : (allOf (ps.take k)).length + ps[k].l.length ≤ 1000000 := by omega
      clear hs hle'
      go_wp2
      go_round
      case rel => exact ⟨k + 1, by omega, by go_num, by rw [HS.out]; go_num⟩
      case measure => simp [intOf]; omega
    · obtain rfl : k = ps.length := by omega
      rw [List.take_length]
      go_wp2
      go_loopw [7, 25] (fun at_ i wr => ∃ k : Nat, k ≤ ps.length ∧ i = .int .i64 k ∧ at_ = .int .i64 (allOf (ps.take k)).length ∧
          Hid (wr.heap[w.heap.size]? = some (.cells ((allOf (ps.take k) ++ zeros ((allOf ps).length - (allOf (ps.take k)).length)).map bv).toArray 5 (0, 0))) ∧ Below w.heap.size w wr) (fun _ i _ => ps.length - (intOf i).toNat)
      case atStart => exact ⟨0, Nat.zero_le _, rfl, rfl, start_row w ps, (Below.refl _ _).alloc (Nat.le_refl _) _⟩
      case round =>
        obtain ⟨k, hkl, rfl, rfl, Hw, hbw⟩ := hrel
        have hle := allOf_le ps k
        by_cases hlt : k < ps.length
        · have hc := (hbw.cell (p := ⟨gp, k, none⟩) hgp).trans (HC.out k hlt)
          have hs : (allOf (ps.take (k + 1))).length = (allOf (ps.take k)).length + ps[k].l.length := by rw [allOf_succ ps k hlt]; simp
          have hle' := allOf_le ps (k + 1)
          have HS := keepd hs
          have hb : (allOf (ps.take k)).length + ps[k].l.length ≤ (allOf ps).length := by omega
          have hr := (HP.out ps[k] (List.getElem_mem hlt)).below hbw (Nat.le_refl _)
          have HR := keepd hr
          clear hs hle' hr
          go_wp2_with ((with_reducible refine wpList_copy_splice rfl (.tmp 32) (.tmp 33) 22 22 rfl 5 Try.underlying22 size5 _ _ _ _ _ _ rfl rfl w.heap.size (allOf (ps.take k)).length _ 5 Hw.out (ps[k].l.map bv) (by rw [List.length_map]; exact (Nat.min_eq_left (by omega)).symm) (fun hp => ⟨by first | rw [if_neg (by rw [List.length_map] at hp; omega)] | rfl, HR.out.src hp⟩) (by rw [splice_len _ _ hle, List.length_map]; exact hb) (bv_one _) w.heap.size w hbw (Nat.le_refl _) ?_); intro w' Hw' hbw'; rw [splice_step, ← allOf_succ ps k hlt] at Hw')
          all_goals
            go_roundw
            case rel => exact ⟨k + 1, by omega, by go_num, by rw [HS.out]; go_num, Hw', hbw'⟩
            case measure => simp [intOf]; omega
        · obtain rfl : k = ps.length := by omega
          rw [List.take_length] at Hw
          have Hw2 : Hid (Bk wr w.heap.size (allOf ps)) := by
            have := Hw.out
            rw [Nat.sub_self] at this
            show Bk _ _ _
            unfold Bk
            rw [this]
            simp [zeros]
          clear Hw
          go_wp2
          go_ret
          exact ⟨rfl, Hw2.out, hbw⟩
end Go.Proofs.Ytifimgachkecpaa
