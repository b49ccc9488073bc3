/-
  The chapter's examples: awake answers true.
-/
import Derived.Test.YtoiiiakhgmledaaT6
import Derived.Lib.SlBytesConst
namespace Go.Proofs.Ytoiiiakhgmledaa
open Go.RowKit

theorem ex_read1 : readD [13, 0, 10, 255, 1] = ([13, 10], 3) :=
  (((RI.start [13, 0, 10, 255, 1]).step (by decide) (by decide)).step (by decide) (by decide)).fin (.inr (by decide))
theorem ex_read2 : readD [13] = ([13], 1) :=
  ((RI.start [13]).step (by decide) (by decide)).fin (.inl (by decide))

theorem new_bk (w : World) (cs : Array Value) (l : List UInt8) (h : cs = (l.map bv).toArray) : Bk (w.alloc (.cells cs 5)) w.heap.size l := by
  subst h
  exact heap_alloc_new w _

theorem new_rd (w : World) (cs : Array Value) (l : List UInt8) (n : Nat) (h : cs = (l.map bv).toArray) (hn : l.length = n) (hl : n ≤ 1000) : Rd (w.alloc (.cells cs 5)) (w.alloc (.cells cs 5)).heap.size (some ⟨w.heap.size, 0, none⟩) l n :=
  (new_bk w cs l h).rdN hn (by omega)

theorem new_rdf (w : World) (l : List UInt8) (n : Nat) (fr : Nat × Nat) (hn : l.length = n) (hl : n ≤ 1000) : Rd (w.alloc (.cells (l.map bv).toArray 5 fr)) (w.alloc (.cells (l.map bv).toArray 5 fr)).heap.size (some ⟨w.heap.size, 0, none⟩) l n := by
  refine ⟨by omega, by unfold maxLen; omega, fun _ => ⟨_, rfl, by simp⟩, fun ad had j u hu => ?_⟩
  injection had with had
  subst had
  rw [add_lit0]
  have hj : ((l.map bv).toArray)[j]? = some (bv u) := by simp [hu]
  rw [← hj]
  exact cell_of_row _ _ j _ 5 fr (heap_alloc_new w _)

set_option maxRecDepth 100000 in
set_option maxHeartbeats 1000000 in
theorem awake_any (w : World) : Calls Try.prog 17 #[] w fun e w' => e = .returned (.bool true) ∧ Below w.heap.size w w' := by
  have x1 := fun w : World => read_any _ [13, 0, 10, 255, 1] 5 5 _ rfl (new_rd w #[.int .u8 13, .int .u8 0, .int .u8 10, .int .u8 255, .int .u8 1] [13, 0, 10, 255, 1] 5 rfl rfl (by omega)) (by omega)
  have x2 := fun w : World => read_any _ [13] 1 1 _ rfl (new_rd w #[.int .u8 13] [13] 1 rfl rfl (by omega)) (by omega)
  have x3 := fun w : World => lay_any _ [1, 255, 13] 3 3 _ rfl (new_rd w #[.int .u8 1, .int .u8 255, .int .u8 13] [1, 255, 13] 3 rfl rfl (by omega)) (by omega)
  have x4 := fun w : World => plain_any (some ⟨w.heap.size, 0, none⟩) [97, 98] 2 2 (w.alloc (.cells #[.int .u8 97, .int .u8 98] 5 (2, 2 + 1))) rfl (new_rdf w [97, 98] 2 (2, 2 + 1) rfl (by omega)) (by omega)
  have x5 := fun w : World => size_any _ [255] 1 1 _ rfl (new_rd w #[.int .u8 255] [255] 1 rfl rfl (by omega)) (by omega)
  rw [ex_read1] at x1
  rw [ex_read2] at x2
  rw [show layL [1, 255, 13] = [1, 255, 255, 13, 10] from rfl] at x3
  rw [show decide ((layL [97, 98]).length = ([97, 98] : List UInt8).length) = true from rfl] at x4
  rw [show (((layL [255]).length : Nat) : Int) = 2 from rfl] at x5
  have X1 := keepd x1
  have X2 := keepd x2
  have X3 := keepd x3
  have X4 := keepd x4
  have X5 := keepd x5
  clear x1 x2 x3 x4 x5
  go_enter Try.func17, Try.ntmps17
  go_wp2_with fail
  with_reducible refine (X1.out w).mono ?_
  rintro e w1 ⟨A1, c1, rfl, hr1, hb1⟩
  have HR1 := keepd hr1
  have HB1 := keepd (bCall (bAlloc (Below.refl w.heap.size w) _) hb1)
  clear hr1 hb1
  go_wp2_with fail
  with_reducible refine (X2.out w1).mono ?_
  rintro e w2 ⟨A2, c2, rfl, hr2, hb2⟩
  have hb2' := bCall (bAlloc (Below.refl w1.heap.size w1) _) hb2
  have HR2 := keepd hr2
  have HR1' := keepd (HR1.out.at_ hb2')
  have HB2 := keepd (bCall HB1.out hb2')
  clear hr2 hb2 hb2' HR1 HB1
  go_wp2_with fail
  with_reducible refine (X3.out w2).mono ?_
  rintro e w3 ⟨A3, c3, rfl, hr3, hb3⟩
  have hb3' := bCall (bAlloc (Below.refl w2.heap.size w2) _) hb3
  have k1 : (convert 22 9 (.slice A3 5 c3)).run Try.prog w3 = .ok (.string ⟨#[1, 255, 255, 13, 10]⟩) w3 := conv_str hr3
  have k2 : (convert 22 9 (.slice A1 2 c1)).run Try.prog w3 = .ok (.string ⟨#[13, 10]⟩) w3 := conv_str (HR1'.out.at_ hb3')
  have k3 : (convert 22 9 (.slice A2 1 c2)).run Try.prog w3 = .ok (.string ⟨#[13]⟩) w3 := conv_str (HR2.out.at_ hb3')
  have k4 := fun (w : World) (C : Array Value) (n c : Nat) => Lib.run_convert_bytes_const (P := Try.prog) w 22 5 C n c Try.underlying22 Try.underlying5
  have HB3 := keepd (bCall HB2.out hb3')
  clear hr3 hb3 hb3' HR1' HR2 HB2 X1 X2 X3
  go_wp2_with fail
  with_reducible refine (X4.out w3).mono ?_
  rintro e w4 ⟨rfl, hb4⟩
  have HB4 := keepd (bCall HB3.out (bCall (bAlloc (Below.refl w3.heap.size w3) _) hb4))
  clear hb4 k1 k2 k3 k4 HB3 X4
  go_wp2_with fail
  with_reducible refine (X5.out w4).mono ?_
  rintro e w5 ⟨rfl, hb5⟩
  have HB5 := keepd (bCall HB4.out (bCall (bAlloc (Below.refl w4.heap.size w4) _) hb5))
  clear hb5 HB4 X5
  go_wp2
  go_ret
  exact ⟨rfl, HB5.out⟩

theorem octets_n (A A' : Option Addr) (l l' : List UInt8) (n n' c c' B : Nat) (w : World) (hn : n = l.length) (hn' : n' = l'.length) (h : Rd w B A l c) (h' : Rd w B A' l' c') :
    Calls Try.prog 13 #[.slice A n c, .slice A' n' c'] w fun e w' => e = .returned (.bool (l == l')) ∧ w = w' := by
  subst hn hn'
  exact octets_any A A' l l' c c' B w h h'

end Go.Proofs.Ytoiiiakhgmledaa
