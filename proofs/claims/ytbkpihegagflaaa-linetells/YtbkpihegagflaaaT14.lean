/-
  The chapter's examples: the contract of awake. No conditions beyond those each theorem states.
-/
import Derived.Test.YtbkpihegagflaaaT13
import Derived.Lib.SmallJoins
namespace Go.Proofs.Ytbkpihegagflaaa
open Go.RowKit
set_option maxRecDepth 100000

open Go.Joins in
theorem lit_rd (w : World) (l : List UInt8) (cs : Array Value) (fr : Nat × Nat) (h : (l.map bv).toArray = cs) (hl : l.length ≤ 100) : Rd (w.alloc (.cells cs 5 fr)) (w.alloc (.cells cs 5 fr)).heap.size (some ⟨w.heap.size, 0, none⟩) l l.length := by
  subst h
  refine ⟨Nat.le_refl _, by unfold maxLen; omega, fun _ => ⟨_, rfl, by rw [World.size_alloc]; exact Nat.lt_succ_self _⟩, fun ad had j u hu => ?_⟩
  injection had with had
  subst had
  rw [add_lit0, cell_alloc_mark_at w _ 5 fr _ j rfl]
  simp [hu]
open Go.Joins in
theorem conv_lit (w : World) (C : Array Value) (n : Nat) (fr : Nat × Nat) (h : (C.size, C.size + 1) = fr) : (convert 22 22 (.slice (some ⟨w.heap.size, 0, none⟩) n n)).run Try.prog (w.alloc (.cells C 5)) = .ok (.slice (some ⟨w.heap.size, 0, none⟩) n n) (w.alloc (.cells C 5 fr)) := by
  subst h
  exact run_convert_bytes_const_at w 22 5 C n n _ rfl Try.underlying22 Try.underlying5

theorem aw1 (w : World) : Calls Try.prog 11 #[.agg #[.slice (some ⟨w.heap.size, 0, none⟩) 2 2, .int .i64 1], .int .i64 9, .bool false, .int .u8 99] (w.alloc (.cells #[.int .u8 97, .int .u8 98] 5 (2, 3)))
    (GotD (w.alloc (.cells #[.int .u8 97, .int .u8 98] 5 (2, 3))) [97, 99, 98] 3 2 true) :=
  ty_any (some ⟨w.heap.size, 0, none⟩) [97, 98] [97, 99, 98] 2 2 1 2 3 9 false 99 _ rfl (lit_rd w [97, 98] _ _ rfl (by decide)) (by decide) (by decide) (by decide +kernel) rfl

theorem aw2 (w : World) : Calls Try.prog 11 #[.agg #[.slice (some ⟨w.heap.size, 0, none⟩) 2 2, .int .i64 1], .int .i64 2, .bool true, .int .u8 99] (w.alloc (.cells #[.int .u8 97, .int .u8 98] 5 (2, 3)))
    (GotD (w.alloc (.cells #[.int .u8 97, .int .u8 98] 5 (2, 3))) [97, 99] 2 2 true) :=
  ty_any (some ⟨w.heap.size, 0, none⟩) [97, 98] [97, 99] 2 2 1 2 2 2 true 99 _ rfl (lit_rd w [97, 98] _ _ rfl (by decide)) (by decide) (by decide) (by decide +kernel) rfl

theorem aw3 (w : World) : Calls Try.prog 12 #[.agg #[.slice (some ⟨w.heap.size, 0, none⟩) 7 7, .int .i64 7], .int .i64 12] (w.alloc (.cells #[.int .u8 97, .int .u8 98, .int .u8 32, .int .u8 32, .int .u8 99, .int .u8 100, .int .u8 32] 5 (7, 8)))
    (GotD (w.alloc (.cells #[.int .u8 97, .int .u8 98, .int .u8 32, .int .u8 32, .int .u8 99, .int .u8 100, .int .u8 32] 5 (7, 8))) [97, 98, 32, 32] 4 4 true) :=
  do_any (some ⟨w.heap.size, 0, none⟩) [97, 98, 32, 32, 99, 100, 32] [97, 98, 32, 32] 7 7 7 4 4 12 _ rfl (lit_rd w [97, 98, 32, 32, 99, 100, 32] _ _ rfl (by decide)) (by decide) (by decide) (by decide +kernel) rfl

theorem aw4 (w : World) : Calls Try.prog 17 #[.agg #[.slice (some ⟨w.heap.size, 0, none⟩) 6 6, .int .i64 0]] (w.alloc (.cells #[.int .u8 97, .int .u8 98, .int .u8 32, .int .u8 32, .int .u8 99, .int .u8 100] 5 (6, 7)))
    (fun e w' => e = .returned (.int .i64 4) ∧ Below (w.alloc (.cells #[.int .u8 97, .int .u8 98, .int .u8 32, .int .u8 32, .int .u8 99, .int .u8 100] 5 (6, 7))).heap.size (w.alloc (.cells #[.int .u8 97, .int .u8 98, .int .u8 32, .int .u8 32, .int .u8 99, .int .u8 100] 5 (6, 7))) w') :=
  on_any (some ⟨w.heap.size, 0, none⟩) [97, 98, 32, 32, 99, 100] 6 6 0 4 _ rfl (lit_rd w [97, 98, 32, 32, 99, 100] _ _ rfl (by decide)) (by decide) (by decide) (by decide +kernel)

theorem line_new1 (w : World) (x y : Value) (V : World) (hV : w.alloc (.cells #[x, y] 24) = V) : Hid (SR 24 V w.heap.size [x, y]) ∧ Hid (Below w.heap.size w V) ∧ Hid (V.heap.size = w.heap.size + 1) := by
  subst hV
  exact ⟨heap_alloc_new w _, bAlloc (Below.refl _ _) _, World.size_alloc _ _⟩

set_option maxHeartbeats 4000000 in
theorem awake_any (w : World) : Calls Try.prog 18 #[] w fun e w' => e = .returned (.bool true) ∧ Below w.heap.size w w' := by
  have C1 := keepd aw1
  have C2 := keepd aw2
  have C3 := keepd aw3
  have C4 := keepd aw4
  have hc1 := fun w : World => conv_lit w #[.int .u8 97, .int .u8 98] 2 (2, 3) rfl
  have hc2 := fun w : World => conv_lit w #[.int .u8 97, .int .u8 98, .int .u8 32, .int .u8 32, .int .u8 99, .int .u8 100, .int .u8 32] 7 (7, 8) rfl
  have hc3 := fun w : World => conv_lit w #[.int .u8 97, .int .u8 98, .int .u8 32, .int .u8 32, .int .u8 99, .int .u8 100] 6 (6, 7) rfl
  go_enter Try.func18, Try.ntmps18
  go_wp2_with fail
  with_reducible refine (C1.out _).mono ?_
  rintro e w1 ⟨⟨A1, c1, rfl, ho1⟩, hb1⟩
  have HB1 := keepd (upA hb1)
  have HR1 := keepd ho1.rdOf
  clear hb1 ho1
  go_upto_region 2 with fail
  generalize hV1 : w1.alloc (.cells #[.slice A1 3 c1, .int .i64 2] 24) = V1
  obtain ⟨H1, HBV1, HS1⟩ := line_new1 _ _ _ _ hV1
  have HBA := keepd (bCall HB1.out HBV1.out)
  have HR1a := keepd (HR1.out.at_ HBV1.out)
  clear hV1 HB1 HR1
  go_wp2_with fail
  with_reducible refine (C2.out _).mono ?_
  rintro e w2 ⟨⟨A2, c2, rfl, ho2⟩, hb2⟩
  have HB2 := keepd (upA hb2)
  have HR2 := keepd ho2.rdOf
  have H1b := keepd (SR.call H1.out (upA hb2) H1.out.lt)
  have HR1b := keepd (HR1a.out.at_ (upA hb2))
  have HBB := keepd (bCall HBA.out (upA hb2))
  clear hb2 ho2 H1 HR1a HBA
  go_upto_region 3 with fail
  generalize hV2 : w2.alloc (.cells #[.slice A2 2 c2, .int .i64 2] 24) = V2
  obtain ⟨H2, HBV2, HS2⟩ := line_new1 _ _ _ _ hV2
  have H1c := keepd (SR.call H1b.out HBV2.out H1b.out.lt)
  have HR1c := keepd (HR1b.out.at_ HBV2.out)
  have HR2c := keepd (HR2.out.at_ HBV2.out)
  have HBC := keepd (bCall HBB.out HBV2.out)
  clear hV2 H1b HR1b HR2 HBB
  go_wp2_with fail
  with_reducible refine (C3.out _).mono ?_
  rintro e w3 ⟨⟨A3, c3, rfl, ho3⟩, hb3⟩
  have H1d := keepd (SR.call H1c.out (upA hb3) H1c.out.lt)
  have H2d := keepd (SR.call H2.out (upA hb3) H2.out.lt)
  have HR1d := keepd (HR1c.out.at_ (upA hb3))
  have HR2d := keepd (HR2c.out.at_ (upA hb3))
  have HR3d := keepd ho3.rdOf
  have HBD := keepd (bCall HBC.out (upA hb3))
  clear hb3 ho3 H1c H2 HR1c HR2c HBC
  go_upto_region 4 with fail
  generalize hV3 : w3.alloc (.cells #[.slice A3 4 c3, .int .i64 4] 24) = V3
  obtain ⟨H3, HBV3, HS3⟩ := line_new1 _ _ _ _ hV3
  obtain ⟨p0, p1, _, _, _⟩ := line_facts (SR.call H1d.out HBV3.out H1d.out.lt)
  obtain ⟨q0, q1, _, _, _⟩ := line_facts (SR.call H2d.out HBV3.out H2d.out.lt)
  obtain ⟨r0, r1, _, _, _⟩ := line_facts H3.out
  have e1 := conv_str (HR1d.out.at_ HBV3.out)
  have e2 := conv_str (HR2d.out.at_ HBV3.out)
  have e3 := conv_str (HR3d.out.at_ HBV3.out)
  have HBE := keepd (bCall HBD.out HBV3.out)
  simp only [List.length_cons, List.length_nil, Nat.zero_add, Nat.reduceAdd] at e1 e2 e3
  clear hV3 H1d H2d HR1d HR2d HR3d HBD H3 HBV1 HBV2 HBV3 HS1 HS2 HS3
  go_wp2_with fail
  with_reducible refine (C4.out _).mono ?_
  rintro e w4 ⟨rfl, hb4⟩
  have HBF := keepd (bCall HBE.out (upA hb4))
  clear hb4
  go_wp2_with fail
  go_ret
  exact ⟨rfl, HBF.out⟩

end Go.Proofs.Ytbkpihegagflaaa
