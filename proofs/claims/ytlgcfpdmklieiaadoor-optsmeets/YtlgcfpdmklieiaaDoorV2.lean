/-
  The chapter's examples (awake).
-/
import Derived.Test.YtlgcfpdmklieiaaDoorV1
import Derived.Deep.WholeRow
namespace Go.Proofs.YtlgcfpdmklieiaaDoor
open Go.RowKit
set_option maxRecDepth 100000

attribute [local go_sem ↓] ex_ld25 ex_ld67 ex_ld73 ex_st25 ex_st67 ex_st73 ex_eq25 ex_ne25 ex_ix22
attribute [local go_sem] ptrB_at okPtr_at aggC_at agg16 agg11 agg12 isO_at toO_at idx0 idx1 idx2 idx3 okIdx_at

theorem isRow_new (w : World) (cs : Array Value) (t n : Nat) : isRow (w.alloc (.cells cs t)) t w.heap.size n = decide (cs.size = n) := by
  unfold isRow
  rw [heap_alloc_new w _]
  simp
attribute [local go_sem] isRow_new World.setRow_alloc_new

/-- All may be, and nothing is on. -/
def oA : O := ⟨⟨0, 0, 0, 0⟩, ⟨0, 0, 0, 0⟩, ⟨true, true, true, true⟩, ⟨true, true, true, true⟩⟩
def oP : O := ⟨⟨0, 0, 0, 1⟩, ⟨0, 0, 0, 0⟩, ⟨true, true, true, true⟩, ⟨true, true, true, true⟩⟩
theorem ex1 : gotF oA 253 34 = (oP, [(251, 34)], 0) := rfl
theorem ex2 : gotF oA 251 99 = (oA, [(254, 99)], 0) := rfl
theorem ex3 : gotF oA 253 6 = (oA, [(251, 6)], 0) := rfl

set_option maxHeartbeats 2000000 in
theorem awake_any (w : World) (hL : Laid w) : Calls Tryd.prog 18 #[] w fun e w' => e = .returned (.bool true) ∧ Below w.heap.size w w' := by
  have C0 := keepd (new_any ⟨true, true, true, true⟩ ⟨true, true, true, true⟩)
  have C1 := keepd (gotO_any oA 253 34)
  have C2 := keepd (gotO_any oA 251 99)
  have C3 := keepd (gotO_any oA 253 6)
  rw [ex1] at C1
  rw [ex2] at C2
  rw [ex3] at C3
  have CS := keepd (same_any oA oA)
  rw [sameO_self] at CS
  have CR := keepd sameRow_any
  have e0 : (⟨⟨0, 0, 0, 0⟩, ⟨0, 0, 0, 0⟩, ⟨true, true, true, true⟩, ⟨true, true, true, true⟩⟩ : O) = oA := rfl
  rw [e0] at C0
  clear e0
  have HU : Hid (oP.us.d = 1) := rfl
  generalize oA = A at *
  generalize oP = B at *
  have HL := keepd hL
  clear hL
  go_enter Tryd.func18, Tryd.ntmps18
  go_wp2_with fail
  with_reducible refine (C0.out _).mono ?_
  rintro e w1 ⟨rfl, hb⟩
  have HB := keepd (upA hb)
  clear hb C0
  go_upto_region 3 with fail
  generalize hW : w1.alloc (.cells A.cs.toArray 25) = W1
  obtain ⟨h1, h2, h3⟩ := one_new _ _ _ _ hW
  have HB := keepd (bCall HB.out h2)
  generalize w1.heap.size = bA at *
  have HA := keepd h1
  clear h1 h2 h3 hW
  obtain ⟨r1, k1⟩ := HA.out.facts 16 rfl
  go_wp2_with fail
  with_reducible refine (C1.out _ (HL.out.below HB.out)).mono ?_
  rintro e w2 ⟨s1, rfl, ho, hb⟩
  have HB := keepd (bCall HB.out hb)
  have HA := keepd (HA.out.call hb HA.out.lt)
  have O1 := keepd ho
  clear ho hb C1 r1 k1
  go_upto_region 4 with fail
  generalize hW : w2.alloc (.cells B.cs.toArray 25) = W2
  obtain ⟨h1, h2, h3⟩ := one_new _ _ _ _ hW
  have HB := keepd (bCall HB.out h2)
  have HA := keepd (HA.out.call h2 HA.out.lt)
  have O1 := keepd (O1.out.below h2)
  generalize w2.heap.size = bP at *
  have HP := keepd h1
  clear h1 h2 h3 hW
  obtain ⟨r1, k1⟩ := HA.out.facts 16 rfl
  go_wp2_with fail
  with_reducible refine (C2.out _ (HL.out.below HB.out)).mono ?_
  rintro e w3 ⟨s2, rfl, ho, hb⟩
  have HB := keepd (bCall HB.out hb)
  have HA := keepd (HA.out.call hb HA.out.lt)
  have HP := keepd (HP.out.call hb HP.out.lt)
  have O1 := keepd (O1.out.below hb)
  have O2 := keepd ho
  clear ho hb C2 r1 k1
  go_upto_region 5 with fail
  generalize hW : w3.alloc (.cells A.cs.toArray 25) = W3
  obtain ⟨h1, h2, h3⟩ := one_new _ _ _ _ hW
  have HB := keepd (bCall HB.out h2)
  have HA := keepd (HA.out.call h2 HA.out.lt)
  have HP := keepd (HP.out.call h2 HP.out.lt)
  have O1 := keepd (O1.out.below h2)
  have O2 := keepd (O2.out.below h2)
  generalize w3.heap.size = bX at *
  clear h1 h2 h3 hW
  obtain ⟨r1, k1⟩ := HA.out.facts 16 rfl
  go_wp2_with fail
  with_reducible refine (C3.out _ (HL.out.below HB.out)).mono ?_
  rintro e w4 ⟨s3, rfl, ho, hb⟩
  have HB := keepd (bCall HB.out hb)
  have HA := keepd (HA.out.call hb HA.out.lt)
  have HP := keepd (HP.out.call hb HP.out.lt)
  have O1 := keepd (O1.out.below hb)
  have O2 := keepd (O2.out.below hb)
  have O3 := keepd ho
  clear ho hb C3 r1 k1
  go_upto_region 6 with fail
  generalize hW : w4.alloc (.cells A.cs.toArray 25) = W4
  obtain ⟨h1, h2, h3⟩ := one_new _ _ _ _ hW
  have HB := keepd (bCall HB.out h2)
  have HA := keepd (HA.out.call h2 HA.out.lt)
  have HP := keepd (HP.out.call h2 HP.out.lt)
  have O1 := keepd (O1.out.below h2)
  have O2 := keepd (O2.out.below h2)
  have O3 := keepd (O3.out.below h2)
  generalize w4.heap.size = bQ at *
  have HQ := keepd h1
  clear h1 h2 h3 hW
  have hn := bAlloc (Below.refl W4.heap.size W4) (.cells (itC 251 34).toArray 51)
  have On := keepd (One.new (Below.refl W4.heap.size W4) 251 34)
  have HB := keepd (bCall HB.out hn)
  have HA := keepd (HA.out.call hn HA.out.lt)
  have HP := keepd (HP.out.call hn HP.out.lt)
  have HQ := keepd (HQ.out.call hn HQ.out.lt)
  have O1 := keepd (O1.out.below hn)
  have O2 := keepd (O2.out.below hn)
  have O3 := keepd (O3.out.below hn)
  clear hn
  go_wp2_with fail
  with_reducible refine (CR.out _ _ _ _ _ _ _ O1.out On.out).mono ?_
  rintro e w5 ⟨rfl, hb⟩
  have g1 : sameR [(251, 34)] [(251, 34)] = true := rfl
  rw [g1]
  have HB := keepd (bCall HB.out hb)
  have HA := keepd (HA.out.call hb HA.out.lt)
  have HP := keepd (HP.out.call hb HP.out.lt)
  have HQ := keepd (HQ.out.call hb HQ.out.lt)
  have O2 := keepd (O2.out.below hb)
  have O3 := keepd (O3.out.below hb)
  clear hb g1 On O1
  have hn := bAlloc (Below.refl w5.heap.size w5) (.cells (itC 254 99).toArray 51)
  have On := keepd (One.new (Below.refl w5.heap.size w5) 254 99)
  have HB := keepd (bCall HB.out hn)
  have HA := keepd (HA.out.call hn HA.out.lt)
  have HP := keepd (HP.out.call hn HP.out.lt)
  have HQ := keepd (HQ.out.call hn HQ.out.lt)
  have O2 := keepd (O2.out.below hn)
  have O3 := keepd (O3.out.below hn)
  clear hn
  go_wp2_with fail
  with_reducible refine (CR.out _ _ _ _ _ _ _ O2.out On.out).mono ?_
  rintro e w6 ⟨rfl, hb⟩
  have g1 : sameR [(254, 99)] [(254, 99)] = true := rfl
  rw [g1]
  have HB := keepd (bCall HB.out hb)
  have HA := keepd (HA.out.call hb HA.out.lt)
  have HP := keepd (HP.out.call hb HP.out.lt)
  have HQ := keepd (HQ.out.call hb HQ.out.lt)
  have O3 := keepd (O3.out.below hb)
  clear hb g1 On O2
  have hn := bAlloc (Below.refl w6.heap.size w6) (.cells (itC 251 6).toArray 51)
  have On := keepd (One.new (Below.refl w6.heap.size w6) 251 6)
  have HB := keepd (bCall HB.out hn)
  have HA := keepd (HA.out.call hn HA.out.lt)
  have HP := keepd (HP.out.call hn HP.out.lt)
  have HQ := keepd (HQ.out.call hn HQ.out.lt)
  have O3 := keepd (O3.out.below hn)
  clear hn
  go_wp2_with fail
  with_reducible refine (CR.out _ _ _ _ _ _ _ O3.out On.out).mono ?_
  rintro e w7 ⟨rfl, hb⟩
  have g1 : sameR [(251, 6)] [(251, 6)] = true := rfl
  rw [g1]
  have HB := keepd (bCall HB.out hb)
  have HA := keepd (HA.out.call hb HA.out.lt)
  have HP := keepd (HP.out.call hb HP.out.lt)
  have HQ := keepd (HQ.out.call hb HQ.out.lt)
  clear hb g1 On O3
  obtain ⟨r1, k1⟩ := HA.out.facts 16 rfl
  obtain ⟨r2, k2⟩ := HQ.out.facts 16 rfl
  have c3 := HP.out.cell 3
  simp only [O.cs, List.getElem?_cons_succ, List.getElem?_cons_zero, HU.out] at c3
  go_wp2_with fail
  with_reducible refine (CS.out _).mono ?_
  rintro e w8 ⟨rfl, hb⟩
  have HB := keepd (bCall HB.out hb)
  clear hb r1 k1 r2 k2 c3
  go_wp2_with fail
  go_ret
  exact ⟨rfl, HB.out⟩

end Go.Proofs.YtlgcfpdmklieiaaDoor
