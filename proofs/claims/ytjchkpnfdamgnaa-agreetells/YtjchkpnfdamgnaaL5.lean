/-
  What the law AgreeTells reads. No conditions beyond those each theorem states.
-/
import Derived.Test.YtjchkpnfdamgnaaR3
import Derived.Test.YtjchkpnfdamgnaaT8
import Derived.Test.YtjchkpnfdamgnaaL1
namespace Go.Proofs.Ytjchkpnfdamgnaa
open Go.RowKit
set_option maxRecDepth 100000

attribute [local go_sem ↓] ex_ld31 ex_st31 ex_al31 ex_bu31 ex_ix31 ex_eq31 ex_ne31 ex_eq29 ex_ne29 ex_ld25 ex_st25 ex_al25 ex_bu25 ex_ix25 ex_ld27 ex_st27 ex_eq27 ex_ne27
attribute [local go_sem] ptrB_at okPtr_at aggC_at agg62 isC_at isT_at eqV_t eqV_c isRow_new isRow_newp World.setRow_alloc_new agg6 isRow_new6 isV_at eqV_v


/-- What is read: prefs, a triple, a cell, a triple, a table. -/
def ST (bP bX bC bY bF : Nat) (X : Tb) (x : Tr) (c : Cl) (y : Tr) (F : Tb) (V : World) : Prop :=
  rowOf V bP = (cs X).toArray ∧ isRow V 25 bP 62 = true ∧ rowOf V bX = #[.int .i64 x.f, .int .i64 x.lv, .bool x.a, .bool x.i, .bool x.o, .int .u8 x.v] ∧ isRow V 27 bX 6 = true ∧ V.cell? ⟨bC, 0, none⟩ = some (.int .i64 c.lv) ∧ V.cell? ⟨bC, 1, none⟩ = some (.int .u8 c.v) ∧
  rowOf V bY = #[.int .i64 y.f, .int .i64 y.lv, .bool y.a, .bool y.i, .bool y.o, .int .u8 y.v] ∧ isRow V 27 bY 6 = true ∧ rowOf V bF = (cs F).toArray ∧ isRow V 31 bF 62 = true
theorem ST.of {bP bX bC bY bF : Nat} {X : Tb} {x : Tr} {c : Cl} {y : Tr} {F : Tb} {V : World} (hP : PB V bP X) (hX : SR 27 V bX x.cells) (hC : SR 29 V bC (cl c)) (hY : SR 27 V bY y.cells) (hF : TB V bF F) : ST bP bX bC bY bF X x c y F V := by
  obtain ⟨a1, a2⟩ := PB.facts hP
  obtain ⟨b1, b2⟩ := SR.trF hX
  obtain ⟨c1, c2, _⟩ := SR.clF hC
  obtain ⟨d1, d2⟩ := SR.trF hY
  obtain ⟨e1, e2⟩ := TB.facts hF
  exact ⟨a1, a2, b1, b2, c1, c2, d1, d2, e1, e2⟩

end Go.Proofs.Ytjchkpnfdamgnaa
