/-
  OptsMeets: the beginning, in memory.
-/
import Derived.Test.YtlgcfpdmklieiaaDoorNa
namespace Go.Proofs.YtlgcfpdmklieiaaDoor
open Go.RowKit

theorem ex_st56 (ρ : Operand → Value) (dst : Option Tmp) (x y : Operand) (ty : TypeId) (pos : String) (af : Array Edge) (gd : Option (Nat × Bool)) (W : World) (h : okPtr W 56 32 (ρ x) = true) (hy : okAgg 32 (ρ y) = true) :
    Sem.run Tryd.prog (execOp ρ ⟨dst, .store 56 x y, ty, pos, af, gd⟩) W = .ok .skip (W.setRow (ptrB (ρ x)) (aggC (ρ y))) :=
  ex_store info56 ρ dst x y ty pos af gd W h hy
theorem agg32 (a b c d e f g h : Int) (i j k l m n o p : Bool) (a' b' c' d' e' f' g' h' : Int) (i' j' k' l' m' n' o' p' : Bool) : okAgg 32 (.agg #[.int .i64 a, .int .i64 b, .int .i64 c, .int .i64 d, .int .i64 e, .int .i64 f, .int .i64 g, .int .i64 h, .bool i, .bool j, .bool k, .bool l, .bool m, .bool n, .bool o, .bool p, .int .i64 a', .int .i64 b', .int .i64 c', .int .i64 d', .int .i64 e', .int .i64 f', .int .i64 g', .int .i64 h', .bool i', .bool j', .bool k', .bool l', .bool m', .bool n', .bool o', .bool p']) = true := by simp [okAgg, Value.oneCell']

/-- The pair, and both ends, in memory. -/
structure MB (w : World) (P : List Value) (bO : Nat) (A B : O) (W : World) : Prop where
  pr : SR 55 W w.heap.size P
  o : SR 56 W bO (A.cs ++ B.cs)
  lt : w.heap.size < bO
  bel : Below w.heap.size w W

/-- The pair alone. -/
structure MP (w : World) (P : List Value) (W : World) : Prop where
  pr : SR 55 W w.heap.size P
  bel : Below w.heap.size w W

section
variable {w W W' : World} {P : List Value} {bO : Nat} {A B : O}
theorem MP.call (h : MP w P W) (hb : Below W.heap.size W W') : MP w P W' := ⟨h.pr.call hb h.pr.lt, bCall h.bel hb⟩
theorem MP.alloc (h : MP w P W) (o : Obj) : MP w P (W.alloc o) := h.call (bAlloc (Below.refl _ _) o)
theorem MP.drew (h : MP w P W) : MP w P W.drew := ⟨h.pr, h.bel.drew⟩
theorem MP.both (h : MP w P W) (A B : O) : MB w P W.heap.size A B (W.alloc (.cells (A.cs ++ B.cs).toArray 56)) :=
  ⟨(h.alloc _).pr, SR.new 56 W _, h.pr.lt, (h.alloc _).bel⟩
theorem MP.put {cs : List Value} (h : MP w P W) (hs : SR 56 W bO cs) (hlt : w.heap.size < bO) (A B : O) : MB w P bO A B (W.setRow bO (A.cs ++ B.cs).toArray) :=
  ⟨(setRow_other W bO w.heap.size _ (by omega)).trans h.pr, hs.row _, hlt, bRow h.bel (by omega) _⟩
theorem MP.new (w : World) (P : List Value) : MP w P (w.alloc (.cells P.toArray 55)) := ⟨SR.new 55 w P, bAlloc (Below.refl _ _) _⟩

/-- Nothing under way. -/
theorem MB.start (h : MB w P bO A B W) : MJ w P bO W.heap.size A B (.slice none 0 0) (.slice none 0 0) [] [] (W.alloc (.cells #[.slice none 0 0, .slice none 0 0] 57)) :=
  ⟨h.pr.alloc _, h.o.alloc _, SR.new 57 W [.slice none 0 0, .slice none 0 0], OwnT.nil _ _, OwnT.nil _ _, fun g hg => by simp [Value.ownBlock] at hg, h.lt, h.o.lt, bAlloc h.bel _⟩
end

end Go.Proofs.YtlgcfpdmklieiaaDoor
