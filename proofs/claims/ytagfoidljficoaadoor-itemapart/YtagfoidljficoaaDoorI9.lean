/-
  A contract over the law's own awake: it returns true. No conditions.
-/
import Derived.Test.YtagfoidljficoaaDoorI8
namespace Go.Proofs.YtagfoidljficoaaDoor
open Go.RowKit

theorem put_at (A : Option Addr) (L : List Itm) (out : List UInt8) (m n c : Nat) (er : Int) (w : World) (hn : n = L.length) (hl : n ≤ 300) (hr : RdI w A L c) (ho : putL L = out) (hm : out.length = m) (he : errL L = er) :
    Calls Tryd.prog 13 #[.slice A n c] w fun e w' => ∃ A' c', e = .returned (.tuple #[.slice A' m c', .int .i64 er]) ∧ Rd w' w'.heap.size A' out c' ∧ Below w.heap.size w w' := by
  subst ho hm he
  exact put_any A L n c w hn hl hr

theorem one_rdI3 (w : World) (o : Obj) (X : Itm) (hr : Rd (w.alloc o) (w.alloc o).heap.size X.A X.l X.c) : RdI ((w.alloc o).alloc (.cells #[.int .i64 X.k, .int .i64 X.a, .int .i64 X.b, .slice X.A X.l.length X.c] 29)) (some ⟨w.heap.size + 1, 0, none⟩) [X] 1 := by
  have e : (w.alloc o).heap.size = w.heap.size + 1 := by simp
  have := one_rdI (w.alloc o) X hr
  rw [show (⟨(w.alloc o).heap.size, 0, none⟩ : Addr) = ⟨w.heap.size + 1, 0, none⟩ by rw [e]] at this
  exact this

def exDo : Itm := ⟨3, 253, 34, none, [], 0⟩
theorem exDo_put : putL [exDo] = [255, 253, 34] := by decide
theorem exDo_err : errL [exDo] = 0 := by decide
def exSub (A : Option Addr) : Itm := ⟨4, 34, 0, A, [1, 255], 2⟩
theorem exSub_put (A : Option Addr) : putL [exSub A] = [255, 250, 34, 1, 255, 255, 255, 240] := rfl
theorem exSub_err (A : Option Addr) : errL [exSub A] = 0 := rfl

set_option maxHeartbeats 1000000 in
theorem iawake_any (w : World) : Calls Tryd.prog 20 #[] w fun e w' => e = .returned (.bool true) ∧ Below w.heap.size w w' := by
  go_enter Tryd.func20, Tryd.ntmps20
  go_wp2_with fail
  have hr0 : RdI (w.alloc (.cells #[.int .i64 3, .int .i64 253, .int .i64 34, .slice none 0 0] 29)) (some ⟨w.heap.size, 0, none⟩) [exDo] 1 := one_rdI w exDo (Rd.nil _ _)
  with_reducible refine (put_at _ [exDo] [255, 253, 34] 3 1 1 0 _ rfl (by omega) hr0 exDo_put rfl exDo_err).mono ?_
  rintro e w1 ⟨A1, c1, rfl, hr1, hb1⟩
  have HR1 := keepd hr1
  have hb : Below w.heap.size w w1 := upA hb1
  have HB := keepd hb
  clear hr0 hr1 hb1 hb
  go_wp2_with fail
  have hr2 : RdI ((w1.alloc (.cells #[.int .u8 1, .int .u8 255] 5)).alloc (.cells #[.int .i64 4, .int .i64 34, .int .i64 0, .slice (some ⟨w1.heap.size, 0, none⟩) 2 2] 29)) (some ⟨w1.heap.size + 1, 0, none⟩) [exSub (some ⟨w1.heap.size, 0, none⟩)] 1 :=
    one_rdI3 w1 _ (exSub (some ⟨w1.heap.size, 0, none⟩)) (new_rd w1 #[.int .u8 1, .int .u8 255] [1, 255] 2 rfl rfl (by omega))
  with_reducible refine (put_at _ [exSub (some ⟨w1.heap.size, 0, none⟩)] [255, 250, 34, 1, 255, 255, 255, 240] 8 1 1 0 _ rfl (by omega) hr2 (exSub_put _) rfl (exSub_err _)).mono ?_
  rintro e w2 ⟨A2, c2, rfl, hr3, hb3⟩
  have hb4 : Below w1.heap.size w1 w2 := upA (upA hb3)
  have k1 : (convert 23 9 (.slice A1 3 c1)).run Tryd.prog w2 = .ok (.string ⟨#[255, 253, 34]⟩) w2 := conv_str (HR1.out.at_ hb4)
  have k2 : (convert 23 9 (.slice A2 8 c2)).run Tryd.prog w2 = .ok (.string ⟨#[255, 250, 34, 1, 255, 255, 255, 240]⟩) w2 := conv_str hr3
  have HB2 := keepd (bCall HB.out hb4)
  have HCk := fun w => check_any 2 240 0 none 0 0 false rfl w
  clear hr2 hr3 hb3 hb4 HR1 HB
  go_wp2_with (go_at_call 11; with_reducible refine (HCk _).mono ?_; rintro e w3 ⟨rfl, hb5⟩)
  go_ret
  exact ⟨rfl, bCall HB2.out hb5⟩

end Go.Proofs.YtagfoidljficoaaDoor
