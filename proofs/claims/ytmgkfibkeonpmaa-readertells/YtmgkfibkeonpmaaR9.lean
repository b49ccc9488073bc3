/-
  A contract over the law's own awake: it returns true. No conditions.
-/
import Derived.Test.YtmgkfibkeonpmaaR8
import Derived.Test.YtmgkfibkeonpmaaK1
namespace Go.Proofs.Ytmgkfibkeonpmaa
open Go.RowKit

/-- Feed, with its answers named. -/
theorem feed_at (rk ra rb : Int) (RA : Option Addr) (rl : List UInt8) (rc : Nat) (A : Option Addr) (l : List UInt8) (m n c : Nat) (w : World) (hm : m = rl.length) (hn : n = l.length) (hl : n ≤ 60000) (hml : m ≤ 60000) (hR : Rd w w.heap.size RA rl rc) (hr : Rd w w.heap.size A l c)
    (k a b : Int) (ql : List UInt8) (qn : Nat) (out : List Abs) (s : Nat) (er : Int) (hf : feedE ⟨rk, ra, rb, rl⟩ l = (⟨k, a, b, ql⟩, out)) (hq : ql.length = qn) (hs : out.length = s) (he : errF ⟨rk, ra, rb, rl⟩ = er) :
    Calls Try.prog 8 #[.agg #[.int .i64 rk, .int .i64 ra, .int .i64 rb, .slice RA m rc], .slice A n c] w fun e w' =>
      ∃ A' c' B d L, e = .returned (.tuple #[.agg #[.int .i64 k, .int .i64 a, .int .i64 b, .slice A' qn c'], .slice B s d, .int .i64 er]) ∧ L.map Itm.abs = out ∧ Rd w' w'.heap.size A' ql c' ∧ RdI w' B L d ∧ Below w.heap.size w w' := by
  refine (feed_any ⟨rk, ra, rb, RA, rl, rc⟩ A l m n c w hm hn hl hml hR hr).mono ?_
  rintro e w' ⟨Q, B, d, L, rfl, hQ, hL, h1, h2, h3⟩
  have hf' : feedE (Itm.abs ⟨rk, ra, rb, RA, rl, rc⟩) l = (⟨k, a, b, ql⟩, out) := hf
  rw [hf'] at hQ hL
  subst he hs hq
  obtain ⟨k', a', b', A', l', c'⟩ := Q
  have e1 : k' = k := congrArg Abs.k hQ
  have e2 : a' = a := congrArg Abs.a hQ
  have e3 : b' = b := congrArg Abs.b hQ
  have e4 : l' = ql := congrArg Abs.l hQ
  subst e1 e2 e3 e4
  have hL2 : L.map Itm.abs = out := hL
  refine ⟨A', c', B, d, L, ?_, hL, h1, h2, h3⟩
  rw [show out.length = L.length by rw [← hL2, List.length_map]]
  rfl

theorem ex_a : feedE ⟨0, 0, 0, []⟩ [1, 13, 10, 2] = (⟨0, 0, 0, []⟩, [dat 1, dat 13, dat 2]) := by decide
theorem ex_b : feedE ⟨0, 0, 0, []⟩ [255, 250, 34, 1, 255] = (⟨6, 0, 34, [1]⟩, []) := by decide
theorem ex_c : feedE ⟨6, 0, 34, [1]⟩ [240] = (⟨0, 0, 0, []⟩, [⟨4, 34, 0, [1]⟩]) := by decide

theorem one_rdI4 (w : World) (o : Obj) (X : Itm) (hr : Rd (w.alloc o) (w.alloc o).heap.size X.A X.l X.c) : RdI ((w.alloc o).alloc (.cells #[.int .i64 X.k, .int .i64 X.a, .int .i64 X.b, .slice X.A X.l.length X.c] 41)) (some ⟨w.heap.size + 1, 0, none⟩) [X] 1 := by
  have e : (w.alloc o).heap.size = w.heap.size + 1 := by simp
  have := one_rdI (w.alloc o) X hr
  rw [show (⟨(w.alloc o).heap.size, 0, none⟩ : Addr) = ⟨w.heap.size + 1, 0, none⟩ by rw [e]] at this
  exact this

set_option maxRecDepth 100000 in
set_option maxHeartbeats 2000000 in
theorem rawake_any (w : World) : Calls Try.prog 13 #[] w fun e w' => e = .returned (.bool true) ∧ Below w.heap.size w w' := by
  go_enter Try.func13, Try.ntmps13
  go_wp2_with fail
  have hr1 := new_rd w #[.int .u8 1, .int .u8 13, .int .u8 10, .int .u8 2] [1, 13, 10, 2] 4 rfl rfl (by omega)
  with_reducible refine (feed_at 0 0 0 none [] 0 _ [1, 13, 10, 2] 0 4 4 _ rfl rfl (by omega) (by omega) (Rd.nil _ _) hr1 0 0 0 [] 0 _ 3 0 ex_a rfl rfl rfl).mono ?_
  rintro e w1 ⟨A1, c1, B1, d1, L1, rfl, _, _, _, hb1⟩
  have hb : Below w.heap.size w w1 := upA hb1
  have HB1 := keepd hb
  clear hr1 hb1 hb
  go_wp2_with fail
  have hr2 := new_rd2 w1 (.cells #[.int .i64 0, .int .i64 0, .int .i64 0, .slice A1 0 c1] 24) #[.int .u8 255, .int .u8 250, .int .u8 34, .int .u8 1, .int .u8 255] [255, 250, 34, 1, 255] 5 rfl rfl (by omega)
  with_reducible refine (feed_at 0 0 0 none [] 0 _ [255, 250, 34, 1, 255] 0 5 5 _ rfl rfl (by omega) (by omega) (Rd.nil _ _) hr2 6 0 34 [1] 1 _ 0 0 ex_b rfl rfl rfl).mono ?_
  rintro e w2 ⟨A2, c2, B2, d2, L2, rfl, _, hR2, _, hb2⟩
  have HB2 := keepd (bCall HB1.out (upA (upA hb2)))
  have HR2 := keepd hR2
  clear hr2 hb2 hR2 HB1
  go_wp2_with fail
  have hr3 := new_rd2 w2 (.cells #[.int .i64 6, .int .i64 0, .int .i64 34, .slice A2 1 c2] 24) #[.int .u8 240] [240] 1 rfl rfl (by omega)
  have q2 := (SR.new 24 w2 [.int .i64 6, .int .i64 0, .int .i64 34, .slice A2 1 c2]).alloc (.cells #[.int .u8 240] 5)
  with_reducible refine (feed_at 6 0 34 A2 [1] c2 _ [240] 1 1 1 _ rfl rfl (by omega) (by omega) (HR2.out.at_ (bAlloc (bAlloc (Below.refl _ _) _) _)) hr3 0 0 0 [] 0 _ 1 0 ex_c rfl rfl rfl).mono ?_
  rintro e w3 ⟨A3, c3, B3, d3, L3, rfl, hL3, _, hI3, hb3⟩
  have q3 := q2.call hb3 (by simp; omega)
  have c20 := q3.cell 0
  have x20 := q3.lt
  simp only [List.getElem?_cons_zero] at c20
  have HB3 := keepd (bCall HB2.out (upA (upA hb3)))
  have HL3 := keepd hL3
  have HI3 := keepd hI3
  have HQ3 := keepd q3
  clear hr3 hb3 HR2 HB2 hL3 hI3 q2 q3
  go_wp2_with fail
  have HV : Hid (Below w3.heap.size w3 (w3.alloc (.cells #[.int .i64 0, .int .i64 0, .int .i64 0, .slice A3 0 c3] 24))) := bAlloc (Below.refl _ _) _
  have HVs : Hid ((w3.alloc (.cells #[.int .i64 0, .int .i64 0, .int .i64 0, .slice A3 0 c3] 24)).heap.size = w3.heap.size + 1) := by show _ = _; simp
  generalize w3.alloc (.cells #[.int .i64 0, .int .i64 0, .int .i64 0, .slice A3 0 c3] 24) = V at *
  have r1 := new_rd V #[.int .u8 1] [1] 1 rfl rfl (by omega)
  have r2 := one_rdI4 V (.cells #[.int .u8 1] 5) ⟨4, 34, 0, some ⟨V.heap.size, 0, none⟩, [1], 1⟩ r1
  rw [HVs.out] at r2
  have r3 := HI3.out.at_ (bCall HV.out (bAlloc (bAlloc (Below.refl _ _) (.cells #[.int .u8 1] 5)) (.cells #[.int .i64 4, .int .i64 34, .int .i64 0, .slice (some ⟨w3.heap.size + 1, 0, none⟩) 1 1] 41)))
  have e3 : L3.length = 1 := by rw [← List.length_map (f := Itm.abs), HL3.out]; rfl
  have es : sameL L3 [⟨4, 34, 0, some ⟨w3.heap.size + 1, 0, none⟩, [1], 1⟩] = true := by
    rw [sameL_abs, HL3.out]
    rfl
  with_reducible refine (rsame_any _ _ L3 [⟨4, 34, 0, some ⟨w3.heap.size + 1, 0, none⟩, [1], 1⟩] 1 1 _ 1 _ e3.symm rfl r3 r2).mono ?_
  rintro e w4 ⟨rfl, hb4⟩
  rw [es]
  have hb5 : Below w3.heap.size w3 w4 := bCall HV.out (upA (upA hb4))
  have c40 := (hb5.cell (p := ⟨w2.heap.size, 0, none⟩) x20).trans c20
  have HB5 := keepd (bCall HB3.out hb5)
  clear hb4 hb5 c20 r1 r2 r3 es e3
  go_wp2
  go_ret
  exact ⟨rfl, HB5.out⟩

end Go.Proofs.Ytmgkfibkeonpmaa
