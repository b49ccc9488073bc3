/-
  Contracts over the document's answers for layer 4: kept. No conditions beyond those each theorem states.
-/
import Derived.Test.YtmgkfibkeonpmaaQ2
namespace Go.Proofs.Ytmgkfibkeonpmaa
open Go.RowKit

def keptL (b : Int) (l : List UInt8) (u : UInt8) : Abs := if l.length = 512 then inn 7 else ⟨5, 0, b, l ++ [u]⟩

def GotKept (w : World) (x : Abs) (e : Ending) (w' : World) : Prop :=
  ∃ Q : Itm, e = .returned (.agg #[.int .i64 Q.k, .int .i64 Q.a, .int .i64 Q.b, .slice Q.A Q.l.length Q.c]) ∧ Q.abs = x ∧ Rd w' w'.heap.size Q.A Q.l Q.c ∧ Below w.heap.size w w' ∧ ∀ ad, Q.A = some ad → w.heap.size ≤ ad.block

theorem sK {V W : World} {b : Nat} {u2 u3 : Value} (k2 : V.cell? ⟨b, 2, none⟩ = some u2) (k3 : V.cell? ⟨b, 3, none⟩ = some u3) (h : Below (b + 1) V W) :
    W.cell? ⟨b, 2, none⟩ = some u2 ∧ W.cell? ⟨b, 3, none⟩ = some u3 ∧ Below (b + 1) V W :=
  ⟨(h.cell (p := ⟨b, 2, none⟩) (Nat.lt_succ_self b)).trans k2, (h.cell (p := ⟨b, 3, none⟩) (Nat.lt_succ_self b)).trans k3, h⟩

theorem za_ii {V wa : World} {u : UInt8} (hg : ((V.alloc (.cells #[] 5)).alloc (.cells #[.int .u8 (u.toNat : Int)] 5)).drew.grownBy wa (Value.ownBlock (.slice (some ⟨V.heap.size, 0, none⟩) 0 0))) : Rd wa wa.heap.size (some ⟨V.heap.size + 1, 0, none⟩) [u] 1 := by
  have hb : Bk ((V.alloc (.cells #[] 5)).alloc (.cells #[.int .u8 (u.toNat : Int)] 5)) (V.heap.size + 1) [u] := n3 V _ _
  have hb2 : Bk wa (V.heap.size + 1) [u] := (hg.block (V.heap.size + 1) (by show _ < (World.alloc _ _).heap.size; simp) (by simp [Value.ownBlock])).trans hb
  exact hb2.rd hb2.lt (by simp) (by unfold maxLen; omega)

theorem za_iii {V wa : World} {u : UInt8} (hg : ((V.alloc (.cells #[.int .u8 (u.toNat : Int)] 5)).alloc (.cells #[] 5)).drew.grownBy wa (Value.ownBlock (.slice (some ⟨V.heap.size + 1, 0, none⟩) 0 0))) : Rd wa wa.heap.size (some ⟨V.heap.size, 0, none⟩) [u] 1 := by
  have hb : Bk ((V.alloc (.cells #[.int .u8 (u.toNat : Int)] 5)).alloc (.cells #[] 5)) V.heap.size [u] := row_alloc (heap_alloc_new V _)
  have hb2 : Bk wa V.heap.size [u] := (hg.block V.heap.size (by show _ < (World.alloc _ _).heap.size; simp; omega) (by simp [Value.ownBlock])).trans hb
  exact hb2.rd hb2.lt (by simp) (by unfold maxLen; omega)

theorem kept_end {w V wb : World} {b : Int} {l : List UInt8} {u : UInt8} {Bv : Option Addr} {dv : Nat} (ho : Own wb V.heap.size (.slice Bv (l ++ [u]).length dv) (l ++ [u])) (h0 : Below w.heap.size w V) (hb : Below V.heap.size V wb) (hy : w.heap.size + 1 < V.heap.size) :
    GotKept w ⟨5, 0, b, l ++ [u]⟩ (.returned (.agg #[.int .i64 5, .int .i64 0, .int .i64 b, .slice Bv (l.length + 1) dv])) (set4 wb (w.heap.size + 1) (.int .i64 5) (.int .i64 0) (.int .i64 b) (.slice Bv (l.length + 1) dv)) := by
  refine ⟨⟨5, 0, b, Bv, l ++ [u], dv⟩, ?_, rfl, ho.rdOf.of_block (by rw [set4_size]; exact Nat.le_refl _) fun ad had => set4_heap _ _ _ _ _ _ (fun e => ?_), set4_below (bCall h0 hb) (Nat.le_succ _), fun ad had => ?_⟩
  · rw [List.length_append]
    rfl
  · subst had
    have := (ho.ge ad.block rfl).1
    omega
  · have had2 : Bv = some ad := had
    subst had2
    have := (ho.ge ad.block rfl).1
    omega

set_option maxRecDepth 100000 in
set_option maxHeartbeats 2000000 in
theorem dkept_any (k a b : Int) (A : Option Addr) (l : List UInt8) (n c : Nat) (hn : n = l.length) (hl : n ≤ 600) (u : UInt8) (z : Int) (hz : z = (u.toNat : Int)) (w : World) (hr : Rd w w.heap.size A l c) :
    Calls Try.prog 41 #[.agg #[.int .i64 k, .int .i64 a, .int .i64 b, .slice A n c], .int .u8 z] w (GotKept w (keptL b l u)) := by
  subst hz
  have HI := keepd in_any
  have HN := keepd hn
  have HR := keepd hr
  have s0 := bAlloc (bAlloc (Below.refl w.heap.size w) (.cells #[.int .i64 k, .int .i64 a, .int .i64 b, .slice A n c] 24)) (.cells #[.int .i64 0, .int .i64 0, .int .i64 0, .slice none 0 0] 24)
  have HX0 := keepd ((SR.new 24 w [.int .i64 k, .int .i64 a, .int .i64 b, .slice A n c]).alloc (.cells #[.int .i64 0, .int .i64 0, .int .i64 0, .slice none 0 0] 24))
  have HX1 : Hid (SR 24 ((w.alloc (.cells #[.int .i64 k, .int .i64 a, .int .i64 b, .slice A n c] 24)).alloc (.cells #[.int .i64 0, .int .i64 0, .int .i64 0, .slice none 0 0] 24)) (w.heap.size + 1) [.int .i64 0, .int .i64 0, .int .i64 0, .slice none 0 0]) := n3 w _ _
  unfold keptL
  clear hr
  by_cases h5 : n = 512
  · rw [if_pos (by omega)]
    have g5 : ((n : Int) == 512) = true := by simp; omega
    clear hn h5
    go_enter Try.func41, Try.ntmps41
    go_wp2_with fail
    generalize hV : (w.alloc (.cells #[.int .i64 k, .int .i64 a, .int .i64 b, .slice A n c] 24)).alloc (.cells #[.int .i64 0, .int .i64 0, .int .i64 0, .slice none 0 0] 24) = V at *
    clear hV
    with_reducible refine (HI.out 7 _).mono ?_
    rintro e w1 ⟨rfl, hb⟩
    have q := HX1.out.call hb HX1.out.lt
    obtain ⟨⟨c0, c1, c2, c3⟩, f0, f1, f2, f3⟩ := q.facts4
    have HB := keepd (bCall s0 hb)
    clear hb q s0
    go_wp2
    refine bodyPost_ret (v := .agg #[.int .i64 7, .int .i64 0, .int .i64 0, .slice none 0 0]) (by simp [results, Try.results41, go_sem, c0, c1, c2, c3]) rfl ?_
    exact ⟨⟨7, 0, 0, none, [], 0⟩, rfl, rfl, Rd.nil _ _, set4_below HB.out (Nat.le_succ _), fun ad e => by cases e⟩
  · rw [if_neg (by omega)]
    have g5 : ((n : Int) == 512) = false := by simp; omega
    clear hn h5
    have HR0 := keepd (HR.out.at_ s0)
    go_enter Try.func41, Try.ntmps41
    go_wp2_with fail
    have x3 : w.heap.size + 1 ≤ ((w.alloc (.cells #[.int .i64 k, .int .i64 a, .int .i64 b, .slice A n c] 24)).alloc (.cells #[.int .i64 0, .int .i64 0, .int .i64 0, .slice none 0 0] 24)).heap.size := by simp
    have y3 : w.heap.size + 1 < ((w.alloc (.cells #[.int .i64 k, .int .i64 a, .int .i64 b, .slice A n c] 24)).alloc (.cells #[.int .i64 0, .int .i64 0, .int .i64 0, .slice none 0 0] 24)).heap.size := by simp
    generalize hV : (w.alloc (.cells #[.int .i64 k, .int .i64 a, .int .i64 b, .slice A n c] 24)).alloc (.cells #[.int .i64 0, .int .i64 0, .int .i64 0, .slice none 0 0] 24) = V at *
    clear hV
    have HS0 := keepd s0
    have K2 := keepd HX0.out.facts4.1.2.2.1
    have K3 := keepd HX0.out.facts4.1.2.2.2
    clear s0
    go_region_held3 (fun W => W.cell? ⟨w.heap.size, 2, none⟩ = some (.int .i64 b) ∧ W.cell? ⟨w.heap.size, 3, none⟩ = some (.slice A n c) ∧ Below (w.heap.size + 1) V W)
      ((refine sK K2.out K3.out ?_; repeat (first | assumption | exact Below.refl _ _ | with_reducible refine Below.setCell ?_ (Nat.le_refl (w.heap.size + 1)) _ | with_reducible refine bAl x3 ?_ _ | with_reducible refine Below.drew ?_)))
      (first
        | (refine step_app _ rfl (.tmp 12) (.tmp 14) rfl V.heap.size _ [] rfl ?_ V.heap.size A n c l rfl HN.out ?_ ?_ ?_ ?_; (first | exact (empty_own V _ (Nat.le_refl _)).drew | exact empty_ii V _ | exact empty_iii V _); (focus (refine HR0.out.below ?_ (Nat.le_refl _); repeat (first | assumption | exact Below.refl _ _ | with_reducible refine bAlloc ?_ _ | with_reducible refine Below.drew ?_ | omega))); (rw [← HN.out]; simp; omega); (first | omega | (focus (simp; omega)) | (focus simp)); intro va wa ho hg hat; (first | have hba := app_below ((bAlloc (Below.refl V.heap.size V) _).drew) (empty_own V _ (Nat.le_refl _)).drew hg | have hba := app_below ((bAlloc (bAlloc (Below.refl V.heap.size V) _) _).drew) (empty_ii V _) hg | have hba := app_below ((bAlloc (bAlloc (Below.refl V.heap.size V) _) _).drew) (empty_iii V _) hg); (first | have HZ := keepd (za_ii hg) | have HZ := keepd (za_iii hg) | skip); have hbs := hba.mono x3; rw [List.nil_append] at ho; have HOa := keepd ho; have lba := hba.size; have HBa := keepd hba; clear ho hg hat; obtain ⟨⟨d0, d1, d2, d3⟩, r0, r1, r2, r3⟩ := (HX1.out.call hba y3).facts4)
        | (refine step_app _ rfl (.tmp 15) (.tmp 17) rfl V.heap.size _ l rfl HOa.out wa.heap.size _ 1 1 [u] rfl rfl HZ.out ?_ ?_ ?_; (rw [← HN.out]; simp; omega); omega; intro vb wb ho hg hat; have hbb := app_below HBa.out HOa.out hg; have hbt := hbb.mono x3; have HOb := keepd ho; have HBb := keepd hbb; have lbb := hbb.size; clear ho hg hat; obtain ⟨⟨m0, m1, m2, m3⟩, n0, n1, n2, n3⟩ := (HX1.out.call hbb y3).facts4; obtain ⟨Bv, dv, hv, _⟩ := HOb.out.rd; subst hv)
        | (refine step_app _ rfl (.tmp 15) (.tmp 17) rfl V.heap.size _ l rfl (HOa.out.alloc _) (wa.heap.size + 1) _ 1 1 [u] rfl rfl (one_rdb wa u) ?_ ?_ ?_; (rw [← HN.out]; simp; omega); (first | omega | (focus (simp; omega)) | (focus simp)); intro vb wb ho hg hat; have hbb := app_below (bAlloc HBa.out _) (HOa.out.alloc _) hg; have hbt := hbb.mono x3; have HOb := keepd ho; have HBb := keepd hbb; have lbb := hbb.size; clear ho hg hat; obtain ⟨⟨m0, m1, m2, m3⟩, n0, n1, n2, n3⟩ := (HX1.out.call hbb y3).facts4; obtain ⟨Bv, dv, hv, _⟩ := HOb.out.rd; subst hv))
    all_goals go_wp2_with fail
    all_goals refine bodyPost_ret (v := .agg #[.int .i64 5, .int .i64 0, .int .i64 b, .slice Bv (l.length + 1) dv]) (by simp [results, Try.results41, go_sem, m0, m1, m2, m3]) rfl ?_
    all_goals exact kept_end HOb.out HS0.out HBb.out y3

end Go.Proofs.Ytmgkfibkeonpmaa
