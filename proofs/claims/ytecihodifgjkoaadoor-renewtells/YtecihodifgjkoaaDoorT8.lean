/-
  A line without some of its octets. No conditions beyond those each theorem states.
-/
import Derived.Test.YtecihodifgjkoaaDoorT7
namespace Go.Proofs.YtecihodifgjkoaaDoor
open Go.RowKit
set_option maxRecDepth 100000

theorem upD2 {w1 w2 : World} {o o' : Obj} (hb : Below ((w1.alloc o).alloc o').drew.heap.size ((w1.alloc o).alloc o').drew w2) : Below w1.heap.size w1 w2 := by
  have h1 : Below w1.heap.size w1 ((w1.alloc o).alloc o').drew := (bAlloc (bAlloc (Below.refl _ _) _) _).drew
  exact h1.trans (hb.mono (by simp only [World.size_drew, World.size_alloc]; omega))
theorem sL {V W : World} {g : Nat} {x y : Value} (k0 : V.cell? ⟨g, 0, none⟩ = some x) (k1 : V.cell? ⟨g, 1, none⟩ = some y) (h : Below (g + 1) V W) : W.cell? ⟨g, 0, none⟩ = some x ∧ W.cell? ⟨g, 1, none⟩ = some y ∧ Below (g + 1) V W :=
  ⟨(h.cell (p := ⟨g, 0, none⟩) (Nat.lt_succ_self g)).trans k0, (h.cell (p := ⟨g, 1, none⟩) (Nat.lt_succ_self g)).trans k1, h⟩

theorem rdp2 (V : World) (A A' : Option Addr) (n n' c c' : Nat) (l l' : List UInt8) (hn : n = l.length) (hn' : n' = l'.length) (h : Rd V V.heap.size A l c) (h' : Rd V V.heap.size A' l' c') :
    RdP (V.alloc (.cells #[.slice A n c, .slice A' n' c'] 26)) V.heap.size [⟨A, n, c, l⟩, ⟨A', n', c', l'⟩] :=
  ⟨heap_alloc_new V _, fun p hp => by
    simp only [List.mem_cons, List.not_mem_nil, or_false] at hp
    rcases hp with rfl | rfl
    · exact ⟨hn, h.alloc (Nat.le_refl _) (by simp) _⟩
    · exact ⟨hn', h'.alloc (Nat.le_refl _) (by simp) _⟩⟩
theorem RdP.drew {w : World} {g : Nat} {Ps : List Pt} (h : RdP w g Ps) : RdP w.drew g Ps := ⟨h.b, h.r⟩

theorem tail_of {w : World} {A : Option Addr} {l : List UInt8} {c n t : Nat} (hn : n = l.length) (hr : Rd w w.heap.size A l c) (ht : t ≤ n) :
    ∃ A2 k d, k = (l.drop t).length ∧ Rd w w.heap.size A2 (l.drop t) d ∧ ∀ W, (Instr.sliceAt 26 (.slice A n c) (some (.int .i64 t)) none none).run Tryd.prog W = .ok (.slice A2 k d) W :=
  ⟨_, n - t, _, by rw [List.length_drop, hn], hr.drop t (by omega), fun W => slice_from A n c t ht W⟩

set_option maxHeartbeats 1000000 in
theorem without_any (A : Option Addr) (l : List UInt8) (n c f t m : Nat) (z : Int) (w : World) (hn : n = l.length) (hr : Rd w w.heap.size A l c) (hl : n ≤ 100000) (hf : f ≤ n) (ht : t ≤ n) (hm : (l.take f ++ l.drop t).length = m) :
    Calls Tryd.prog 65 #[.agg #[.slice A n c, .int .i64 z], .int .i64 (f : Int), .int .i64 (t : Int)] w (GotN w (l.take f ++ l.drop t) m (f : Int)) := by
  obtain ⟨A2, k, d, hk, hr2, hsl⟩ := tail_of hn hr ht
  have hc1 : n ≤ c := by rw [hn]; exact hr.1
  have hc2 := hr.2.1
  unfold maxLen at hc2
  have HF : Hid (f = (l.take f).length) := by show _ = _; rw [List.length_take]; omega
  have HK := keepd hk
  have HM := keepd hm
  have HML : Hid ((l.take f ++ l.drop t).length ≤ 1000000) := by
    show _ ≤ _
    rw [List.length_append, List.length_take, List.length_drop]
    omega
  have HR1 := keepd (hr.take f)
  have HR2 := keepd hr2
  have s0 : (f : Int) ≤ c := by omega
  have s1 : f ≤ c := by omega
  have s2 : (0 : Int) ≤ (f : Int) := by omega
  clear hn hr hr2 hk hm ht
  go_enter Tryd.func65, Tryd.ntmps65
  go_upto_region 1 with fail
  generalize hV : (w.alloc (.cells #[.slice A n c, .int .i64 z] 28)).alloc (.cells #[.slice none 0 0, .int .i64 0] 28) = V
  obtain ⟨H1, H2, HB⟩ := line_new2 _ _ _ _ _ _ hV
  have HS : Hid (V.heap.size = w.heap.size + 2) := by
    show _ = _
    rw [← hV, World.size_alloc, World.size_alloc]
  obtain ⟨k0, k1, k2, k3, kt⟩ := line_facts H1.out
  have K0 := keepd k0
  have K1 := keepd k1
  have xx : w.heap.size + 1 ≤ V.heap.size := by rw [HS.out]; omega
  have C := concat_any V.heap.size 2 _ (l.take f ++ l.drop t) _ (rdp2 V A A2 f k c d _ _ HF.out HK.out (HR1.out.at_ HB.out) (HR2.out.at_ HB.out)).drew rfl (by omega) (by simp [flat]) HML.out
  rw [show (l.take f ++ l.drop t).length = m from HM.out] at C
  replace C := keepd C
  have HLT : Hid (w.heap.size + 1 < (V.alloc (.cells #[.slice A f c, .slice A2 k d] 26)).drew.heap.size) := by
    show _ < (V.alloc _).heap.size
    rw [World.size_alloc, HS.out]
    omega
  clear hV
  go_region_held3 (fun W => W.cell? ⟨w.heap.size, 0, none⟩ = some (.slice A n c) ∧ W.cell? ⟨w.heap.size, 1, none⟩ = some (.int .i64 z) ∧ Below (w.heap.size + 1) V W)
    ((refine sL K0.out K1.out ?_; repeat (first | assumption | exact Below.refl _ _ | with_reducible refine Below.setCell ?_ (Nat.le_refl (w.heap.size + 1)) _ | with_reducible refine bAl xx ?_ _ | with_reducible refine Below.drew ?_)))
    (first | (go_at_call 26; (with_reducible refine C.out.mono ?_); rintro e w2 ⟨⟨A3, c3, rfl, ho⟩, hb2⟩; have hb3 : Below V.heap.size V w2 := upD hb2; have hb4 := hb3.mono xx; have HO := keepd ho; have HB2 := keepd (HB.out.trans (hb3.mono HB.out.size)); obtain ⟨m0, m1, m2, m3, lt⟩ := line_facts (SR.call H2.out hb3 H2.out.lt); clear hb2 ho))
  all_goals
    go_wp2_with fail
    refine bodyPost_ret (v := .agg #[.slice A3 m c3, .int .i64 (f : Int)]) (by simp [results, Tryd.results65, go_sem, m0, m1]) rfl ?_
    obtain ⟨q1, q2⟩ := gotn_end (z := (f : Int)) HLT.out HO.out HB2.out
    exact ⟨⟨A3, c3, rfl, q1⟩, q2⟩

theorem rdp3 (V : World) (A A' : Option Addr) (n n' c c' : Nat) (l l' : List UInt8) (u : UInt8) (hn : n = l.length) (hn' : n' = l'.length) (h : Rd V V.heap.size A l c) (h' : Rd V V.heap.size A' l' c') :
    RdP ((V.alloc (.cells #[.int .u8 (u.toNat : Int)] 5)).alloc (.cells #[.slice A n c, .slice (some ⟨V.heap.size, 0, none⟩) 1 1, .slice A' n' c'] 26)) (V.heap.size + 1) [⟨A, n, c, l⟩, ⟨some ⟨V.heap.size, 0, none⟩, 1, 1, [u]⟩, ⟨A', n', c', l'⟩] := by
  have hb : Below V.heap.size V ((V.alloc (.cells #[.int .u8 (u.toNat : Int)] 5)).alloc (.cells #[.slice A n c, .slice (some ⟨V.heap.size, 0, none⟩) 1 1, .slice A' n' c'] 26)) := bAlloc (bAlloc (Below.refl _ _) _) _
  refine ⟨?_, fun p hp => ?_⟩
  · have := heap_alloc_new (V.alloc (.cells #[.int .u8 (u.toNat : Int)] 5)) (.cells #[.slice A n c, .slice (some ⟨V.heap.size, 0, none⟩) 1 1, .slice A' n' c'] 26)
    rw [World.size_alloc] at this
    exact this
  · simp only [List.mem_cons, List.not_mem_nil, or_false] at hp
    rcases hp with rfl | rfl | rfl
    · exact ⟨hn, h.at_ hb⟩
    · exact ⟨rfl, (one_rdb V u).alloc (by simp) (by simp) _⟩
    · exact ⟨hn', h'.at_ hb⟩

set_option maxHeartbeats 1000000 in
theorem typed_any (A : Option Addr) (l : List UInt8) (n c t r m : Nat) (u : UInt8) (w : World) (hn : n = l.length) (hr : Rd w w.heap.size A l c) (hl : n ≤ 100000) (ht : t ≤ n) (hrn : r ≤ n) (hm : (l.take t ++ ([u] ++ l.drop r)).length = m) :
    Calls Tryd.prog 62 #[.agg #[.slice A n c, .int .i64 (t : Int)], .int .u8 (u.toNat : Int), .int .i64 (r : Int)] w (GotN w (l.take t ++ ([u] ++ l.drop r)) m ((t : Int) + 1)) := by
  obtain ⟨A2, k, d, hk, hr2, hsl⟩ := tail_of hn hr hrn
  have hc1 : n ≤ c := by rw [hn]; exact hr.1
  have hc2 := hr.2.1
  unfold maxLen at hc2
  have HF : Hid (t = (l.take t).length) := by show _ = _; rw [List.length_take]; omega
  have HK := keepd hk
  have HM := keepd hm
  have HML : Hid ((l.take t ++ ([u] ++ l.drop r)).length ≤ 1000000) := by
    show _ ≤ _
    rw [List.length_append, List.length_append, List.length_take, List.length_drop]
    simp only [List.length_cons, List.length_nil]
    omega
  have HR1 := keepd (hr.take t)
  have HR2 := keepd hr2
  have s0 : (t : Int) ≤ c := by omega
  have s1 : t ≤ c := by omega
  have s2 : (0 : Int) ≤ (t : Int) := by omega
  have s3 : (t : Int) ≤ 100000 := by omega
  have hw : IntKind.i64.wrap ((t : Int) + 1) = (t : Int) + 1 := by rw [IntKind.wrap_i64]; omega
  clear hn hr hr2 hk hm hrn
  go_enter Tryd.func62, Tryd.ntmps62
  go_upto_region 1 with fail
  generalize hV : (w.alloc (.cells #[.slice A n c, .int .i64 (t : Int)] 28)).alloc (.cells #[.slice none 0 0, .int .i64 0] 28) = V
  obtain ⟨H1, H2, HB⟩ := line_new2 _ _ _ _ _ _ hV
  have HS : Hid (V.heap.size = w.heap.size + 2) := by
    show _ = _
    rw [← hV, World.size_alloc, World.size_alloc]
  obtain ⟨k0, k1, k2, k3, kt⟩ := line_facts H1.out
  have K0 := keepd k0
  have K1 := keepd k1
  have xx : w.heap.size + 1 ≤ V.heap.size := by rw [HS.out]; omega
  have C := concat_any (V.heap.size + 1) 3 _ (l.take t ++ ([u] ++ l.drop r)) _ (rdp3 V A A2 t k c d _ _ u HF.out HK.out (HR1.out.at_ HB.out) (HR2.out.at_ HB.out)).drew rfl (by omega) (by simp [flat]) HML.out
  rw [show (l.take t ++ ([u] ++ l.drop r)).length = m from HM.out] at C
  replace C := keepd C
  have HLT : Hid (w.heap.size + 1 < ((V.alloc (.cells #[.int .u8 (u.toNat : Int)] 5)).alloc (.cells #[.slice A t c, .slice (some ⟨V.heap.size, 0, none⟩) 1 1, .slice A2 k d] 26)).drew.heap.size) := by
    show _ < ((V.alloc _).alloc _).heap.size
    rw [World.size_alloc, World.size_alloc, HS.out]
    omega
  clear hV
  go_region_held3 (fun W => W.cell? ⟨w.heap.size, 0, none⟩ = some (.slice A n c) ∧ W.cell? ⟨w.heap.size, 1, none⟩ = some (.int .i64 (t : Int)) ∧ Below (w.heap.size + 1) V W)
    ((refine sL K0.out K1.out ?_; repeat (first | assumption | exact Below.refl _ _ | with_reducible refine Below.setCell ?_ (Nat.le_refl (w.heap.size + 1)) _ | with_reducible refine bAl xx ?_ _ | with_reducible refine Below.drew ?_)))
    (first | (go_at_call 26; (with_reducible refine C.out.mono ?_); rintro e w2 ⟨⟨A3, c3, rfl, ho⟩, hb2⟩; have hb3 : Below V.heap.size V w2 := upD2 hb2; have hb4 := hb3.mono xx; have HO := keepd ho; have HB2 := keepd (HB.out.trans (hb3.mono HB.out.size)); obtain ⟨m0, m1, m2, m3, lt⟩ := line_facts (SR.call H2.out hb3 H2.out.lt); clear hb2 ho))
  all_goals
    go_wp2_with fail
    refine bodyPost_ret (v := .agg #[.slice A3 m c3, .int .i64 ((t : Int) + 1)]) (by simp [results, Tryd.results62, go_sem, m0, m1]) rfl ?_
    obtain ⟨q1, q2⟩ := gotn_end (z := ((t : Int) + 1)) HLT.out HO.out HB2.out
    exact ⟨⟨A3, c3, rfl, q1⟩, q2⟩

end Go.Proofs.YtecihodifgjkoaaDoor
