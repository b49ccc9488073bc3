/-
  What the law QueueParts returns.
-/
import Derived.Test.YtifimgachkecpaaKeep
import Derived.Test.YtifimgachkecpaaRoom
import Derived.Deep.QuietTactic
import Derived.BigQuiet
namespace Go.Proofs.Ytifimgachkecpaa
open Go.RowKit

theorem few_q (A : Option Addr) (n c : Nat) (w : World) (hn : n ≤ c) (hc : c ≤ maxLen) :
    Calls Try.prog 10 #[.slice A n c] w fun e w' => e = .returned (.slice A (min n 200) c) ∧ w' = w := (few_any A n c w hn hc).mono fun _ _ ⟨h1, h2⟩ => ⟨h1, h2.symm⟩

/-- How many there is room for. -/
def fit (c n m : Nat) : Nat := min m (c - n)
theorem put_two (c : Nat) (L X Y : List UInt8) :
    L ++ (X ++ Y).take (min (X ++ Y).length (c - L.length)) = (L ++ X.take (fit c L.length X.length)) ++ Y.take (fit c (L ++ X.take (fit c L.length X.length)).length Y.length) ∧
    min (X ++ Y).length (c - L.length) = fit c L.length X.length + fit c (L ++ X.take (fit c L.length X.length)).length Y.length := by
  have h1 : (L ++ X.take (fit c L.length X.length)).length = L.length + fit c L.length X.length := by
    rw [List.length_append, List.length_take]
    unfold fit
    omega
  rw [h1, List.length_append]
  by_cases h : X.length ≤ c - L.length
  · have e1 : fit c L.length X.length = X.length := by unfold fit; omega
    have e2 : min (X.length + Y.length) (c - L.length) = X.length + fit c (L.length + X.length) Y.length := by unfold fit; omega
    rw [e1, e2]
    refine ⟨?_, rfl⟩
    rw [List.take_append, List.take_of_length_le (by omega), List.take_of_length_le (Nat.le_refl _)]
    simp
  · have e1 : fit c L.length X.length = c - L.length := by unfold fit; omega
    have e2 : min (X.length + Y.length) (c - L.length) = c - L.length := by omega
    have e3 : fit c (L.length + (c - L.length)) Y.length = 0 := by unfold fit; omega
    rw [e1, e2, e3]
    refine ⟨?_, by omega⟩
    rw [List.take_append_of_le_length (by omega)]
    simp

theorem take_two (O : List UInt8) (n m : Nat) :
    O.drop (min (n + m) O.length) = (O.drop (min n O.length)).drop (min m (O.drop (min n O.length)).length) ∧
    O.take (min (n + m) O.length) = O.take (min n O.length) ++ (O.drop (min n O.length)).take (min m (O.drop (min n O.length)).length) := by
  rw [List.length_drop]
  have e : min (n + m) O.length = min n O.length + min m (O.length - min n O.length) := by omega
  rw [e, List.drop_drop, List.take_add]
  exact ⟨rfl, rfl⟩

/-- A block that is a struct Act. -/
def AR (w : World) (b : Nat) (u v : Value) : Prop := w.heap[b]? = some (.cells #[u, v] 26 (0, 0))
theorem AR.facts {W : World} {b : Nat} {u v : Value} (h : AR W b u v) : W.cell? ⟨b, 0, none⟩ = some u ∧ W.cell? ⟨b, 1, none⟩ = some v :=
  ⟨cell_of_row W b 0 _ 26 (0, 0) h, cell_of_row W b 1 _ 26 (0, 0) h⟩

theorem n4 (w : World) (o o' o'' : Obj) : (((w.alloc o).alloc o').alloc o'').heap[w.heap.size + 1 + 1]? = some o'' := by
  have := heap_alloc_new ((w.alloc o).alloc o') o''
  rw [World.size_alloc, World.size_alloc] at this
  exact this
theorem AR.below {W W' : World} {B b : Nat} {u v : Value} (h : AR W b u v) (hb : Below B W W') (hB : b < B) : AR W' b u v := (hb.block b hB).trans h
theorem AR.lt {w : World} {b : Nat} {u v : Value} (h : AR w b u v) : b < w.heap.size := (Array.getElem?_eq_some_iff.1 h).1
theorem AR.setCell {w : World} {b : Nat} {u v : Value} (h : AR w b u v) {p : Addr} (hp : b ≠ p.block) (x : Value) : AR (w.setCell p x) b u v := (Below.heap_setCell w p x b hp).trans h

/-- A new struct, apart from the row that v owns. -/
def ZA (w : World) (v : Value) (b : Nat) : Prop := QR w b (.int .i64 0) (.slice none 0 0) ∧ v.ownBlock ≠ some b
theorem ZA.app {w w' : World} {v v' : Value} {b : Nat} (h : ZA w v b) (hg : w.grownBy w' v.ownBlock) (hat : v'.ownBlock = v.ownBlock ∨ v'.ownBlock = some w.heap.size) : ZA w' v' b := by
  have hlt := h.1.lt
  refine ⟨(hg.block b hlt (fun e => h.2 e.symm)).trans h.1, ?_⟩
  rcases hat with e | e
  · rw [e]; exact h.2
  · rw [e]; intro e2; injection e2 with e2; omega
theorem ZA.ii (w : World) : ZA ((w.alloc (.cells #[] 5)).alloc (.cells #[.int .i64 0, .slice none 0 0] 24)).drew (.slice (some ⟨w.heap.size, 0, none⟩) 0 0) (w.heap.size + 1) :=
  ⟨n3 w _ _, by simp [Value.ownBlock]⟩
theorem ZA.iii (w : World) : ZA ((w.alloc (.cells #[.int .i64 0, .slice none 0 0] 24)).alloc (.cells #[] 5)).drew (.slice (some ⟨w.heap.size + 1, 0, none⟩) 0 0) w.heap.size :=
  ⟨n2 w _ _, by simp [Value.ownBlock]⟩
theorem ZA.new {w : World} {base : Nat} {v : Value} {l : List UInt8} (h : Own w base v l) : ZA (w.alloc (.cells #[.int .i64 0, .slice none 0 0] 24)) v w.heap.size :=
  ⟨QR.new w _ _, fun e => by have := (h.ge _ e).2; omega⟩
theorem empty_ii (w : World) (o : Obj) : Own ((w.alloc (.cells #[] 5)).alloc o).drew w.heap.size (.slice (some ⟨w.heap.size, 0, none⟩) 0 0) [] := ((empty_own w _ (Nat.le_refl _)).alloc o).drew
theorem empty_iii (w : World) (o : Obj) : Own ((w.alloc o).alloc (.cells #[] 5)).drew w.heap.size (.slice (some ⟨w.heap.size + 1, 0, none⟩) 0 0) [] := by
  have := empty_own (w.alloc o) w.heap.size (by simp)
  rw [World.size_alloc] at this
  exact this.drew
theorem app_below {w1 w w' : World} {v : Value} {l : List UInt8} (h : Below w1.heap.size w1 w) (hown : Own w w1.heap.size v l) (hg : w.grownBy w' v.ownBlock) : Below w1.heap.size w1 w' :=
  h.trans (grown_below hown hg h.size)

/-- Between 0 and 300. -/
def clip (N : Int) : Nat := (min (max N 0) 300).toNat
theorem clip_max (N : Int) (ts : Array TypeId) (t : TypeId) (W : World) : (Builtin.max_ ts t #[.int .i64 N, .int .i64 0]).run Try.prog W = .ok (.int .i64 (max N 0)) W := by
  rw [run_max_int2]
  congr 2
  omega
theorem clip_min (N : Int) (ts : Array TypeId) (t : TypeId) (W : World) : (Builtin.min_ ts t #[.int .i64 (max N 0), .int .i64 300]).run Try.prog W = .ok (.int .i64 (clip N : Int)) W := by
  rw [run_min_int2]
  congr 2
  unfold clip
  omega

set_option maxRecDepth 100000 in
set_option maxHeartbeats 4000000 in
theorem parts_any (cap N1 N2 : Int) (A A1 A2 : Option Addr) (l l1 l2 : List UInt8) (n n1 n2 c c1 c2 : Nat) (w : World) (hn : n = l.length) (hn1 : n1 = l1.length) (hn2 : n2 = l2.length)
    (hr : Rd w w.heap.size A l c) (hr1 : Rd w w.heap.size A1 l1 c1) (hr2 : Rd w w.heap.size A2 l2 c2) :
    Calls Try.prog 5 #[.agg #[.int .i64 cap, .slice A n c], .agg #[.slice A1 n1 c1, .int .i64 N1], .agg #[.slice A2 n2 c2, .int .i64 N2]] w fun e w' => e = .returned (.bool true) ∧ Below w.heap.size w w' := by
  have HR := keepd (hr.take 200)
  have HR1 := keepd (hr1.take 200)
  have HR2 := keepd (hr2.take 200)
  have b1 : n ≤ c := by have := hr.1; omega
  have b2 : c ≤ maxLen := hr.2.1
  have b3 : n1 ≤ c1 := by have := hr1.1; omega
  have b4 : c1 ≤ maxLen := hr1.2.1
  have b5 : n2 ≤ c2 := by have := hr2.1; omega
  have b6 : c2 ≤ maxLen := hr2.2.1
  have HN : Hid (min n 200 = (l.take 200).length) := by show _ = _; rw [List.length_take]; omega
  have HN1 : Hid (min n1 200 = (l1.take 200).length) := by show _ = _; rw [List.length_take]; omega
  have HN2 : Hid (min n2 200 = (l2.take 200).length) := by show _ = _; rw [List.length_take]; omega
  clear hr hr1 hr2 hn hn1 hn2
  go_enter Try.func5, Try.ntmps5
  go_wp2_with fail
  with_reducible refine (one_any cap A n c _ b1 b2).mono ?_
  rintro e w1 ⟨rfl, hb1⟩
  simp only [World.size_alloc] at hb1
  have q1 := (((QR.new w (.int .i64 cap) (.slice A n c)).alloc (.cells #[.slice A1 n1 c1, .int .i64 N1] 26)).alloc (.cells #[.slice A2 n2 c2, .int .i64 N2] 26)).call hb1 (by omega)
  have r1 : AR w1 (w.heap.size + 1) (.slice A1 n1 c1) (.int .i64 N1) := (hb1.block (w.heap.size + 1) (by omega)).trans (row_alloc (n3 w _ _))
  have t1 : AR w1 (w.heap.size + 1 + 1) (.slice A2 n2 c2) (.int .i64 N2) := (hb1.block (w.heap.size + 1 + 1) (by omega)).trans (n4 w _ _ _)
  have s1 : Below w.heap.size w w1 := (bAlloc (bAlloc (bAlloc (Below.refl _ _) _) _) _).trans (hb1.mono (by omega))
  have e1 := q1.facts
  go_upto_region 2 with fail
  have q2 := q1.store (.int .i64 cap) (.slice A (min n 200) c)
  have s2 := set2_below s1 (b := w.heap.size) (Nat.le_refl _) (.int .i64 cap) (.slice A (min n 200) c)
  have r2 : AR _ _ _ _ := (r1.setCell (p := ⟨w.heap.size, 0, none⟩) (by simp) (.int .i64 cap)).setCell (p := ⟨w.heap.size, 1, none⟩) (by simp) (.slice A (min n 200) c)
  have t2 : AR _ _ _ _ := (t1.setCell (p := ⟨w.heap.size, 0, none⟩) (by simp; omega) (.int .i64 cap)).setCell (p := ⟨w.heap.size, 1, none⟩) (by simp; omega) (.slice A (min n 200) c)
  generalize (w1.setCell ⟨w.heap.size, 0, none⟩ (.int .i64 cap)).setCell ⟨w.heap.size, 1, none⟩ (.slice A (min n 200) c) = W2 at *
  have hx1 := clip_max N1
  have hy1 := clip_min N1
  have hx2 := clip_max N2
  have hy2 := clip_min N2
  have HR3 := keepd (HR.out.at_ s2)
  have HR31 := keepd (HR1.out.at_ s2)
  have HR32 := keepd (HR2.out.at_ s2)
  have HQ2 := keepd q2
  have x2 := q2.lt
  have k1 := r2.facts.1
  have k2 := r2.facts.2
  have k3 := t2.facts.1
  have k4 := t2.facts.2
  clear q1 r1 t1 e1 hb1 q2 r2 t2
  go_cut [7, 8, 9, 10] (fun s7 s8 s9 s10 wx => s7 = .slice A1 (min n1 200) c1 ∧ s8 = .slice A2 (min n2 200) c2 ∧ s9 = .int .i64 (clip N1) ∧ s10 = .int .i64 (clip N2) ∧ Hid (Below W2.heap.size W2 wx))
  case first =>
    go_quiet ((first | (go_at_call_of 10 (Value.slice A1 n1 c1); exact Calls.quiet_of_same (few_q A1 n1 c1 _ b3 b4)) | (go_at_call_of 10 (Value.slice A2 n2 c2); exact Calls.quiet_of_same (few_q A2 n2 c2 _ b5 b6))))
    all_goals go_wp2_with fail
    all_goals go_meet
    all_goals exact ⟨rfl, rfl, rfl, rfl, bDrewN (Below.refl _ _) _⟩
  case rest =>
    obtain ⟨rfl, rfl, rfl, rfl, HB⟩ := hcut
    obtain ⟨V4, hV4⟩ : ∃ V4, V4 = wc := ⟨_, rfl⟩
    subst hV4
    have q4 := HQ2.out.call HB.out x2
    have s4 := bCall s2 HB.out
    have x4 := q4.lt
    have K0 := keepd q4.facts.1
    have K1 := keepd q4.facts.2.1
    have HQ4 := keepd q4
    have HR4 := keepd (HR3.out.at_ HB.out)
    have HR41 := keepd (HR31.out.at_ HB.out)
    have HR42 := keepd (HR32.out.at_ HB.out)
    have a1b : min n1 200 ≤ 200 := by omega
    have a2b : min n2 200 ≤ 200 := by omega
    have a0b : min n 200 ≤ 200 := by omega
    have x1b : clip N1 ≤ 300 := by unfold clip; omega
    have x2b : clip N2 ≤ 300 := by unfold clip; omega
    clear q4 HQ2 HR3 HR31 HR32 HR HR1 HR2 k1 k2 k3 k4 hx1 hy1 hx2 hy2 HB s2 x2
    generalize l.take 200 = L at *
    generalize l1.take 200 = X at *
    generalize l2.take 200 = Y at *
    generalize min n 200 = a at *
    generalize min n1 200 = a1 at *
    generalize min n2 200 = a2 at *
    generalize clip N1 = x1 at *
    generalize clip N2 = x2 at *
    obtain ⟨O, KK, EE, HCase⟩ : ∃ (O : List UInt8) (KK EE : Int), Hid ((¬ May cap L.length ∧ O = L ∧ KK = 0 ∧ EE = 1) ∨ (May cap L.length ∧ O = L ++ (X ++ Y).take (min (X ++ Y).length (cap.toNat - L.length)) ∧ KK = ((min (X ++ Y).length (cap.toNat - L.length) : Nat) : Int) ∧ EE = 0)) := by
      by_cases h : May cap L.length
      · exact ⟨_, _, _, .inr ⟨h, rfl, rfl, rfl⟩⟩
      · exact ⟨_, _, _, .inl ⟨h, rfl, rfl, rfl⟩⟩
    have HPut : Hid (∀ (W : World) (Av : Option Addr) (cv : Nat), Rd W W.heap.size A L c → Rd W W.heap.size Av (X ++ Y) cv → Calls Try.prog 16 #[.agg #[.int .i64 cap, .slice A a c], .slice Av (a1 + a2) cv] W (GotPut W cap O KK EE)) := by
      intro W Av cv h1 h2
      rcases HCase.out with ⟨hm, rfl, rfl, rfl⟩ | ⟨hm, rfl, rfl, rfl⟩
      · exact put_err cap A Av O a (a1 + a2) c cv W HN.out hm h1 (by rw [← HN.out]; omega)
      · exact put_at cap A Av L (X ++ Y) _ a (a1 + a2) c cv _ W HN.out (by rw [List.length_append, HN1.out, HN2.out]) rfl rfl hm h1 h2 (by rw [List.length_append, ← HN1.out, ← HN2.out]; omega)
    have HXY : Hid ((X ++ Y).length = a1 + a2) := by show _ = _; rw [List.length_append, HN1.out, HN2.out]
    go_wp2_with fail
    go_cut [11, 12, 13] (fun s11 s12 s13 wx => ∃ g b : Nat, s11 = .pointer (some ⟨b, 0, none⟩) ∧ s12 = .int .i64 KK ∧ s13 = .int .i64 EE ∧ Hid (QR wx b (.int .i64 cap) (.slice (some ⟨g, 0, none⟩) O.length O.length)) ∧ Hid (Bk wx g O) ∧ Hid (Below V4.heap.size V4 wx))
    case first =>
      go_region_held3 (fun W => W.cell? ⟨w.heap.size, 0, none⟩ = some (.int .i64 cap) ∧ W.cell? ⟨w.heap.size, 1, none⟩ = some (.slice A a c) ∧ Below V4.heap.size V4 W)
        ((refine sOf2 K0.out K1.out x4 ?_; repeat (first | assumption | exact Below.refl _ _ | with_reducible refine bSet ?_ ?_ _ | with_reducible refine bAlloc ?_ _ | with_reducible refine Below.drew ?_ | omega)))
        (first | (refine step_app _ rfl (.tmp 47) (.tmp 48) rfl V4.heap.size _ [] rfl ?_ V4.heap.size A1 a1 c1 X rfl HN1.out ?_ ?_ ?_ ?_; (first | exact (empty_own V4 _ (Nat.le_refl _)).drew | exact empty_ii V4 _ | exact empty_iii V4 _); (focus (refine HR41.out.below ?_ (Nat.le_refl _); repeat (first | assumption | exact Below.refl _ _ | with_reducible refine bSet ?_ ?_ _ | with_reducible refine bAlloc ?_ _ | with_reducible refine Below.drew ?_ | omega))); (rw [← HN1.out]; simp; omega); (first | omega | (focus (simp; omega)) | (focus simp)); intro va wa ho hg hat; (first | have hba := app_below ((bAlloc (Below.refl V4.heap.size V4) _).drew) (empty_own V4 _ (Nat.le_refl _)).drew hg | have hba := app_below ((bAlloc (bAlloc (Below.refl V4.heap.size V4) _) _).drew) (empty_ii V4 _) hg | have hba := app_below ((bAlloc (bAlloc (Below.refl V4.heap.size V4) _) _).drew) (empty_iii V4 _) hg); (first | have HZ := keepd (ZA.app (ZA.ii V4) hg hat) | have HZ := keepd (ZA.app (ZA.iii V4) hg hat) | skip); rw [List.nil_append] at ho; have HOa := keepd ho; have lba := hba.size; clear ho hg hat) | (refine step_app _ rfl (.tmp 49) (.tmp 50) rfl V4.heap.size _ X rfl ?_ V4.heap.size A2 a2 c2 Y rfl HN2.out ?_ ?_ ?_ ?_; (first | exact HOa.out | exact HOa.out.alloc _); (focus (refine HR42.out.below ?_ (Nat.le_refl _); repeat (first | assumption | exact Below.refl _ _ | with_reducible refine bSet ?_ ?_ _ | with_reducible refine bAlloc ?_ _ | with_reducible refine Below.drew ?_ | omega))); (rw [← HN1.out, ← HN2.out]; omega); (first | omega | (focus (simp; omega)) | (focus simp)); intro vb wb ho hg hat; (first | have hbb := app_below hba HOa.out hg | have hbb := app_below (bAlloc hba _) (HOa.out.alloc _) hg); (first | have HZb := keepd (ZA.app HZ.out hg hat) | have HZb := keepd (ZA.app (ZA.new HOa.out) hg hat) | skip); have HOb := keepd ho; obtain ⟨Av, cv, hv, hrdv⟩ := HOb.out.rd; rw [HXY.out] at hv; subst hv; have HRv := keepd hrdv; have lbb := hbb.size; clear ho hg hat hrdv) | (go_at_call 16; refine (HPut.out _ Av cv ?_ ?_).mono ?_; (focus (refine HR4.out.at_ ?_; repeat (first | assumption | exact Below.refl _ _ | with_reducible refine bSet ?_ ?_ _ | with_reducible refine bAlloc ?_ _ | with_reducible refine Below.drew ?_ | omega))); (first | exact HRv.out | exact HRv.out.at_ (bAlloc (Below.refl _ _) _)); rintro e w9 ⟨g9, rfl, hg9, hbk9, hb9⟩; have HB9 := keepd hbk9; clear hbk9; have hb9c : Below V4.heap.size V4 w9 := (by refine bCall ?_ hb9; repeat (first | assumption | exact Below.refl _ _ | with_reducible refine bSet ?_ ?_ _ | with_reducible refine bAlloc ?_ _ | with_reducible refine Below.drew ?_ | omega)); (first | have HZc := keepd (HZb.out.1.call hb9 HZb.out.1.lt) | have HZc := keepd ((QR.new wb (.int .i64 0) (.slice none 0 0)).call hb9 (by simp)) | skip); (try have zf := HZc.out.facts); (try have zl := HZc.out.lt); have lb9 := hb9c.size; unfold qv))
      all_goals go_wp2_with fail
      all_goals go_meet
      all_goals first
        | exact ⟨g9, _, rfl, rfl, rfl, QR.new w9 _ _, HB9.out.alloc _, bAlloc hb9c _⟩
        | (refine ⟨g9, _, rfl, rfl, rfl, HZc.out.store _ _, set2_bk HB9.out ?_ _ _, set2_below hb9c ?_ _ _⟩
           · (try have zlt := HZb.out.1.lt)
             (try simp at hg9)
             omega
           · omega)
    case rest =>
      obtain ⟨g5, b5, rfl, rfl, rfl, HQ5, HB5, HW5⟩ := hcut
      have q5 := HQ4.out.call HW5.out x4
      have s5 := bCall s4 HW5.out
      have f5 := q5.facts
      have x5 := q5.lt
      have HG5 := keepd q5
      have HR5 := keepd (HR4.out.at_ HW5.out)
      have HR51 := keepd (HR41.out.at_ HW5.out)
      have HR52 := keepd (HR42.out.at_ HW5.out)
      clear q5 HR4 HR41 HR42 HQ4 K0 K1 HW5 s4 x4 HPut
      rcases HCase.out with ⟨hm, e1, rfl, rfl⟩ | ⟨hm, e1, e2, rfl⟩
      · subst e1
        have HM := keepd hm
        clear hm HCase
        go_wp2_with fail
        with_reducible refine (put_err cap A A1 O a a1 c c1 _ HN.out HM.out HR5.out (by rw [← HN.out]; omega)).mono ?_
        rintro e w6 ⟨g6, rfl, hg6, hbk6, hb6⟩
        unfold qv
        rw [← HN.out]
        go_wp2_with fail
        have hk7 : Bk (w6.alloc (.cells #[.int .i64 cap, .slice (some ⟨g6, 0, none⟩) a a] 24)) g6 O := hbk6.alloc _
        with_reducible refine (put_err cap (some ⟨g6, 0, none⟩) A2 O a a2 a c2 _ HN.out HM.out (hk7.rdN HN.out.symm (by omega)) (by rw [← HN.out]; omega)).mono ?_
        rintro e w8 ⟨g8, rfl, hg8, hbk8, hb8⟩
        unfold qv
        go_wp2_with fail
        with_reducible refine (awake_any _).mono ?_
        rintro e w9 ⟨rfl, hb9⟩
        go_wp2
        go_ret
        exact ⟨rfl, bCall (bAlloc (bCall (bAlloc (bCall s5 hb6) _) hb8) _) hb9⟩
      · obtain ⟨g1, g2⟩ := put_two cap.toNat L X Y
        obtain ⟨I, hI⟩ : ∃ I, fit cap.toNat L.length X.length = I := ⟨_, rfl⟩
        rw [hI] at g1 g2
        obtain ⟨O2, hO2⟩ : ∃ O2, L ++ X.take I = O2 := ⟨_, rfl⟩
        rw [hO2] at g1 g2
        obtain ⟨J, hJ⟩ : ∃ J, fit cap.toNat O2.length Y.length = J := ⟨_, rfl⟩
        rw [hJ] at g1 g2
        rw [g2] at e2
        have hOe : O = O2 ++ Y.take J := e1.trans g1
        have i1 : I ≤ a1 := by rw [HN1.out, ← hI]; unfold fit; omega
        have j1 : J ≤ a2 := by rw [HN2.out, ← hJ]; unfold fit; omega
        have HL2 : Hid (O2.length = a + I) := by show _ = _; rw [← hO2, List.length_append, List.length_take, ← HN.out, ← HN1.out]; omega
        have HLO : Hid (O.length = a + I + J) := by show _ = _; rw [hOe, List.length_append, HL2.out, List.length_take, ← HN2.out]; omega
        have HE1 : Hid (L ++ X.take (min X.length (cap.toNat - L.length)) = O2) := by show _ = _; rw [← hO2, ← hI]; rfl
        have HE2 : Hid (((min X.length (cap.toNat - L.length) : Nat) : Int) = I) := by show _ = _; rw [← hI]; rfl
        have HE3 : Hid (O2 ++ Y.take (min Y.length (cap.toNat - O2.length)) = O) := by show _ = _; rw [hOe, ← hJ]; rfl
        have HE4 : Hid (((min Y.length (cap.toNat - O2.length) : Nat) : Int) = J) := by show _ = _; rw [← hJ]; rfl
        have hcap : a + I + J ≤ cap.toNat := by
          have h1 := hm.2.2
          have h2 : I ≤ cap.toNat - L.length := by rw [← hI]; unfold fit; omega
          have h3 : J ≤ cap.toNat - O2.length := by rw [← hJ]; unfold fit; omega
          rw [HL2.out] at h3
          rw [← HN.out] at h1 h2
          omega
        have hc1 := hm.1
        have hc2 := hm.2.1
        have HM := keepd hm
        have HM2 : Hid (May cap O2.length) := by show May _ _; rw [HL2.out]; unfold May; omega
        have HM3 : Hid (May cap O.length) := by show May _ _; rw [HLO.out]; unfold May; omega
        have hKK : KK = (I : Int) + (J : Int) := by rw [e2]; omega
        clear e1 e2 g1 g2 hI hJ hO2 hOe hm HCase HXY
        subst hKK
        go_wp2_with fail
        with_reducible refine (put_at cap A A1 L X O2 a a1 c c1 I _ HN.out HN1.out HE1.out HE2.out HM.out HR5.out HR51.out (by rw [← HN1.out]; omega)).mono ?_
        rintro e w6 ⟨g6, rfl, hg6, hbk6, hb6⟩
        unfold qv
        rw [HL2.out]
        have s6 := bCall s5 hb6
        have HQ6 := keepd (HQ5.out.call hb6 HQ5.out.lt)
        have HB6 := keepd (HB5.out.below hb6 HB5.out.lt)
        have HX6 := keepd hbk6
        have HR62 := keepd (HR52.out.at_ hb6)
        clear hbk6 hb6 HR5 HR51 HR52 HQ5 HB5 f5 x5 HG5
        go_wp2_with fail
        have hk7 : Bk (w6.alloc (.cells #[.int .i64 cap, .slice (some ⟨g6, 0, none⟩) (a + I) (a + I)] 24)) g6 O2 := HX6.out.alloc _
        with_reducible refine (put_at cap (some ⟨g6, 0, none⟩) A2 O2 Y O (a + I) a2 (a + I) c2 J _ HL2.out.symm HN2.out HE3.out HE4.out HM2.out (hk7.rdN HL2.out (by omega)) (HR62.out.at_ (bAlloc (Below.refl _ _) _)) (by rw [← HN2.out]; omega)).mono ?_
        rintro e w8 ⟨g8, rfl, hg8, hbk8, hb8⟩
        unfold qv
        rw [HLO.out] at HQ6 ⊢
        simp only [World.size_alloc] at hb8 hg8
        have hb8' : Below w6.heap.size w6 w8 := (bAlloc (Below.refl _ _) _).trans (hb8.mono (by omega))
        have s8 := bCall s6 hb8'
        have HQ8 := keepd (HQ6.out.call hb8' HQ6.out.lt)
        have HB8 := keepd (HB6.out.below hb8' HB6.out.lt)
        have HY8 := keepd hbk8
        have f8 := HQ8.out.facts
        have x8 := HQ8.out.lt
        clear hbk8 hb8 hb8' HQ6 HB6 HR62 HX6 hk7
        have HOO : Hid ((O == O) = true) := by show _ = _; simp
        go_wp2_with fail
        with_reducible refine (same15 cap (some ⟨g5, 0, none⟩) (some ⟨g8, 0, none⟩) O O (a + I + J) (a + I + J) (a + I + J) (a + I + J) _ HLO.out.symm HLO.out.symm ((HB8.out.alloc _).rdN HLO.out (by omega)) ((HY8.out.alloc _).rdN HLO.out (by omega))).mono ?_
        rintro e w10 ⟨rfl, hb10⟩
        rw [HOO.out]
        have hb10' : Below w8.heap.size w8 w10 := (bAlloc (Below.refl _ _) _).trans (hb10.mono (by simp))
        have s10 := bCall s8 hb10'
        have HQ10 := keepd (HQ8.out.call hb10' x8)
        have HB10 := keepd (HB8.out.below hb10' HB8.out.lt)
        have f10 := HQ10.out.facts
        have x10 := HQ10.out.lt
        clear hb10 hb10' HQ8 HB8 HY8 f8
        -- the three takes
        obtain ⟨t1, t2⟩ := take_two O x1 x2
        obtain ⟨k1, hk1⟩ : ∃ k1, min x1 O.length = k1 := ⟨_, rfl⟩
        rw [hk1] at t1 t2
        obtain ⟨P, hP⟩ : ∃ P, O.drop k1 = P := ⟨_, rfl⟩
        obtain ⟨D, hD⟩ : ∃ D, O.take k1 = D := ⟨_, rfl⟩
        rw [hP, hD] at t2
        rw [hP] at t1
        obtain ⟨k2, hk2⟩ : ∃ k2, min x2 P.length = k2 := ⟨_, rfl⟩
        rw [hk2] at t1 t2
        obtain ⟨R, hR⟩ : ∃ R, P.drop k2 = R := ⟨_, rfl⟩
        obtain ⟨U, hU⟩ : ∃ U, P.take k2 = U := ⟨_, rfl⟩
        rw [hR] at t1
        rw [hU] at t2
        obtain ⟨k0, hk0⟩ : ∃ k0, min (x1 + x2) O.length = k0 := ⟨_, rfl⟩
        rw [hk0] at t1 t2
        have T1 := keepd t1
        have T2 := keepd t2
        have HPe := keepd hP
        have HDe := keepd hD
        have HRe := keepd hR
        have HUe := keepd hU
        have k1b : k1 ≤ a + I + J := by rw [← HLO.out]; omega
        have HLP : Hid (P.length = a + I + J - k1) := by show _ = _; rw [← hP, List.length_drop, HLO.out]
        have HLD : Hid (D.length = k1) := by show _ = _; rw [← hD, List.length_take, HLO.out]; omega
        have k2b : k2 ≤ a + I + J - k1 := by rw [← HLP.out]; omega
        have HLR : Hid (R.length = a + I + J - k1 - k2) := by show _ = _; rw [← hR, List.length_drop, HLP.out]
        have HLU : Hid (U.length = k2) := by show _ = _; rw [← hU, List.length_take, HLP.out]; omega
        have HLDU : Hid ((D ++ U).length = k1 + k2) := by show _ = _; rw [List.length_append, HLD.out, HLU.out]
        have HK0 : Hid ((k0 : Int) = max (0 : Int) (min ((x1 : Int) + (x2 : Int)) (O.length : Int))) := by show _ = _; rw [← hk0]; omega
        have HK1 : Hid ((k1 : Int) = max (0 : Int) (min (x1 : Int) (O.length : Int))) := by show _ = _; rw [← hk1]; omega
        have HK2 : Hid ((k2 : Int) = max (0 : Int) (min (x2 : Int) (P.length : Int))) := by show _ = _; rw [← hk2]; omega
        have HMP : Hid (May cap P.length) := by show May _ _; rw [HLP.out]; unfold May; omega
        clear t1 t2 hk1 hP hD hk2 hR hU hk0
        go_wp2_with fail
        with_reducible refine (take_at cap (↑x1 + ↑x2) (some ⟨g5, 0, none⟩) O R (D ++ U) (a + I + J) (a + I + J) k0 _ HLO.out.symm HK0.out T1.out T2.out HM3.out (HB10.out.rdN HLO.out (by omega))).mono ?_
        rintro e w11 ⟨g11, o11, rfl, hg11, ho11, hne11, hbk11, hbo11, hb11⟩
        unfold qv
        rw [HLR.out, HLDU.out]
        have s11 := bCall s10 hb11
        have HQ11 := keepd (HQ10.out.call hb11 x10)
        have HB11 := keepd (HB10.out.below hb11 HB10.out.lt)
        have HG11 := keepd hbk11
        have HO11 := keepd hbo11
        have f11 := HQ11.out.facts
        have x11 := HQ11.out.lt
        clear hbk11 hbo11 hb11 HQ10 HB10 f10 x10
        go_wp2_with fail
        generalize hr3 : a + I + J - k1 - k2 = rr at *
        have RR := keepd hr3
        clear hr3
        have r3b : rr ≤ 600 := by have := RR.out; omega
        have hb12 : Below w11.heap.size w11 (w11.alloc (.cells #[.int .i64 cap, .slice (some ⟨g11, 0, none⟩) rr rr] 24)) := bAlloc (Below.refl _ _) _
        have HA12 := keepd (QR.new w11 (.int .i64 cap) (.slice (some ⟨g11, 0, none⟩) rr rr))
        have s12 := bCall s11 hb12
        have HB12 := keepd (HB11.out.below hb12 HB11.out.lt)
        have HG12 := keepd (HG11.out.below hb12 HG11.out.lt)
        have HO12 := keepd (HO11.out.below hb12 HO11.out.lt)
        generalize w11.alloc (.cells #[.int .i64 cap, .slice (some ⟨g11, 0, none⟩) rr rr] 24) = W12 at *
        clear hb12 HB11 HG11 HO11 HQ11 f11 x11
        with_reducible refine (take_at cap x1 (some ⟨g5, 0, none⟩) O P D (a + I + J) (a + I + J) k1 _ HLO.out.symm HK1.out HPe.out HDe.out HM3.out (HB12.out.rdN HLO.out (by omega))).mono ?_
        rintro e w13 ⟨g13, o13, rfl, hg13, ho13, hne13, hbk13, hbo13, hb13⟩
        unfold qv
        rw [HLP.out, HLD.out]
        have s13 := bCall s12 hb13
        have HA13 := keepd (HA12.out.call hb13 HA12.out.lt)
        have HG13 := keepd (HG12.out.below hb13 HG12.out.lt)
        have HO13 := keepd (HO12.out.below hb13 HO12.out.lt)
        have HP13 := keepd hbk13
        have HD13 := keepd hbo13
        clear hbk13 hbo13 hb13 HA12 HG12 HO12 HB12
        go_wp2_with fail
        have hk14 : Bk (w13.alloc (.cells #[.int .i64 cap, .slice (some ⟨g13, 0, none⟩) (a + I + J - k1) (a + I + J - k1)] 24)) g13 P := HP13.out.alloc _
        with_reducible refine (take_at cap x2 (some ⟨g13, 0, none⟩) P R U (a + I + J - k1) (a + I + J - k1) k2 _ HLP.out.symm HK2.out HRe.out HUe.out HMP.out (hk14.rdN HLP.out (by omega))).mono ?_
        rintro e w15 ⟨g15, o15, rfl, hg15, ho15, hne15, hbk15, hbo15, hb15⟩
        unfold qv
        rw [HLR.out, HLU.out]
        have hb15' : Below w13.heap.size w13 w15 := (bAlloc (Below.refl _ _) _).trans (hb15.mono (by simp))
        have s15 := bCall s13 hb15'
        have HA15 := keepd (HA13.out.call hb15' HA13.out.lt)
        have HG15 := keepd (HG13.out.below hb15' HG13.out.lt)
        have HO15 := keepd (HO13.out.below hb15' HO13.out.lt)
        have HD15 := keepd (HD13.out.below hb15' HD13.out.lt)
        have HR15 := keepd hbk15
        have HU15 := keepd hbo15
        have f15 := HA15.out.facts
        have x15 := HA15.out.lt
        have HRR : Hid ((R == R) = true) := by show _ = _; simp
        have HDD : Hid ((D ++ U == D ++ U) = true) := by show _ = _; simp
        clear hbk15 hbo15 hb15 hb15' HA13 HG13 HO13 HD13 HP13 hk14
        go_wp2_with fail
        with_reducible refine (same15 cap (some ⟨g11, 0, none⟩) (some ⟨g15, 0, none⟩) R R rr rr rr rr _ HLR.out.symm HLR.out.symm ((HG15.out.alloc _).rdN HLR.out (by omega)) ((HR15.out.alloc _).rdN HLR.out (by omega))).mono ?_
        rintro e w17 ⟨rfl, hb17⟩
        rw [HRR.out]
        have hb17' : Below w15.heap.size w15 w17 := (bAlloc (Below.refl _ _) _).trans (hb17.mono (by simp))
        have s17 := bCall s15 hb17'
        have HO17 := keepd (HO15.out.below hb17' HO15.out.lt)
        have HD17 := keepd (HD15.out.below hb17' HD15.out.lt)
        have HU17 := keepd (HU15.out.below hb17' HU15.out.lt)
        clear hb17 hb17' HO15 HD15 HU15 HG15 HR15 HA15 f15 x15
        go_wp2_with (first | (at_builtin; refine wpList_appG _ rfl (.tmp 150) (.tmp 151) rfl w17.heap.size _ [] rfl (empty_own w17 _ (Nat.le_refl _)) (w17.heap.size + 1) (some ⟨o13, 0, none⟩) k1 k1 D rfl HLD.out.symm ?_ ?_ ?_ ?_))
        · have := (HD17.out.alloc (.cells #[] 5)).rdN HLD.out (by omega)
          simpa using this
        · rw [HLD.out]
          simp
          omega
        · simp
        · intro va wa ho hg hat
          have hba : Below w17.heap.size w17 wa := app_start0 hg
          have HOa := keepd ho
          have sa := bCall s17 hba
          have HOA := keepd (HO17.out.below hba HO17.out.lt)
          have HUA := keepd (HU17.out.below hba HU17.out.lt)
          have la := hba.size
          clear ho hg hat
          go_wp2_with (first | (at_builtin; refine wpList_appG _ rfl (.tmp 152) (.tmp 153) rfl w17.heap.size _ D rfl HOa.out wa.heap.size (some ⟨o15, 0, none⟩) k2 k2 U rfl HLU.out.symm (HUA.out.rdN HLU.out (by omega)) ?_ ?_ ?_))
          · rw [HLD.out, HLU.out]
            omega
          · exact la
          · intro vb wb ho hg hat
            have hbb : Below w17.heap.size w17 wb := app_below hba HOa.out hg
            have sb := bCall s17 hbb
            have HOB := keepd (HO17.out.below hbb HO17.out.lt)
            obtain ⟨Av, cv, hv, hrdv⟩ := Own.rd ho
            rw [HLDU.out] at hv
            subst hv
            have HRv := keepd hrdv
            clear ho hg hat hrdv
            go_wp2_with fail
            with_reducible refine (octets_at (some ⟨o11, 0, none⟩) Av (D ++ U) (D ++ U) (k1 + k2) (k1 + k2) (k1 + k2) cv _ _ HLDU.out.symm HLDU.out.symm (HOB.out.rdN HLDU.out (by omega)) HRv.out).mono ?_
            rintro e w20 ⟨rfl, rfl⟩
            rw [HDD.out]
            go_wp2_with fail
            with_reducible refine (awake_any _).mono ?_
            rintro e w21 ⟨rfl, hb21⟩
            go_wp2
            go_ret
            exact ⟨rfl, bCall sb hb21⟩
end Go.Proofs.Ytifimgachkecpaa
