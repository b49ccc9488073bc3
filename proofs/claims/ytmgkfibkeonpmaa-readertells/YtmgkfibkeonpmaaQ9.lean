/-
  Contracts over the document's answers for layer 4: One. No conditions beyond those each theorem states.
-/
import Derived.Test.YtmgkfibkeonpmaaQ8
namespace Go.Proofs.Ytmgkfibkeonpmaa
open Go.RowKit

/-- An answer's octets lie where those that came in lie, or in new memory. -/
def FarG (w : World) (A : Option Addr) (l : List UInt8) (Q : Itm) : Prop := Q.l ≠ [] → ∀ ad, Q.A = some ad → (l ≠ [] ∧ A = some ad) ∨ w.heap.size ≤ ad.block

def GotOneF (w : World) (A : Option Addr) (l : List UInt8) (x : Abs × List Abs) (e : Ending) (w' : World) : Prop :=
  ∃ (Q : Itm) (B : Option Addr) (d : Nat) (L : List Itm), e = .returned (.tuple #[.agg #[.int .i64 Q.k, .int .i64 Q.a, .int .i64 Q.b, .slice Q.A Q.l.length Q.c], .slice B L.length d]) ∧
    Q.abs = x.1 ∧ L.map Itm.abs = x.2 ∧ Rd w' w'.heap.size Q.A Q.l Q.c ∧ RdI w' B L d ∧ Below w.heap.size w w' ∧ (∀ g off, B = some ⟨g, off, none⟩ → w.heap.size ≤ g) ∧ FarG w A l Q ∧ ∀ y ∈ L, FarG w A l y

theorem GotOne.far {w : World} {x : Abs × List Abs} {e : Ending} {w' : World} (h : GotOne w x e w') (A : Option Addr) (l : List UInt8) (h1 : x.1.l = []) (h2 : ∀ y ∈ x.2, y.l = []) : GotOneF w A l x e w' := by
  obtain ⟨Q, B, d, L, e1, e2, e3, e4, e5, e6, e7⟩ := h
  refine ⟨Q, B, d, L, e1, e2, e3, e4, e5, e6, e7, fun hl => absurd ?_ hl, fun y hy hl => absurd ?_ hl⟩
  · rw [← e2] at h1
    exact h1
  · have : y.abs ∈ x.2 := by rw [← e3]; exact List.mem_map_of_mem hy
    exact h2 _ this

theorem sData_nil (u : UInt8) : (sData u).1.l = [] ∧ ∀ y ∈ (sData u).2, y.l = [] := by
  unfold sData
  split
  · exact ⟨rfl, by simp⟩
  · split
    · exact ⟨rfl, by simp [dat]⟩
    · exact ⟨rfl, by simp [dat]⟩
theorem sCmd_nil (u : UInt8) : (sCmd u).1.l = [] ∧ ∀ y ∈ (sCmd u).2, y.l = [] := by
  unfold sCmd
  split
  · exact ⟨rfl, by simp [dat]⟩
  split
  · exact ⟨rfl, by simp⟩
  split
  · exact ⟨rfl, by simp⟩
  split
  · exact ⟨rfl, by simp⟩
  · exact ⟨rfl, by simp⟩

theorem pass_endF {w V w2 : World} {A : Option Addr} {l : List UInt8} {Q : Itm} {B : Option Addr} {d : Nat} {L : List Itm} {x : Abs × List Abs} (h0 : Below w.heap.size w V) (hp : SR 24 V (w.heap.size + 1) [.int .i64 0, .int .i64 0, .int .i64 0, .slice none 0 0])
    (h1 : Q.abs = x.1) (h2 : L.map Itm.abs = x.2) (h3 : Rd w2 w2.heap.size Q.A Q.l Q.c) (h4 : RdI w2 B L d) (h5 : Below V.heap.size V w2) (h6 : ∀ g off, B = some ⟨g, off, none⟩ → V.heap.size ≤ g) (h7 : ∀ ad, Q.A = some ad → V.heap.size ≤ ad.block) (h8 : ∀ y ∈ L, FarG w A l y) :
    GotOneF w A l x (.returned (.tuple #[.agg #[.int .i64 Q.k, .int .i64 Q.a, .int .i64 Q.b, .slice Q.A Q.l.length Q.c], .slice B L.length d])) (set4 w2 (w.heap.size + 1) (.int .i64 Q.k) (.int .i64 Q.a) (.int .i64 Q.b) (.slice Q.A Q.l.length Q.c)) := by
  have hlt := hp.lt
  obtain ⟨e1, e2, e3⟩ := one_end (v := zeroI) (k := Q.k) (a := Q.a) (b := Q.b) (n := Q.l.length) (bCall h0 h5) (hp.call h5 hlt) (Nat.le_succ _) h3 h4 (fun g off e => by have := h6 g off e; omega)
  exact ⟨Q, B, d, L, rfl, h1, h2, e1, e2, e3, fun g off e => by have := h6 g off e; have := h0.size; omega, fun _ ad had => .inr (by have := h7 ad had; have := h0.size; omega), h8⟩

theorem one_endAF {w w2 : World} {p : Nat} {X : Itm} {v : Itm} (hp : SR 24 w2 p [.int .i64 v.k, .int .i64 v.a, .int .i64 v.b, .slice v.A v.l.length v.c]) (hb : Below w.heap.size w w2) (hw : w.heap.size ≤ p) (hX : Rd w2 w2.heap.size X.A X.l X.c) :
    GotOneF w X.A X.l (inn 0, [X.abs]) (.returned (.tuple #[.agg #[.int .i64 0, .int .i64 0, .int .i64 0, .slice none 0 0], .slice (some ⟨w2.heap.size, 0, none⟩) 1 1]))
      ((set4 w2 p (.int .i64 0) (.int .i64 0) (.int .i64 0) (.slice none 0 0)).alloc (.cells #[.int .i64 X.k, .int .i64 X.a, .int .i64 X.b, .slice X.A X.l.length X.c] 41)) := by
  have hX2 : Rd (set4 w2 p (.int .i64 0) (.int .i64 0) (.int .i64 0) (.slice none 0 0)) (set4 w2 p (.int .i64 0) (.int .i64 0) (.int .i64 0) (.slice none 0 0)).heap.size X.A X.l X.c :=
    hX.of_blockN (by rw [set4_size]; exact Nat.le_refl _) fun hl ad had => set4_heap _ _ _ _ _ _ (hX.not_rd' hl hp ad had)
  have h1 := one_rdI _ X hX2
  rw [set4_size] at h1
  exact ⟨⟨0, 0, 0, none, [], 0⟩, _, 1, [X], rfl, rfl, rfl, Rd.nil _ _, h1, bAlloc (set4_below hb hw) _, fun g off e => by injection e with e; injection e with e; have := hb.size; omega, fun hl => absurd rfl hl, fun y hy hl ad had => by
    have : y = X := by simpa using hy
    subst this
    exact .inl ⟨hl, had⟩⟩

theorem one_endBF {w w1 w2 : World} {p : Nat} {X : Itm} {v : Itm} (hp : SR 24 w2 p [.int .i64 v.k, .int .i64 v.a, .int .i64 v.b, .slice v.A v.l.length v.c]) (hb : Below w.heap.size w w2) (hw : w.heap.size ≤ p)
    (hb2 : Below (w1.alloc (.cells #[.int .i64 X.k, .int .i64 X.a, .int .i64 X.b, .slice X.A X.l.length X.c] 41)).drew.heap.size (w1.alloc (.cells #[.int .i64 X.k, .int .i64 X.a, .int .i64 X.b, .slice X.A X.l.length X.c] 41)).drew w2) (hlt : p < w1.heap.size) (hX : Rd w1 w1.heap.size X.A X.l X.c) :
    GotOneF w X.A X.l (inn 0, [X.abs]) (.returned (.tuple #[.agg #[.int .i64 0, .int .i64 0, .int .i64 0, .slice none 0 0], .slice (some ⟨w1.heap.size, 0, none⟩) 1 1])) (set4 w2 p (.int .i64 0) (.int .i64 0) (.int .i64 0) (.slice none 0 0)) := by
  have h1 : RdI (w1.alloc (.cells #[.int .i64 X.k, .int .i64 X.a, .int .i64 X.b, .slice X.A X.l.length X.c] 41)).drew (some ⟨w1.heap.size, 0, none⟩) [X] 1 := one_rdI w1 X hX
  have h2 := h1.at_ hb2
  obtain ⟨_, e2, e3⟩ := one_end (k := 0) (a := 0) (b := 0) (n := 0) hb hp hw (Rd.nil w2 _) h2 (fun g off e => by injection e with e; injection e with e; omega)
  exact ⟨⟨0, 0, 0, none, [], 0⟩, _, 1, [X], rfl, rfl, rfl, Rd.nil _ _, e2, e3, fun g off e => by injection e with e; injection e with e; omega, fun hl => absurd rfl hl, fun y hy hl ad had => by
    have : y = X := by simpa using hy
    subst this
    exact .inl ⟨hl, had⟩⟩

set_option maxHeartbeats 1000000 in
theorem done_5a (a b : Int) (A : Option Addr) (l : List UInt8) (n c : Nat) (hn : n = l.length) (w : World) (hr : Rd w w.heap.size A l c) :
    Calls Try.prog 22 #[.agg #[.int .i64 5, .int .i64 a, .int .i64 b, .slice A n c], .int .u8 255] w (GotOneF w A l (⟨6, 0, b, l⟩, [])) := by
  have B0 : ∀ o o', Below w.heap.size w ((w.alloc o).alloc o') := fun o o' => bAlloc (bAlloc (Below.refl _ _) _) _
  have HR := keepd (fun o o' => hr.at_ (B0 o o'))
  have HN := keepd hn
  clear hr hn
  go_enter Try.func22, Try.ntmps22
  go_wp2
  refine bodyPost_ret (v := .tuple #[.agg #[.int .i64 6, .int .i64 0, .int .i64 b, .slice A n c], .slice none 0 0]) (by simp [results, Try.results22, go_sem]) rfl ?_
  exact ⟨⟨6, 0, b, A, l, c⟩, none, 0, [], by rw [HN.out]; rfl, rfl, rfl, HR.out _ _, RdI.nil _, B0 _ _, (fun g off e => by cases e), (fun hl ad h => .inl ⟨hl, h⟩), (fun y hy => by simp at hy)⟩

set_option maxHeartbeats 1000000 in
theorem done_5b (a b : Int) (A : Option Addr) (l : List UInt8) (n c : Nat) (hn : n = l.length) (hl : n ≤ 600) (u : UInt8) (z : Int) (hz : z = (u.toNat : Int)) (h : u ≠ 255) (w : World) (hr : Rd w w.heap.size A l c) :
    Calls Try.prog 22 #[.agg #[.int .i64 5, .int .i64 a, .int .i64 b, .slice A n c], .int .u8 z] w (GotOneF w A l (keptL b l u, [])) := by
  have g1 := u8_isnt u 255 z 255 hz rfl h
  obtain ⟨_, F1, F2, _⟩ := oneV_facts w 5 a b A n c
  have H1 := keepd F1
  have H2 := keepd F2
  have HK := keepd (dkept_any 5 a b A l n c hn hl u _ hz _ (hr.at_ F2))
  unfold oneV at HK
  clear hz F1 F2 hr hn
  go_enter Try.func22, Try.ntmps22
  go_wp2_with fail
  with_reducible refine HK.out.mono ?_
  rintro e w2 ⟨Q, rfl, h1, h3, h5, h7⟩
  have q := H1.out.call h5 H1.out.lt
  obtain ⟨⟨c0, c1, c2, c3⟩, f0, f1, f2, f3⟩ := q.facts4
  have HE := keepd (pass_endF (l := l) (A := A) (Q := Q) (L := []) (x := (keptL b l u, [])) H2.out H1.out h1 rfl h3 (RdI.nil w2) h5 (fun g off e => by cases e) h7 (fun y hy => by simp at hy))
  clear h1 h3 h5 h7 q
  go_wp2
  refine bodyPost_ret (v := .tuple #[.agg #[.int .i64 Q.k, .int .i64 Q.a, .int .i64 Q.b, .slice Q.A Q.l.length Q.c], .slice none 0 0]) (by simp [results, Try.results22, go_sem, c0, c1, c2, c3]) rfl HE.out

set_option maxHeartbeats 1000000 in
theorem done_6a (a b : Int) (A : Option Addr) (l : List UInt8) (n c : Nat) (hn : n = l.length) (hl : n ≤ 600) (u : UInt8) (z : Int) (hz : z = (u.toNat : Int)) (h : u = 255) (w : World) (hr : Rd w w.heap.size A l c) :
    Calls Try.prog 22 #[.agg #[.int .i64 6, .int .i64 a, .int .i64 b, .slice A n c], .int .u8 z] w (GotOneF w A l (keptL b l u, [])) := by
  obtain rfl := u8_is u 255 z 255 hz rfl h
  obtain ⟨_, F1, F2, _⟩ := oneV_facts w 6 a b A n c
  have H1 := keepd F1
  have H2 := keepd F2
  have HK := keepd (dkept_any 6 a b A l n c hn hl u _ hz _ (hr.at_ F2))
  unfold oneV at HK
  clear hz F1 F2 hr hn
  go_enter Try.func22, Try.ntmps22
  go_wp2_with fail
  with_reducible refine HK.out.mono ?_
  rintro e w2 ⟨Q, rfl, h1, h3, h5, h7⟩
  have q := H1.out.call h5 H1.out.lt
  obtain ⟨⟨c0, c1, c2, c3⟩, f0, f1, f2, f3⟩ := q.facts4
  have HE := keepd (pass_endF (l := l) (A := A) (Q := Q) (L := []) (x := (keptL b l u, [])) H2.out H1.out h1 rfl h3 (RdI.nil w2) h5 (fun g off e => by cases e) h7 (fun y hy => by simp at hy))
  clear h1 h3 h5 h7 q
  go_wp2
  refine bodyPost_ret (v := .tuple #[.agg #[.int .i64 Q.k, .int .i64 Q.a, .int .i64 Q.b, .slice Q.A Q.l.length Q.c], .slice none 0 0]) (by simp [results, Try.results22, go_sem, c0, c1, c2, c3]) rfl HE.out

set_option maxRecDepth 100000 in
set_option maxHeartbeats 2000000 in
theorem done_6b (a b : Int) (A : Option Addr) (l : List UInt8) (n c : Nat) (hn : n = l.length) (u : UInt8) (z : Int) (hz : z = (u.toNat : Int)) (h : u = 240) (w : World) (hr : Rd w w.heap.size A l c) :
    Calls Try.prog 22 #[.agg #[.int .i64 6, .int .i64 a, .int .i64 b, .slice A n c], .int .u8 z] w (GotOneF w A l (inn 0, [⟨4, b, 0, l⟩])) := by
  subst hn
  obtain ⟨z0, z1⟩ := u8_rng u z hz
  obtain rfl := u8_is u 240 z 240 hz rfl h
  have HI := keepd in_any
  obtain ⟨F0, F1, F2, F3⟩ := oneV_facts w 6 a b A l.length c
  have HR := keepd (hr.at_ F2)
  have HQ := keepd F1
  have HQX := keepd F0
  have HB := keepd F2
  obtain ⟨⟨c0, c1, c2, c3⟩, f0, f1, f2, f3⟩ := F1.facts4
  obtain ⟨⟨x0, x1, x2, x3⟩, _⟩ := F0.facts4
  have y0 := F1.lt
  have K1 := keepd x1
  have K2 := keepd x2
  have K3 := keepd x3
  have xx : w.heap.size + 1 ≤ (oneV w 6 a b A l.length c).heap.size := by omega
  clear hz F0 F1 F2 F3 hr x0 x1 x2 x3
  go_enter Try.func22, Try.ntmps22
  go_wp2_with fail
  change Code.wp Try.prog _ _ _ (oneV w 6 a b A l.length c)
  generalize oneV w 6 a b A l.length c = w1 at *
  go_region_held3 (fun W => W.cell? ⟨w.heap.size, 1, none⟩ = some (.int .i64 a) ∧ W.cell? ⟨w.heap.size, 2, none⟩ = some (.int .i64 b) ∧ W.cell? ⟨w.heap.size, 3, none⟩ = some (.slice A l.length c) ∧ Below (w.heap.size + 1) w1 W)
    ((refine sK3 K1.out K2.out K3.out ?_; repeat (first | assumption | exact Below.refl _ _ | with_reducible refine Below.setCell ?_ (Nat.le_refl (w.heap.size + 1)) _ | with_reducible refine bAl xx ?_ _ | with_reducible refine Below.drew ?_)))
    (first | (go_at_call 39; (with_reducible refine (HI.out 0 _).mono ?_); rintro e w2 ⟨rfl, hb2⟩; have hB2 : Below w1.heap.size w1 w2 := (by first | exact noDrew hb2 | exact upD hb2); have hbs := hB2.mono xx; obtain ⟨⟨p0, p1, p2, p3⟩, r0, r1, r2, r3⟩ := (HQ.out.call hB2 HQ.out.lt).facts4; have t0 := Nat.lt_of_lt_of_le y0 hB2.size))
  all_goals
    go_wp2_with fail
    first
      | (refine bodyPost_ret (v := .tuple #[.agg #[.int .i64 0, .int .i64 0, .int .i64 0, .slice none 0 0], .slice (some ⟨w2.heap.size, 0, none⟩) 1 1]) ?_ rfl ?_
         · (simp [results, Try.results22, go_sem, p0, p1, p2, p3, t0]; done)
         exact one_endAF (X := ⟨4, b, 0, A, l, c⟩) (v := zeroI) (HQ.out.call hB2 HQ.out.lt) (bCall HB.out hB2) (Nat.le_succ _) (HR.out.at_ hB2))
      | (refine bodyPost_ret (v := .tuple #[.agg #[.int .i64 0, .int .i64 0, .int .i64 0, .slice none 0 0], .slice (some ⟨w1.heap.size, 0, none⟩) 1 1]) ?_ rfl ?_
         · (simp [results, Try.results22, go_sem, p0, p1, p2, p3]; done)
         exact one_endBF (X := ⟨4, b, 0, A, l, c⟩) (v := zeroI) (HQ.out.call hB2 HQ.out.lt) (bCall HB.out hB2) (Nat.le_succ _) hb2 y0 HR.out)

/-- One. -/
theorem done_any (k a b : Int) (A : Option Addr) (l : List UInt8) (n c : Nat) (hn : n = l.length) (hm : mayR ⟨k, a, b, l⟩ = true) (u : UInt8) (z : Int) (hz : z = (u.toNat : Int)) (w : World) (hr : Rd w w.heap.size A l c) :
    Calls Try.prog 22 #[.agg #[.int .i64 k, .int .i64 a, .int .i64 b, .slice A n c], .int .u8 z] w (GotOneF w A l (step ⟨k, a, b, l⟩ u)) := by
  have hl := mayR_len hm
  simp only at hl
  have hk9 := mayR_range hm
  rcases nine hk9 with hk | hk | hk | hk | hk | hk | hk | hk | hk <;> simp only at hk <;> subst hk
  · rw [step_0 rfl]
    exact (done_0 a b A n c u z hz w).mono fun _ _ h => h.far A l (sData_nil u).1 (sData_nil u).2
  · rw [step_1 rfl]
    by_cases h1 : u = 10
    · rw [if_pos (.inl h1)]
      exact (done_1a a b A n c u z hz h1 w).mono fun _ _ h => h.far A l rfl (by simp)
    by_cases h2 : u = 0
    · rw [if_pos (.inr h2)]
      exact (done_1b a b A n c u z hz h2 w).mono fun _ _ h => h.far A l rfl (by simp)
    rw [if_neg (by simp [h1, h2])]
    exact (done_1c a b A n c u z hz h1 h2 w).mono fun _ _ h => h.far A l (sData_nil u).1 (sData_nil u).2
  · rw [step_2 rfl]
    exact (done_2 a b A n c u z hz w).mono fun _ _ h => h.far A l (sCmd_nil u).1 (sCmd_nil u).2
  · rw [step_3 rfl, ← hz]
    exact (done_3 a b A l n c hn u z hz w hr).mono fun _ _ h => h.far A l rfl (by simp)
  · rw [step_4 rfl, ← hz]
    exact (done_4 a b A n c u z hz w).mono fun _ _ h => h.far A l rfl (by simp)
  · obtain ⟨ha, _, _⟩ := mayR_sub (.inl rfl) hm
    simp only at ha
    subst ha
    rw [step_5 rfl]
    by_cases h1 : u = 255
    · rw [if_pos h1]
      obtain rfl := u8_is u 255 z 255 hz rfl h1
      exact done_5a 0 b A l n c hn w hr
    rw [if_neg h1]
    exact done_5b 0 b A l n c hn (by omega) u z hz h1 w hr
  · obtain ⟨ha, _, _⟩ := mayR_sub (.inr rfl) hm
    simp only at ha
    subst ha
    rw [step_6 rfl]
    by_cases h1 : u = 255
    · rw [if_pos h1]
      exact done_6a 0 b A l n c hn (by omega) u z hz h1 w hr
    rw [if_neg h1]
    by_cases h2 : u = 240
    · rw [if_pos h2]
      exact done_6b 0 b A l n c hn u z hz h2 w hr
    rw [if_neg h2]
    exact (done_6c 0 b A n c u z hz h1 h2 w).mono fun _ _ h => h.far A l (sCmd_nil u).1 (sCmd_nil u).2
  · rw [step_7 rfl]
    by_cases h1 : u = 255
    · rw [if_pos h1]
      exact (done_7a a b A n c u z hz h1 w).mono fun _ _ h => h.far A l rfl (by simp)
    rw [if_neg h1, (mayR_plain (by show (7 : Int) ≠ 3; decide) (by show (7 : Int) ≠ 5; decide) (by show (7 : Int) ≠ 6; decide) hm).1]
    exact (done_7b a b A n c u z hz h1 w).mono fun _ _ h => h.far A l rfl (by simp)
  · rw [step_8 rfl]
    by_cases h1 : u = 255
    · rw [if_pos h1]
      exact (done_8a a b A n c u z hz h1 w).mono fun _ _ h => h.far A l rfl (by simp)
    rw [if_neg h1]
    by_cases h2 : u = 240
    · rw [if_pos h2]
      exact (done_8b a b A n c u z hz h2 w).mono fun _ _ h => h.far A l rfl (by simp)
    rw [if_neg h2]
    exact (done_8c a b A n c u z hz h1 h2 w).mono fun _ _ h => h.far A l (sCmd_nil u).1 (sCmd_nil u).2

end Go.Proofs.Ytmgkfibkeonpmaa
