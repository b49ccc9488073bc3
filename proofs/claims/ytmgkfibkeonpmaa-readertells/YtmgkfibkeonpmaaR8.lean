/-
  A contract over layer 4's Feed. No conditions beyond those the theorem states.
-/
import Derived.Test.YtmgkfibkeonpmaaR7
namespace Go.Proofs.Ytmgkfibkeonpmaa
open Go.RowKit

/-- What Feed answers, on lists. -/
def feedE (r : Abs) (l : List UInt8) : Abs × List Abs := if mayR r then feed r l else (r, [])
def errF (r : Abs) : Int := if mayR r then 0 else 1
theorem feedE_yes {r : Abs} (h : mayR r = true) (l : List UInt8) : feedE r l = feed r l := if_pos h
theorem feedE_no {r : Abs} (h : mayR r = false) (l : List UInt8) : feedE r l = (r, []) := by unfold feedE; rw [h]; rfl
theorem errF_yes {r : Abs} (h : mayR r = true) : errF r = 0 := if_pos h
theorem errF_no {r : Abs} (h : mayR r = false) : errF r = 1 := by unfold errF; rw [h]; rfl

def GotFeed (w : World) (r : Abs) (l : List UInt8) (e : Ending) (w' : World) : Prop :=
  ∃ (Q : Itm) (B : Option Addr) (d : Nat) (L : List Itm), e = .returned (.tuple #[.agg #[.int .i64 Q.k, .int .i64 Q.a, .int .i64 Q.b, .slice Q.A Q.l.length Q.c], .slice B L.length d, .int .i64 (errF r)]) ∧
    Q.abs = (feedE r l).1 ∧ L.map Itm.abs = (feedE r l).2 ∧ Rd w' w'.heap.size Q.A Q.l Q.c ∧ RdI w' B L d ∧ Below w.heap.size w w'

theorem Own.mono {w : World} {base base' : Nat} {v : Value} {l : List UInt8} (h : Own w base v l) (hb : base' ≤ base) : Own w base' v l := by
  refine ⟨h.1, ?_⟩
  rcases h.2 with hn | ⟨g, cap, cur, rfl, hbb, rest⟩
  · exact .inl hn
  · exact .inr ⟨g, cap, cur, rfl, Nat.le_trans hb hbb, rest⟩

theorem SR.facts4 {t : TypeId} {w : World} {p : Nat} {u0 u1 u2 u3 : Value} (h : SR t w p [u0, u1, u2, u3]) :
    (w.cell? ⟨p, 0, none⟩ = some u0 ∧ w.cell? ⟨p, 1, none⟩ = some u1 ∧ w.cell? ⟨p, 2, none⟩ = some u2 ∧ w.cell? ⟨p, 3, none⟩ = some u3) ∧
    (w.frozen? ⟨p, 0, none⟩ = false ∧ w.frozen? ⟨p, 1, none⟩ = false ∧ w.frozen? ⟨p, 2, none⟩ = false ∧ w.frozen? ⟨p, 3, none⟩ = false) :=
  ⟨⟨h.cell 0, h.cell 1, h.cell 2, h.cell 3⟩, h.frozen 0, h.frozen 1, h.frozen 2, h.frozen 3⟩

/-- Four cells of the block p, stored. -/
def set4 (w : World) (p : Nat) (u0 u1 u2 u3 : Value) : World := (((w.setCell ⟨p, 0, none⟩ u0).setCell ⟨p, 1, none⟩ u1).setCell ⟨p, 2, none⟩ u2).setCell ⟨p, 3, none⟩ u3
theorem set4_heap (w : World) (p : Nat) (u0 u1 u2 u3 : Value) {k : Nat} (hk : k ≠ p) : (set4 w p u0 u1 u2 u3).heap[k]? = w.heap[k]? := by
  unfold set4
  rw [Below.heap_setCell _ ⟨p, 3, none⟩ _ k hk, Below.heap_setCell _ ⟨p, 2, none⟩ _ k hk, Below.heap_setCell _ ⟨p, 1, none⟩ _ k hk, Below.heap_setCell _ ⟨p, 0, none⟩ _ k hk]
theorem set4_below {B : Nat} {a w : World} {p : Nat} {u0 u1 u2 u3 : Value} (h : Below B a w) (hp : B ≤ p) : Below B a (set4 w p u0 u1 u2 u3) :=
  (((h.setCell (p := ⟨p, 0, none⟩) hp _).setCell (p := ⟨p, 1, none⟩) hp _).setCell (p := ⟨p, 2, none⟩) hp _).setCell (p := ⟨p, 3, none⟩) hp _
theorem set4_size (w : World) (p : Nat) (u0 u1 u2 u3 : Value) : (set4 w p u0 u1 u2 u3).heap.size = w.heap.size := by simp [set4, World.setCell]

theorem Rd.of_blockN {w w' : World} {A : Option Addr} {l : List UInt8} {c : Nat} (h : Rd w w.heap.size A l c) (hs : w.heap.size ≤ w'.heap.size) (hk : l ≠ [] → ∀ ad, A = some ad → w'.heap[ad.block]? = w.heap[ad.block]?) : Rd w' w'.heap.size A l c := by
  by_cases hl : l = []
  · subst hl
    exact ⟨h.1, h.2.1, fun e => absurd rfl e, fun ad had j u hu => by simp at hu⟩
  · exact h.of_block hs (hk hl)

/-- Octets do not lie in a reader's block. -/
theorem Rd.not_reader {w : World} {A : Option Addr} {l : List UInt8} {c b : Nat} (h : Rd w w.heap.size A l c) (hl : l ≠ []) (hb : w.heap[b]? = some (.cells #[.int .i64 0, .int .i64 0, .int .i64 0, .slice none 0 0] 24 (0, 0))) :
    ∀ ad, A = some ad → ad.block ≠ b := by
  intro ad had e
  have h0 : 0 < l.length := List.length_pos_iff.2 hl
  have := h.2.2.2 ad had 0 l[0] (List.getElem?_eq_getElem h0)
  have ea : ad.add 0 = ad := by unfold Addr.add; simp
  rw [ea] at this
  unfold World.cell? at this
  rw [e, hb] at this
  simp only at this
  split at this
  · cases this
  · match hof : ad.off with
    | 0 => rw [hof] at this; simp [bv] at this
    | 1 => rw [hof] at this; simp [bv] at this
    | 2 => rw [hof] at this; simp [bv] at this
    | 3 => rw [hof] at this; simp [bv] at this
    | n + 4 => rw [hof] at this; simp at this

/-- How Feed ends. -/
theorem feed_end {w wr : World} {p : Nat} {K : List (Nat × Obj)} {r : Abs} {L : List Itm} {A : Option Addr} {c : Nat} {B : Option Addr} {d : Nat} (h : WJ w p K r L wr A c (.slice B L.length d))
    (hm : (w.heap.size + 1, Obj.cells #[.int .i64 0, .int .i64 0, .int .i64 0, .slice none 0 0] 24 (0, 0)) ∈ K) (u0 u1 u2 u3 : Value) :
    Rd (set4 wr (w.heap.size + 1) u0 u1 u2 u3) (set4 wr (w.heap.size + 1) u0 u1 u2 u3).heap.size A r.l c ∧ RdI (set4 wr (w.heap.size + 1) u0 u1 u2 u3) B L d ∧ Below w.heap.size w (set4 wr (w.heap.size + 1) u0 u1 u2 u3) := by
  obtain ⟨k1, k2, k3, k4⟩ := h.kept _ _ hm
  have hs : wr.heap.size ≤ (set4 wr (w.heap.size + 1) u0 u1 u2 u3).heap.size := by rw [set4_size]; exact Nat.le_refl _
  refine ⟨h.own.rdOf.of_block hs fun ad had => set4_heap _ _ _ _ _ _ (fun e => k3 (by rw [had, ← e]; rfl)), ?_, set4_below h.below (Nat.le_succ _)⟩
  have ho := h.owns.of_block (w' := set4 wr (w.heap.size + 1) u0 u1 u2 u3) fun g hg => set4_heap _ _ _ _ _ _ (fun e => k4 (by rw [hg, e]))
  obtain ⟨B', d', e, hr⟩ := ho.rd fun x hx => (h.far x hx).1.of_blockN hs fun hl ad had => set4_heap _ _ _ _ _ _ ((h.far x hx).1.not_reader hl k1 ad had)
  injection e with e1 _ e3
  subst e1 e3
  exact hr

/-- How Feed's loop begins. -/
theorem wj_start {w w4 w6 : World} {R : Itm} {A' : Option Addr} {c' : Nat} (hB : Below w.heap.size w w4) (hO : Own w4 w.heap.size (.slice A' R.l.length c') R.l) (hG : ∀ g, (Value.slice A' R.l.length c').ownBlock = some g → w.heap.size + 2 ≤ g ∧ g < w4.heap.size)
    (hQ : SR 24 w4 (w.heap.size + 1) [.int .i64 0, .int .i64 0, .int .i64 0, .slice none 0 0])
    (hb : Below (w4.alloc (.cells #[.int .i64 R.k, .int .i64 R.a, .int .i64 R.b, .slice A' R.l.length c', .slice none 0 0] 48)).heap.size (w4.alloc (.cells #[.int .i64 R.k, .int .i64 R.a, .int .i64 R.b, .slice A' R.l.length c', .slice none 0 0] 48)) w6) :
    WJ w w4.heap.size [(w.heap.size + 1, .cells #[.int .i64 0, .int .i64 0, .int .i64 0, .slice none 0 0] 24 (0, 0)), (w6.heap.size, .cells waysA 50 (0, 0))] R.abs [] (w6.alloc (.cells waysA 50)) A' c' (.slice none 0 0) := by
  have hb2 : Below w4.heap.size w4 w6 := upA hb
  have hb3 : Below w4.heap.size w4 (w6.alloc (.cells waysA 50)) := bAlloc hb2 _
  have hs2 := hb2.size
  have hs1 := hB.size
  have hs3 := hb.size
  rw [World.size_alloc] at hs3
  exact {
    sr := ((SR.new 48 w4 [.int .i64 R.k, .int .i64 R.a, .int .i64 R.b, .slice A' R.l.length c', .slice none 0 0]).call hb (by simp)).alloc _
    own := hO.below hb3
    owns := OwnI.nil _ _
    lp := fun e => by have := hG _ e; omega
    ip := by simp [Value.ownBlock]
    li := fun g hg => by simp [Value.ownBlock] at hg
    far := fun x hx => by simp at hx
    kept := fun k o hk => by
      simp only [List.mem_cons, List.not_mem_nil, or_false, Prod.mk.injEq] at hk
      rcases hk with ⟨rfl, rfl⟩ | ⟨rfl, rfl⟩
      · have hlt := hQ.lt
        exact ⟨(hb3.block _ hlt).trans hQ, by omega, fun e => (by have := (hG _ e).1; omega), by simp [Value.ownBlock]⟩
      · exact ⟨heap_alloc_new w6 _, by omega, fun e => (by have := (hG _ e).2; omega), by simp [Value.ownBlock]⟩
    below := bCall hB hb3
    base := hs1 }

set_option maxRecDepth 100000 in
set_option maxHeartbeats 4000000 in
theorem feed_any (R : Itm) (A : Option Addr) (l : List UInt8) (m n c : Nat) (w : World) (hm : m = R.l.length) (hn : n = l.length) (hl : n ≤ 60000) (hml : m ≤ 60000) (hR : Rd w w.heap.size R.A R.l R.c) (hr : Rd w w.heap.size A l c) :
    Calls Try.prog 8 #[.agg #[.int .i64 R.k, .int .i64 R.a, .int .i64 R.b, .slice R.A m R.c], .slice A n c] w (GotFeed w R.abs l) := by
  subst hm
  have HR := keepd hR
  have HA := keepd hr
  have HN := keepd hn
  have b1 : n ≤ c := by have := hr.1; omega
  have b2 : c ≤ maxLen := hr.2.1
  unfold maxLen at b2
  have B0 : ∀ o o', Below w.heap.size w ((w.alloc o).alloc o') := fun o o' => bAlloc (bAlloc (Below.refl _ _) o) o'
  clear hR hr hn
  go_enter Try.func8, Try.ntmps8
  go_wp2_with fail
  with_reducible refine (clone_any R.A R.l R.l.length R.c _ rfl (by omega) (HR.out.at_ (B0 _ _))).mono ?_
  rintro e w2 ⟨A', c', rfl, hown, hb⟩
  have q0 := ((SR.new 24 w [.int .i64 R.k, .int .i64 R.a, .int .i64 R.b, .slice R.A R.l.length R.c]).alloc (.cells #[.int .i64 0, .int .i64 0, .int .i64 0, .slice none 0 0] 24)).call hb (by simp; omega)
  have q1 : SR 24 w2 (w.heap.size + 1) [.int .i64 0, .int .i64 0, .int .i64 0, .slice none 0 0] := by
    have := (SR.new 24 (w.alloc (.cells #[.int .i64 R.k, .int .i64 R.a, .int .i64 R.b, .slice R.A R.l.length R.c] 24)) [.int .i64 0, .int .i64 0, .int .i64 0, .slice none 0 0]).call hb (by simp)
    rw [World.size_alloc] at this
    exact this
  obtain ⟨⟨c0, c1, c2, c3⟩, f0, f1, f2, f3⟩ := q0.facts4
  have hbw : Below w.heap.size w w2 := bCall (B0 _ _) hb
  have hge : ∀ g, (Value.slice A' R.l.length c').ownBlock = some g → w.heap.size + 2 ≤ g ∧ g < w2.heap.size := by
    intro g hg
    have := hown.ge g hg
    simp only [World.size_alloc] at this
    omega
  have hne0 : (Value.slice A' R.l.length c').ownBlock ≠ some w.heap.size := fun e => by have := hge _ e; omega
  have H0 := keepd (q0.set 3 (.slice A' R.l.length c'))
  have H1 := keepd (q1.far (p := ⟨w.heap.size, 3, none⟩) (by show w.heap.size + 1 ≠ w.heap.size; omega) (.slice A' R.l.length c'))
  have H2 := keepd ((hown.mono (base' := w.heap.size) (by simp only [World.size_alloc]; omega)).setOne (b := w.heap.size) (i := 3) hne0 (.slice A' R.l.length c'))
  have H3 := keepd (bSet (b := w.heap.size) (i := 3) hbw (Nat.le_refl _) (.slice A' R.l.length c'))
  have H4 : Hid (∀ g, (Value.slice A' R.l.length c').ownBlock = some g → w.heap.size + 2 ≤ g ∧ g < (w2.setCell ⟨w.heap.size, 3, none⟩ (.slice A' R.l.length c')).heap.size) := by
    intro g hg
    have := hge g hg
    simp only [World.setCell, Array.size_modify]
    exact this
  clear hown hb q0 q1 hbw hge hne0
  go_wp2_with fail
  clear c0 c1 c2 c3 f0 f1 f2 f3
  generalize w2.setCell ⟨w.heap.size, 3, none⟩ (.slice A' R.l.length c') = W3 at *
  obtain ⟨v, hv⟩ : ∃ v, mayR R.abs = v := ⟨_, rfl⟩
  have hv2 : mayR ⟨R.k, R.a, R.b, R.l⟩ = v := hv
  with_reducible refine (rcheck_any R.k R.a R.b A' R.l R.l.length c' W3 rfl v hv2).mono ?_
  rintro e w4 ⟨rfl, hb4⟩
  have q0 := H0.out.call hb4 H0.out.lt
  have q1 := H1.out.call hb4 H1.out.lt
  simp only [List.set_cons_succ, List.set_cons_zero] at q0
  obtain ⟨⟨c0, c1, c2, c3⟩, right⟩ := q0.facts4
  obtain ⟨⟨d0, d1, d2, d3⟩, g0, g1, g2, g3⟩ := q1.facts4
  have HB4 := keepd (bCall H3.out hb4)
  have HO4 := keepd (H2.out.below hb4)
  have HG4 : Hid (∀ g, (Value.slice A' R.l.length c').ownBlock = some g → w.heap.size + 2 ≤ g ∧ g < w4.heap.size) := fun g hg => ⟨(H4.out g hg).1, Nat.lt_of_lt_of_le (H4.out g hg).2 hb4.size⟩
  have HQ1 := keepd q1
  have HV := keepd hv
  clear hb4 q0 q1 H0 H1 H2 H3 H4 hv
  cases v
  · go_wp2
    refine bodyPost_ret (v := .tuple #[.agg #[.int .i64 R.k, .int .i64 R.a, .int .i64 R.b, .slice A' R.l.length c'], .slice none 0 0, .int .i64 1]) (by simp [results, Try.results8, go_sem, d0, d1, d2, d3]) rfl ?_
    refine ⟨⟨R.k, R.a, R.b, A', R.l, c'⟩, none, 0, [], ?_, ?_, ?_, ?_, ?_, ?_⟩
    · rw [errF_no HV.out]
      rfl
    · rw [feedE_no HV.out]
      rfl
    · rw [feedE_no HV.out]
      rfl
    · have : Rd (set4 w4 (w.heap.size + 1) (.int .i64 R.k) (.int .i64 R.a) (.int .i64 R.b) (.slice A' R.l.length c')) (set4 w4 (w.heap.size + 1) (.int .i64 R.k) (.int .i64 R.a) (.int .i64 R.b) (.slice A' R.l.length c')).heap.size A' R.l c' :=
        HO4.out.rdOf.of_block (by rw [set4_size]; exact Nat.le_refl _) fun ad had => set4_heap _ _ _ _ _ _ (fun e => by
          subst had
          have := (HG4.out ad.block rfl).1
          omega)
      exact this
    · exact ⟨by simp, by simp, fun e => absurd rfl e, fun x hx => by simp at hx⟩
    · exact set4_below HB4.out (Nat.le_succ _)
  · have hs := hsf
    go_wp2_with fail
    with_reducible refine (rways_any _).mono ?_
    rintro e w6 ⟨rfl, hb6⟩
    have HJ := keepd (wj_start HB4.out HO4.out HG4.out HQ1.out hb6)
    unfold waysA at HJ
    clear hb6 c0 c1 c2 c3 d0 d1 d2 d3 g0 g1 g2 g3 HB4 HO4 HG4 HQ1
    unfold waysA
    go_wp2_with fail
    obtain ⟨KK, hKK⟩ : ∃ KK, KK = [(w.heap.size + 1, Obj.cells #[.int .i64 0, .int .i64 0, .int .i64 0, .slice none 0 0] 24 (0, 0)), (w6.heap.size, .cells waysA 50 (0, 0))] := ⟨_, rfl⟩
    have M1 : (w.heap.size + 1, Obj.cells #[.int .i64 0, .int .i64 0, .int .i64 0, .slice none 0 0] 24 (0, 0)) ∈ KK := by rw [hKK]; simp
    have M2 : (w6.heap.size, Obj.cells waysA 50 (0, 0)) ∈ KK := by rw [hKK]; simp
    have HM1 := keepd M1
    have HM2 := keepd M2
    have HJ2 : Hid (WI w w4.heap.size KK R.abs [] (w6.alloc (.cells waysA 50))) := by
      rw [hKK]
      exact ⟨A', c', _, HJ.out⟩
    unfold waysA at HJ2
    clear M1 M2 HJ hKK hs right
    generalize w6.alloc _ = V at *
    go_loopw [27] (fun vi wr => ∃ (k : Nat) (L' : List Itm), k ≤ n ∧ vi = .int .i64 k ∧ Hid (WI w w4.heap.size KK (feed R.abs (l.take k)).1 L' wr) ∧ Hid (L'.map Itm.abs = (feed R.abs (l.take k)).2)) (fun vi _ => n - (intOf vi).toNat)
    case atStart => exact ⟨0, [], by omega, rfl, HJ2, by show _ = _; simp [feed]⟩
    case round =>
      obtain ⟨k, L', hk, rfl, J, JL⟩ := hrel
      obtain ⟨m1, _, m3⟩ := feed_may HV.out (l.take k)
      have hLl : L'.length ≤ 100000 := by
        have h1 : L'.length = (feed R.abs (l.take k)).2.length := by rw [← JL.out, List.length_map]
        rw [List.length_take] at m3
        omega
      obtain ⟨i, hi, hi9⟩ : ∃ i : Nat, (feed R.abs (l.take k)).1.k = (i : Int) ∧ i < 9 := by
        have := mayR_range m1
        exact ⟨(feed R.abs (l.take k)).1.k.toNat, by omega, by omega⟩
      by_cases hlt : k < n
      · have hkl : k < l.length := by rw [← HN.out]; omega
        have HS := keepd (feed_succ R.abs l k hkl)
        obtain ⟨A2, c2, iv2, hj⟩ := J.out
        obtain ⟨b', off', hA', hbl, hce⟩ := (HA.out.at_ hj.below).form hkl
        subst hA'
        obtain ⟨u, hu⟩ : ∃ u, l[k] = u := ⟨_, rfl⟩
        rw [hu] at hce HS
        obtain ⟨fn, hfn, hin, HM⟩ := method_any ⟨A2, c2, iv2, hj⟩ m1 hLl u i hi hi9
        have hc := (cell_of_row _ _ i _ _ _ (hj.kept _ _ HM2.out).1).trans hfn
        have c0 := hj.sr.facts5.1.1
        rw [hi] at c0
        have i1 : (0 : Int) ≤ (i : Int) := by omega
        have i2 : (i : Int) < 9 := by omega
        have HMM := keepd HM
        clear hu HM hj m1 m3 hi hfn
        go_wp2_with fail
        with_reducible refine HMM.out.mono ?_
        rintro e w7 ⟨rfl, M, hM, hw7⟩
        have H7 := keepd hw7
        have H8 : Hid ((L' ++ M).map Itm.abs = (feed R.abs (l.take (k + 1))).2) := by
          show _ = _
          rw [List.map_append, hM, JL.out, HS.out]
        clear hc hce c0 hM hw7
        go_wp2
        go_roundw
        case rel => exact ⟨k + 1, L' ++ M, by omega, by go_num, by show WI _ _ _ _ _ _; rw [HS.out]; exact H7.out, H8⟩
        case measure => simp [intOf]; omega
      · obtain rfl : n = k := by omega
        have htk : l.take n = l := by rw [HN.out, List.take_length]
        rw [htk] at J JL
        obtain ⟨A2, c2, iv2, hj⟩ := J.out
        obtain ⟨B, d, rfl⟩ := hj.owns.form
        have HF := keepd (feed_end hj HM1.out)
        obtain ⟨⟨c0, c1, c2', c3, c4⟩, _⟩ := hj.sr.facts5
        have q1 : SR 24 wr (w.heap.size + 1) [.int .i64 0, .int .i64 0, .int .i64 0, .slice none 0 0] := (hj.kept _ _ HM1.out).1
        have hlt2 := q1.lt
        obtain ⟨⟨d0, d1, d2, d3⟩, g0, g1, g2, g3⟩ := q1.facts4
        have hne : w4.heap.size ≠ w.heap.size + 1 := fun e => (hj.kept _ _ HM1.out).2.1 e.symm
        have hpl := hj.lt
        have HE1 := keepd (feedE_yes HV.out l)
        have HE2 := keepd (errF_yes HV.out)
        clear hj q1 m1 m3 hi htk J
        obtain ⟨r2, hr2⟩ : ∃ r2, (feed R.abs l).1 = r2 := ⟨_, rfl⟩
        rw [hr2] at HF c0 c1 c2' c3
        have HR2 := keepd hr2
        clear hr2
        go_wp2_with fail
        go_region
        all_goals
          go_wp2_with fail
          refine bodyPost_ret (v := .tuple #[.agg #[.int .i64 r2.k, .int .i64 r2.a, .int .i64 r2.b, .slice A2 r2.l.length c2], .slice B L'.length d, .int .i64 0]) (by simp [results, Try.results8, go_sem, d0, d1, d2, d3]) rfl ?_
          obtain ⟨x1, x2, x3⟩ := HF.out (.int .i64 r2.k) (.int .i64 r2.a) (.int .i64 r2.b) (.slice A2 r2.l.length c2)
          refine ⟨⟨r2.k, r2.a, r2.b, A2, r2.l, c2⟩, B, d, L', ?_, ?_, ?_, x1, x2, x3.drew⟩
          · rw [HE2.out]
          · rw [HE1.out, HR2.out]
            rfl
          · rw [HE1.out]
            exact JL.out

end Go.Proofs.Ytmgkfibkeonpmaa
