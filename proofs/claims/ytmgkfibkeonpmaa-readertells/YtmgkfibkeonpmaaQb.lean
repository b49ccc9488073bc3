/-
  A contract over the document's answer for layer 4: Feed, of a reader that may be. No conditions beyond those the theorem states.
-/
import Derived.Test.YtmgkfibkeonpmaaQa
namespace Go.Proofs.Ytmgkfibkeonpmaa
open Go.RowKit

def GotDFeed (w : World) (x : Abs × List Abs) (e : Ending) (w' : World) : Prop :=
  ∃ (Q : Itm) (B : Option Addr) (d : Nat) (L : List Itm), e = .returned (.tuple #[.agg #[.int .i64 Q.k, .int .i64 Q.a, .int .i64 Q.b, .slice Q.A Q.l.length Q.c], .slice B L.length d]) ∧
    Q.abs = x.1 ∧ L.map Itm.abs = x.2 ∧ Rd w' w'.heap.size Q.A Q.l Q.c ∧ RdI w' B L d ∧ Below w.heap.size w w'

theorem z_of {wr w2 : World} (h5 : Below (wr.alloc (.cells #[.int .i64 0, .int .i64 0, .int .i64 0, .slice none 0 0] 24)).drew.heap.size (wr.alloc (.cells #[.int .i64 0, .int .i64 0, .int .i64 0, .slice none 0 0] 24)).drew w2) :
    (w2.cell? ⟨wr.heap.size, 0, none⟩ = some (.int .i64 0) ∧ w2.cell? ⟨wr.heap.size, 1, none⟩ = some (.int .i64 0) ∧ w2.cell? ⟨wr.heap.size, 2, none⟩ = some (.int .i64 0) ∧ w2.cell? ⟨wr.heap.size, 3, none⟩ = some (.slice none 0 0)) ∧
    (w2.frozen? ⟨wr.heap.size, 0, none⟩ = false ∧ w2.frozen? ⟨wr.heap.size, 1, none⟩ = false ∧ w2.frozen? ⟨wr.heap.size, 2, none⟩ = false ∧ w2.frozen? ⟨wr.heap.size, 3, none⟩ = false) :=
  ((SR.new 24 wr [.int .i64 0, .int .i64 0, .int .i64 0, .slice none 0 0]).call (noDrew h5) (by simp)).facts4

theorem dfeed_end {w wr : World} {base : Nat} {q : Abs} {L : List Itm} {A : Option Addr} {c : Nat} {B : Option Addr} {d : Nat} {x : Abs × List Abs} (h : FJ w base q L wr A c (.slice B L.length d)) (hq : x.1 = q) (hL : L.map Itm.abs = x.2) :
    GotDFeed w x (.returned (.tuple #[.agg #[.int .i64 q.k, .int .i64 q.a, .int .i64 q.b, .slice A q.l.length c], .slice B L.length d])) (set4 wr (w.heap.size + 1) (.int .i64 q.k) (.int .i64 q.a) (.int .i64 q.b) (.slice A q.l.length c)) := by
  have hs : wr.heap.size ≤ (set4 wr (w.heap.size + 1) (.int .i64 q.k) (.int .i64 q.a) (.int .i64 q.b) (.slice A q.l.length c)).heap.size := by rw [set4_size]; exact Nat.le_refl _
  have hbig := h.big
  have ho := h.own.of_block (w' := set4 wr (w.heap.size + 1) (.int .i64 q.k) (.int .i64 q.a) (.int .i64 q.b) (.slice A q.l.length c)) fun g hg => set4_heap _ _ _ _ _ _ (by have := h.own.ge g hg; omega)
  obtain ⟨B', d', e, hr⟩ := ho.rd fun y hy => (h.rds y hy).of_blockN hs fun hl ad had => set4_heap _ _ _ _ _ _ ((h.rds y hy).not_rd' hl h.s1 ad had)
  injection e with e1 _ e3
  subst e1 e3
  exact ⟨⟨q.k, q.a, q.b, A, q.l, c⟩, B, d, L, rfl, hq.symm, hL, h.rd.of_blockN hs fun hl ad had => set4_heap _ _ _ _ _ _ (h.rd.not_rd' hl h.s1 ad had), hr, set4_below h.below (Nat.le_succ _)⟩

set_option maxRecDepth 100000 in
set_option maxHeartbeats 2000000 in
theorem dfeed_any (R : Itm) (A : Option Addr) (l : List UInt8) (m n c : Nat) (w : World) (hm : m = R.l.length) (hn : n = l.length) (hl : n ≤ 4000) (hR : Rd w w.heap.size R.A R.l R.c) (hr : Rd w w.heap.size A l c) (hmay : mayR R.abs = true) :
    Calls Try.prog 14 #[.agg #[.int .i64 R.k, .int .i64 R.a, .int .i64 R.b, .slice R.A m R.c], .slice A n c] w (GotDFeed w (feed R.abs l)) := by
  subst hm
  have HA := keepd hr
  have HN := keepd hn
  have HV := keepd hmay
  have b1 : n ≤ c := by have := hr.1; omega
  have b2 : c ≤ maxLen := hr.2.1
  unfold maxLen at b2
  obtain ⟨F0, F1, F2, F3⟩ := oneV_facts w R.k R.a R.b R.A R.l.length R.c
  have HJ0 : Hid (FJ w (w.heap.size + 2) R.abs [] (oneV w R.k R.a R.b R.A R.l.length R.c) R.A R.c (.slice none 0 0)) :=
    { s0 := F0, s1 := F1, rd := hR.at_ F2, far := fun _ _ _ => by simp [Value.ownBlock], own := OwnI.nil _ _, rds := fun x hx => by simp at hx, fars := fun x hx => by simp at hx, below := F2, big := Nat.le_refl _ }
  clear hr hn hR hmay F0 F1 F2 F3
  go_enter Try.func14, Try.ntmps14
  go_wp2_with fail
  change Code.wp Try.prog _ _ _ (oneV w R.k R.a R.b R.A R.l.length R.c)
  generalize oneV w R.k R.a R.b R.A R.l.length R.c = V at *
  go_loopw [6, 7] (fun vo vi wr => ∃ (k : Nat) (L : List Itm) (A' : Option Addr) (c' : Nat), k ≤ n ∧ vi = .int .i64 k ∧ Hid (FJ w (w.heap.size + 2) (feed R.abs (l.take k)).1 L wr A' c' vo) ∧ Hid (L.map Itm.abs = (feed R.abs (l.take k)).2)) (fun _ vi _ => n - (intOf vi).toNat)
  case atStart => exact ⟨0, [], R.A, R.c, by omega, rfl, HJ0, by show _ = _; simp [feed]⟩
  case round =>
    obtain ⟨k, L, A', c', hk, rfl, J, JL⟩ := hrel
    have hw2 := J.out.below.size
    by_cases hlt : k < n
    · have hkl : k < l.length := by rw [← HN.out]; omega
      obtain ⟨m1, _, m3⟩ := feed_may HV.out (l.take k)
      have HS := keepd (feed_succ R.abs l k hkl)
      have hLl : L.length ≤ 4000 := by
        have h1 : L.length = (feed R.abs (l.take k)).2.length := by rw [← JL.out, List.length_map]
        rw [List.length_take] at m3
        omega
      obtain ⟨b', off', hA', hbl, hce⟩ := (HA.out.at_ J.out.below).form hkl
      subst hA'
      obtain ⟨u, hu⟩ : ∃ u, l[k] = u := ⟨_, rfl⟩
      rw [hu] at hce HS
      obtain ⟨q, hq⟩ : ∃ q, (feed R.abs (l.take k)).1 = q := ⟨_, rfl⟩
      rw [hq] at J m1 HS
      obtain ⟨⟨x0, x1, x2, x3⟩, _⟩ := J.out.s0.facts4
      have y0 := J.out.s0.lt
      have K0 := keepd x0
      have K1 := keepd x1
      have K2 := keepd x2
      have K3 := keepd x3
      have K4 := keepd hce
      have HO := keepd (fun W (hW : Below wr.heap.size wr W) => done_any q.k q.a q.b A' q.l q.l.length c' rfl m1 u _ rfl W (J.out.rd.at_ hW))
      have HQM := keepd m1
      have HB2 := keepd (show w.heap.size + 2 ≤ wr.heap.size by have := J.out.s1.lt; omega)
      have i1 : (0 : Int) ≤ (k : Int) := by omega
      have i2 : (k : Int) < (n : Int) := by omega
      have hlt2 : decide (k < n) = true := by simpa using hlt
      clear hu hq m1 m3
      go_wp2_with fail
      go_cut [8, 9] from 10 to 28 (fun s8 s9 wx => ∃ (Q : Itm) (B : Option Addr) (d : Nat) (M : List Itm) (b8 : Nat), s8 = .pointer (some ⟨b8, 0, none⟩) ∧ s9 = .slice B M.length d ∧ Hid (Mid wr A' q.l (step q u) Q B d M b8 wx))
      case first =>
        go_region_held3 (fun W => W.cell? ⟨w.heap.size, 0, none⟩ = some (.int .i64 q.k) ∧ W.cell? ⟨w.heap.size, 1, none⟩ = some (.int .i64 q.a) ∧ W.cell? ⟨w.heap.size, 2, none⟩ = some (.int .i64 q.b) ∧ W.cell? ⟨w.heap.size, 3, none⟩ = some (.slice A' q.l.length c') ∧ W.cell? ⟨b', off' + k, none⟩ = some (.int .u8 (u.toNat : Int)) ∧ Below wr.heap.size wr W)
          ((refine sK5 K0.out K1.out K2.out K3.out K4.out y0 hbl ?_; repeat (first | assumption | exact Below.refl _ _ | with_reducible refine bSet ?_ ?_ _ | with_reducible refine bAlloc ?_ _ | with_reducible refine Below.drew ?_ | omega)))
          (first | (go_at_call 22; (with_reducible refine (HO.out _ ?_).mono ?_); (focus (repeat (first | assumption | exact Below.refl _ _ | with_reducible refine bAlloc ?_ _ | with_reducible refine Below.drew ?_))); rintro e w2 ⟨Q, B, d, M, rfl, h1, h2, h3, h4, h5, h6, h7, h8⟩; have hbb : Below wr.heap.size wr w2 := (by first | exact noDrew h5 | exact upD h5); have lbb := hbb.size; (first | have HM := keepd (mid_b h5 h1 h2 h3 h4 h6 h7 h8) | have HM := keepd (mid_a (Nat.le_refl _) hbb h1 h2 h3 h4 h6 h7 h8)); clear h1 h2 h3 h4 h6 h7 h8; (first | (have hz := z_of (wr := wr) (w2 := w2) h5; obtain ⟨⟨z0, z1, z2, z3⟩, zf0, zf1, zf2, zf3⟩ := hz) | skip)))
        all_goals go_wp2_with fail
        all_goals go_meet
        all_goals exact ⟨Q, B, d, M, _, rfl, rfl, HM⟩
      case rest =>
        obtain ⟨Q, B, d, M, b8, rfl, rfl, HM⟩ := hcut
        obtain ⟨t8, hb8, hbw, hrQ, hrM, hBg, hfQ, hfM, hQa, hMa⟩ := HM.out
        obtain ⟨⟨p0, p1, p2, p3⟩, _⟩ := t8.facts4
        have p8 := t8.lt
        have q0 := J.out.s0.call hbw y0
        obtain ⟨⟨r0, r1, r2, r3⟩, f0, f1, f2, f3⟩ := q0.facts4
        have hne : w.heap.size ≠ b8 := by omega
        have hcs := hbw.size
        have hbig := J.out.below.size
        have hMl : M.length ≤ 1 := by
          have h1 : M.length = (step q u).2.length := by rw [← hMa, List.length_map]
          have := (step_may HQM.out u).2.2
          omega
        have HOW : Hid (OwnI (set4 wc w.heap.size (.int .i64 Q.k) (.int .i64 Q.a) (.int .i64 Q.b) (.slice Q.A Q.l.length Q.c)) (w.heap.size + 2) u6 L) :=
          J.out.own.of_block fun g hg => (set4_heap _ _ _ _ _ _ (by have := J.out.own.ge g hg; omega)).trans (hbw.block g (J.out.own.ge g hg).2)
        have HRW : Hid (RdI (set4 wc w.heap.size (.int .i64 Q.k) (.int .i64 Q.a) (.int .i64 Q.b) (.slice Q.A Q.l.length Q.c)) B M d) :=
          hrM.set4 (v := ⟨q.k, q.a, q.b, A', q.l, c'⟩) q0 (fun g off e => by have := hBg g off e; omega) _ _ _ _
        have HZ : Hid ((set4 wc w.heap.size (.int .i64 Q.k) (.int .i64 Q.a) (.int .i64 Q.b) (.slice Q.A Q.l.length Q.c)).heap.size = wc.heap.size) := set4_size _ _ _ _ _ _
        have HNX := keepd (fun vo' w3 ho hg hat => J.out.next (vo' := vo') (w3 := w3) hbw hrQ hfQ hrM hfM ho hg hat)
        have HQA := keepd hQa
        have HMA := keepd hMa
        have HCS := keepd hcs
        have HY0 := keepd y0
        unfold set4 at HOW HRW HZ HNX
        clear t8 hbw hrQ hrM hBg hfQ hfM hQa hMa q0 HM
        go_wp2_with (at_builtin; refine wpList_appI _ rfl (.tmp 26) (.tmp 27) rfl (w.heap.size + 2) _ L rfl HOW.out B M.length d M rfl rfl HRW.out ?_ ?_ ?_)
        · omega
        · rw [HZ.out]
          have := HCS.out
          have := HB2.out
          omega
        · intro vo' w3 ho hg hat
          try rw [HZ.out] at hat
          have HJ' := keepd (HNX.out vo' w3 ho hg hat)
          have HF1 : Hid ((feed R.abs (l.take (k + 1))).1 = Q.abs) := by show _ = _; rw [HS.out]; exact HQA.out.symm
          have HF2 : Hid ((L ++ M).map Itm.abs = (feed R.abs (l.take (k + 1))).2) := by show _ = _; rw [HS.out, List.map_append, JL.out, HMA.out]
          clear ho hg hat HNX HOW HRW p0 p1 p2 p3 r0 r1 r2 r3 f0 f1 f2 f3
          go_wp2
          go_roundw
          case rel => exact ⟨k + 1, L ++ M, Q.A, Q.c, by omega, by go_num, by show FJ _ _ _ _ _ _ _ _; rw [HF1.out]; exact HJ'.out, HF2⟩
          case measure => simp [intOf]; omega
    · obtain rfl : k = n := by omega
      have htk : l.take k = l := by rw [HN.out, List.take_length]
      rw [htk] at J JL
      obtain ⟨q, hq⟩ : ∃ q, (feed R.abs l).1 = q := ⟨_, rfl⟩
      rw [hq] at J
      obtain ⟨B, d, rfl⟩ := J.out.own.form
      obtain ⟨⟨x0, x1, x2, x3⟩, _⟩ := J.out.s0.facts4
      obtain ⟨⟨d0, d1, d2, d3⟩, g0, g1, g2, g3⟩ := J.out.s1.facts4
      have y0 := J.out.s0.lt
      have y1 := J.out.s1.lt
      have HE := keepd (dfeed_end J.out hq JL.out)
      have hlt2 : decide (k < k) = false := by simp
      clear hq htk
      go_wp2_with fail
      refine bodyPost_ret (v := .tuple #[.agg #[.int .i64 q.k, .int .i64 q.a, .int .i64 q.b, .slice A' q.l.length c'], .slice B L.length d]) (by simp [results, Try.results14, go_sem, d0, d1, d2, d3]) rfl HE.out

end Go.Proofs.Ytmgkfibkeonpmaa
