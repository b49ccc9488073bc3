/-
  Contracts over the document's answers for layer 4: in, data, inData, inCommand, Same. No conditions beyond those each theorem states.
-/
import Derived.Test.YtmgkfibkeonpmaaR9
import Derived.Test.YtmgkfibkeonpmaaL1
namespace Go.Proofs.Ytmgkfibkeonpmaa
open Go.RowKit

theorem in_any (n : Int) (w : World) : Calls Try.prog 39 #[.int .i64 n] w fun e w' => e = .returned (.agg #[.int .i64 n, .int .i64 0, .int .i64 0, .slice none 0 0]) ∧ Below w.heap.size w w' := by
  have B0 : ∀ o, Below w.heap.size w (w.alloc o) := fun o => bAlloc (Below.refl _ _) o
  go_enter Try.func39, Try.ntmps39
  go_wp2
  refine bodyPost_ret (v := .agg #[.int .i64 n, .int .i64 0, .int .i64 0, .slice none 0 0]) (by simp [results, Try.results39, go_sem]) rfl ⟨rfl, B0 _⟩

theorem ddata_any (z : Int) (hz : 0 ≤ z ∧ z ≤ 255) (w : World) : Calls Try.prog 48 #[.int .u8 z] w fun e w' => e = .returned (.slice (some ⟨w.heap.size, 0, none⟩) 1 1) ∧ RdI w' (some ⟨w.heap.size, 0, none⟩) [lone 1 z 0] 1 ∧ Below w.heap.size w w' := by
  obtain ⟨z0, z1⟩ := hz
  have H1 := keepd (one_rdI w (lone 1 z 0) (Rd.nil _ _))
  have B0 : ∀ o, Below w.heap.size w (w.alloc o) := fun o => bAlloc (Below.refl _ _) o
  go_enter Try.func48, Try.ntmps48
  go_wp2
  go_ret
  exact ⟨rfl, H1.out, B0 _⟩

/-- What comes of an octet, answered. -/
def GotOne (w : World) (x : Abs × List Abs) (e : Ending) (w' : World) : Prop :=
  ∃ (Q : Itm) (B : Option Addr) (d : Nat) (L : List Itm), e = .returned (.tuple #[.agg #[.int .i64 Q.k, .int .i64 Q.a, .int .i64 Q.b, .slice Q.A Q.l.length Q.c], .slice B L.length d]) ∧
    Q.abs = x.1 ∧ L.map Itm.abs = x.2 ∧ Rd w' w'.heap.size Q.A Q.l Q.c ∧ RdI w' B L d ∧ Below w.heap.size w w' ∧ ∀ g off, B = some ⟨g, off, none⟩ → w.heap.size ≤ g

theorem RdI.nil (w : World) : RdI w none [] 0 := ⟨by simp, by simp, fun e => absurd rfl e, fun x hx => by simp at hx⟩

/-- Octets do not lie in a block of integers and a slice. -/
theorem Rd.not_rd' {w : World} {A : Option Addr} {l : List UInt8} {c b : Nat} {t : TypeId} {z0 z1 z2 : Int} {A' : Option Addr} {n' c' : Nat} (h : Rd w w.heap.size A l c) (hl : l ≠ []) (hb : SR t w b [.int .i64 z0, .int .i64 z1, .int .i64 z2, .slice A' n' c']) :
    ∀ ad, A = some ad → ad.block ≠ b := by
  intro ad had e
  have h0 : 0 < l.length := List.length_pos_iff.2 hl
  have := h.2.2.2 ad had 0 l[0] (List.getElem?_eq_getElem h0)
  have ea : ad.add 0 = ad := by unfold Addr.add; simp
  rw [ea] at this
  unfold World.cell? at this
  unfold SR at hb
  rw [e, hb] at this
  simp only at this
  split at this
  · cases this
  · match hof : ad.off with
    | 0 => rw [hof] at this; simp [bv] at this
    | 1 => rw [hof] at this; simp [bv] at this
    | 2 => rw [hof] at this; simp [bv] at this
    | 3 => rw [hof] at this; simp [bv] at this
    | n + 4 => rw [hof] at this; simp at this

/-- A row of items stays where four cells of another kind of block are stored. -/
theorem RdI.set4 {w : World} {B : Option Addr} {L : List Itm} {d p : Nat} {v : Itm} (h : RdI w B L d) (hp : SR 24 w p [.int .i64 v.k, .int .i64 v.a, .int .i64 v.b, .slice v.A v.l.length v.c]) (hB : ∀ g off, B = some ⟨g, off, none⟩ → g ≠ p) (u0 u1 u2 u3 : Value) :
    RdI (set4 w p u0 u1 u2 u3) B L d := by
  have hs : w.heap.size ≤ (Ytmgkfibkeonpmaa.set4 w p u0 u1 u2 u3).heap.size := by rw [set4_size]; exact Nat.le_refl _
  refine ⟨h.1, h.2.1, fun hne => ?_, fun x hx => (h.2.2.2 x hx).of_blockN hs fun hl ad had => set4_heap _ _ _ _ _ _ ((h.2.2.2 x hx).not_rd' hl hp ad had)⟩
  obtain ⟨b, off, e, hb, hce⟩ := h.2.2.1 hne
  refine ⟨b, off, e, Nat.lt_of_lt_of_le hb hs, fun i hi => ?_⟩
  obtain ⟨c0, c1, c2, c3⟩ := hce i hi
  have hh : (Ytmgkfibkeonpmaa.set4 w p u0 u1 u2 u3).heap[b]? = w.heap[b]? := set4_heap _ _ _ _ _ _ (hB b off e)
  exact ⟨(World.cell?_of_block (a := ⟨b, _, none⟩) hh).trans c0, (World.cell?_of_block (a := ⟨b, _, none⟩) hh).trans c1, (World.cell?_of_block (a := ⟨b, _, none⟩) hh).trans c2, (World.cell?_of_block (a := ⟨b, _, none⟩) hh).trans c3⟩

/-- How an answer ends: the reader is stored in its block. -/
theorem one_end {w w2 : World} {p : Nat} {v : Itm} {k a b : Int} {A : Option Addr} {ql : List UInt8} {c : Nat} {B : Option Addr} {L : List Itm} {d : Nat} (hb : Below w.heap.size w w2) (hp : SR 24 w2 p [.int .i64 v.k, .int .i64 v.a, .int .i64 v.b, .slice v.A v.l.length v.c]) (hw : w.heap.size ≤ p)
    (hq : Rd w2 w2.heap.size A ql c) (hI : RdI w2 B L d) (hB : ∀ g off, B = some ⟨g, off, none⟩ → g ≠ p) {n : Nat} :
    Rd (set4 w2 p (.int .i64 k) (.int .i64 a) (.int .i64 b) (.slice A n c)) (set4 w2 p (.int .i64 k) (.int .i64 a) (.int .i64 b) (.slice A n c)).heap.size A ql c ∧ RdI (set4 w2 p (.int .i64 k) (.int .i64 a) (.int .i64 b) (.slice A n c)) B L d ∧
      Below w.heap.size w (set4 w2 p (.int .i64 k) (.int .i64 a) (.int .i64 b) (.slice A n c)) :=
  ⟨hq.of_blockN (by rw [set4_size]; exact Nat.le_refl _) fun hl ad had => set4_heap _ _ _ _ _ _ (hq.not_rd' hl hp ad had), hI.set4 hp hB _ _ _ _, set4_below hb hw⟩

def zeroI : Itm := ⟨0, 0, 0, none, [], 0⟩

set_option maxHeartbeats 1000000 in
theorem dinData_any (u : UInt8) (z : Int) (hz : z = (u.toNat : Int)) (w : World) : Calls Try.prog 38 #[.int .u8 z] w (GotOne w (sData u)) := by
  have hz2 := u8_rng u z hz
  have HI := keepd in_any
  have HD := keepd (fun w => ddata_any z hz2 w)
  unfold sData
  by_cases h1 : u = 255
  · rw [if_pos h1]
    obtain rfl := u8_is u 255 z 255 hz rfl h1
    clear hz
    go_enter Try.func38, Try.ntmps38
    go_wp2_with fail
    with_reducible refine (HI.out 2 _).mono ?_
    rintro e w1 ⟨rfl, hb⟩
    have q := (SR.new 24 w [.int .i64 0, .int .i64 0, .int .i64 0, .slice none 0 0]).call hb (by simp)
    obtain ⟨⟨c0, c1, c2, c3⟩, f0, f1, f2, f3⟩ := q.facts4
    have HE := keepd (one_end (v := zeroI) (k := 2) (a := 0) (b := 0) (n := 0) (upA hb) q (Nat.le_refl _) (Rd.nil w1 _) (RdI.nil w1) (fun g off e => by cases e))
    clear hb q
    go_wp2
    refine bodyPost_ret (v := .tuple #[.agg #[.int .i64 2, .int .i64 0, .int .i64 0, .slice none 0 0], .slice none 0 0]) (by simp [results, Try.results38, go_sem, c0, c1, c2, c3]) rfl ?_
    exact ⟨⟨2, 0, 0, none, [], 0⟩, none, 0, [], rfl, rfl, rfl, HE.out.1, HE.out.2.1, HE.out.2.2, fun g off e => by cases e⟩
  rw [if_neg h1]
  have g1 := u8_isnt u 255 z 255 hz rfl h1
  by_cases h2 : u = 13
  · rw [if_pos h2]
    obtain rfl := u8_is u 13 z 13 hz rfl h2
    clear hz
    go_enter Try.func38, Try.ntmps38
    go_wp2_with fail
    with_reducible refine (HI.out 1 _).mono ?_
    rintro e w1 ⟨rfl, hb⟩
    have q := (SR.new 24 w [.int .i64 0, .int .i64 0, .int .i64 0, .slice none 0 0]).call hb (by simp)
    have HQ := keepd q
    have HB := keepd (upA hb)
    clear hb q
    go_wp2_with fail
    with_reducible refine (HD.out _).mono ?_
    rintro e w2 ⟨rfl, hI, hb2⟩
    have q := HQ.out.call hb2 HQ.out.lt
    obtain ⟨⟨c0, c1, c2, c3⟩, f0, f1, f2, f3⟩ := q.facts4
    have HE := keepd (one_end (v := zeroI) (k := 1) (a := 0) (b := 0) (n := 0) (bCall HB.out hb2) q (Nat.le_refl _) (Rd.nil w2 _) hI (fun g off e => by injection e with e; injection e with e; have := HQ.out.lt; omega))
    clear hb2 q hI
    go_wp2
    refine bodyPost_ret (v := .tuple #[.agg #[.int .i64 1, .int .i64 0, .int .i64 0, .slice none 0 0], .slice (some ⟨w1.heap.size, 0, none⟩) 1 1]) (by simp [results, Try.results38, go_sem, c0, c1, c2, c3]) rfl ?_
    exact ⟨⟨1, 0, 0, none, [], 0⟩, _, 1, [lone 1 13 0], rfl, rfl, rfl, HE.out.1, HE.out.2.1, HE.out.2.2, fun g off e => by injection e with e; injection e with e; have := HB.out.size; omega⟩
  rw [if_neg h2]
  have g2 := u8_isnt u 13 z 13 hz rfl h2
  have HZ : Hid (dat u = ⟨1, z, 0, []⟩) := by show _ = _; unfold dat; rw [hz]
  clear hz
  go_enter Try.func38, Try.ntmps38
  go_wp2_with fail
  with_reducible refine (HI.out 0 _).mono ?_
  rintro e w1 ⟨rfl, hb⟩
  have q := (SR.new 24 w [.int .i64 0, .int .i64 0, .int .i64 0, .slice none 0 0]).call hb (by simp)
  have HQ := keepd q
  have HB := keepd (upA hb)
  clear hb q
  go_wp2_with fail
  with_reducible refine (HD.out _).mono ?_
  rintro e w2 ⟨rfl, hI, hb2⟩
  have q := HQ.out.call hb2 HQ.out.lt
  obtain ⟨⟨c0, c1, c2, c3⟩, f0, f1, f2, f3⟩ := q.facts4
  have HE := keepd (one_end (v := zeroI) (k := 0) (a := 0) (b := 0) (n := 0) (bCall HB.out hb2) q (Nat.le_refl _) (Rd.nil w2 _) hI (fun g off e => by injection e with e; injection e with e; have := HQ.out.lt; omega))
  clear hb2 q hI
  go_wp2
  refine bodyPost_ret (v := .tuple #[.agg #[.int .i64 0, .int .i64 0, .int .i64 0, .slice none 0 0], .slice (some ⟨w1.heap.size, 0, none⟩) 1 1]) (by simp [results, Try.results38, go_sem, c0, c1, c2, c3]) rfl ?_
  exact ⟨⟨0, 0, 0, none, [], 0⟩, _, 1, [lone 1 z 0], rfl, rfl, by rw [HZ.out]; rfl, HE.out.1, HE.out.2.1, HE.out.2.2, fun g off e => by injection e with e; injection e with e; have := HB.out.size; omega⟩

end Go.Proofs.Ytmgkfibkeonpmaa
