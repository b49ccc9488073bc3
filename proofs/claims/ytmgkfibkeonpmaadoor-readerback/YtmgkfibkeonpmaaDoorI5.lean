/-
  A contract over layer 3: lay, of an item that may be. No conditions beyond those each theorem states.
-/
import Derived.Test.YtmgkfibkeonpmaaDoorI4
namespace Go.Proofs.YtmgkfibkeonpmaaDoor
open Go.RowKit

def u8 (z : Int) : UInt8 := UInt8.ofNat z.toNat

theorem u8_back {z : Int} (h0 : 0 ≤ z) (h1 : z ≤ 255) : ((u8 z).toNat : Int) = z := by
  unfold u8
  rw [UInt8.toNat_ofNat']
  omega

theorem u8_val {z : Int} (h0 : 0 ≤ z) (h1 : z ≤ 255) : Value.int .u8 z = bv (u8 z) := by
  unfold bv
  rw [u8_back h0 h1]

/-- How an item lies. -/
def liesN (k a b : Int) (l : List UInt8) : List UInt8 :=
  if k = 1 then layL [u8 a] else if k = 2 then [255, u8 a] else if k = 3 then [255, u8 a, u8 b] else [255, 250, u8 a] ++ dbl l ++ [255, 240]

theorem new_rd2 (w : World) (o : Obj) (cs : Array Value) (l : List UInt8) (n : Nat) (h : cs = (l.map bv).toArray) (hn : l.length = n) (hl : n ≤ 1000) :
    Rd ((w.alloc o).alloc (.cells cs 5)) ((w.alloc o).alloc (.cells cs 5)).heap.size (some ⟨w.heap.size + 1, 0, none⟩) l n := by
  have e : (w.alloc o).heap.size = w.heap.size + 1 := by simp
  have := new_rd (w.alloc o) cs l n h hn hl
  rw [show (⟨(w.alloc o).heap.size, 0, none⟩ : Addr) = ⟨w.heap.size + 1, 0, none⟩ by rw [e]] at this
  exact this

theorem oct_iff {n : Int} (h : oct n = true) : 0 ≤ n ∧ n ≤ 255 := of_decide_eq_true h

set_option maxHeartbeats 1000000 in
theorem ilay_data {W : World} {fn p : Nat} {I : List (Nat × Obj) → List UInt8 → World → Prop} (P : Adder W fn p I) (K : List (Nat × Obj)) (L : List UInt8) (a b : Int) (A : Option Addr) (n c : Nat) (w : World)
    (h0 : 0 ≤ a) (h1 : a ≤ 255) (h : I K L w) (hl : L.length ≤ 800000) :
    Calls Tryd.prog 22 #[.agg #[.int .i64 1, .int .i64 a, .int .i64 b, .slice A n c], .func (.func fn) #[.pointer (some ⟨p, 0, none⟩)] #[]] w fun e w' => e = .returned (.tuple #[]) ∧ ∃ K', I K' (L ++ layL [u8 a]) w' := by
  have hin := P.enters
  have H := keepd h
  clear h
  go_enter Tryd.func22, Tryd.ntmps22
  go_wp2_with fail
  have hr0 : Rd ((w.alloc (.cells #[.int .i64 1, .int .i64 a, .int .i64 b, .slice A n c] 39)).alloc (.cells #[.int .u8 a] 5)) ((w.alloc (.cells #[.int .i64 1, .int .i64 a, .int .i64 b, .slice A n c] 39)).alloc (.cells #[.int .u8 a] 5)).heap.size (some ⟨w.heap.size + 1, 0, none⟩) [u8 a] 1 := by
    exact new_rd2 w (.cells #[.int .i64 1, .int .i64 a, .int .i64 b, .slice A n c] 39) #[.int .u8 a] [u8 a] 1 (by rw [u8_val h0 h1]; rfl) rfl (by omega)
  with_reducible refine (lay_any _ [u8 a] 1 1 _ rfl hr0 (by omega)).mono ?_
  rintro e w1 ⟨A', c', rfl, hr1, hb1⟩
  have hb : Below w.heap.size w w1 := upA (upA hb1)
  have hI : I K L w1 := P.add K [] L w w1 H.out hb (fun k o hk => by cases hk)
  have hll := (layL_len [u8 a]).2
  have HI := keepd hI
  have HR := keepd hr1
  clear hr0 hr1 hb1 hb hI H
  obtain ⟨m, hm⟩ : ∃ m, (layL [u8 a]).length = m := ⟨_, rfl⟩
  rw [hm] at hll ⊢
  have hll2 : m ≤ 2 := hll
  have HM := keepd hm
  clear hm hll
  go_wp2_with fail
  with_reducible refine (P.put K L w1 A' (layL [u8 a]) m c' HM.out.symm (by omega) HI.out HR.out).mono ?_
  rintro e w2 ⟨rfl, h2⟩
  have H2 := keepd h2
  clear h2 HI HR
  go_wp2
  go_end0
  exact ⟨rfl, _, H2.out⟩

set_option maxHeartbeats 1000000 in
theorem ilay_cmd {W : World} {fn p : Nat} {I : List (Nat × Obj) → List UInt8 → World → Prop} (P : Adder W fn p I) (K : List (Nat × Obj)) (L : List UInt8) (a b : Int) (A : Option Addr) (n c : Nat) (w : World)
    (h0 : 0 ≤ a) (h1 : a ≤ 255) (h : I K L w) (hl : L.length ≤ 800000) :
    Calls Tryd.prog 22 #[.agg #[.int .i64 2, .int .i64 a, .int .i64 b, .slice A n c], .func (.func fn) #[.pointer (some ⟨p, 0, none⟩)] #[]] w fun e w' => e = .returned (.tuple #[]) ∧ ∃ K', I K' (L ++ [255, u8 a]) w' := by
  have hin := P.enters
  have H := keepd h
  clear h
  go_enter Tryd.func22, Tryd.ntmps22
  go_wp2_with fail
  have hr0 : Rd ((w.alloc (.cells #[.int .i64 2, .int .i64 a, .int .i64 b, .slice A n c] 39)).alloc (.cells #[.int .u8 255, .int .u8 a] 5)) ((w.alloc (.cells #[.int .i64 2, .int .i64 a, .int .i64 b, .slice A n c] 39)).alloc (.cells #[.int .u8 255, .int .u8 a] 5)).heap.size (some ⟨w.heap.size + 1, 0, none⟩) [255, u8 a] 2 := by
    exact new_rd2 w (.cells #[.int .i64 2, .int .i64 a, .int .i64 b, .slice A n c] 39) #[.int .u8 255, .int .u8 a] [255, u8 a] 2 (by rw [u8_val h0 h1]; rfl) rfl (by omega)
  have hb : Below w.heap.size w ((w.alloc (.cells #[.int .i64 2, .int .i64 a, .int .i64 b, .slice A n c] 39)).alloc (.cells #[.int .u8 255, .int .u8 a] 5)) := bAlloc (bAlloc (Below.refl _ _) _) _
  have hI := P.add K [] L w _ H.out hb (fun k o hk => by cases hk)
  with_reducible refine (P.put _ L _ _ [255, u8 a] 2 2 rfl (by omega) hI hr0).mono ?_
  rintro e w2 ⟨rfl, h2⟩
  have H2 := keepd h2
  clear h2 hI hr0 hb H
  go_wp2
  go_end0
  exact ⟨rfl, _, H2.out⟩

set_option maxHeartbeats 1000000 in
theorem ilay_opt {W : World} {fn p : Nat} {I : List (Nat × Obj) → List UInt8 → World → Prop} (P : Adder W fn p I) (K : List (Nat × Obj)) (L : List UInt8) (a b : Int) (A : Option Addr) (n c : Nat) (w : World)
    (h0 : 0 ≤ a) (h1 : a ≤ 255) (h0' : 0 ≤ b) (h1' : b ≤ 255) (h : I K L w) (hl : L.length ≤ 800000) :
    Calls Tryd.prog 22 #[.agg #[.int .i64 3, .int .i64 a, .int .i64 b, .slice A n c], .func (.func fn) #[.pointer (some ⟨p, 0, none⟩)] #[]] w fun e w' => e = .returned (.tuple #[]) ∧ ∃ K', I K' (L ++ [255, u8 a, u8 b]) w' := by
  have hin := P.enters
  have H := keepd h
  clear h
  go_enter Tryd.func22, Tryd.ntmps22
  go_wp2_with fail
  have hr0 : Rd ((w.alloc (.cells #[.int .i64 3, .int .i64 a, .int .i64 b, .slice A n c] 39)).alloc (.cells #[.int .u8 255, .int .u8 a, .int .u8 b] 5)) ((w.alloc (.cells #[.int .i64 3, .int .i64 a, .int .i64 b, .slice A n c] 39)).alloc (.cells #[.int .u8 255, .int .u8 a, .int .u8 b] 5)).heap.size (some ⟨w.heap.size + 1, 0, none⟩) [255, u8 a, u8 b] 3 := by
    exact new_rd2 w (.cells #[.int .i64 3, .int .i64 a, .int .i64 b, .slice A n c] 39) #[.int .u8 255, .int .u8 a, .int .u8 b] [255, u8 a, u8 b] 3 (by rw [u8_val h0 h1, u8_val h0' h1']; rfl) rfl (by omega)
  have hb : Below w.heap.size w ((w.alloc (.cells #[.int .i64 3, .int .i64 a, .int .i64 b, .slice A n c] 39)).alloc (.cells #[.int .u8 255, .int .u8 a, .int .u8 b] 5)) := bAlloc (bAlloc (Below.refl _ _) _) _
  have hI := P.add K [] L w _ H.out hb (fun k o hk => by cases hk)
  with_reducible refine (P.put _ L _ _ [255, u8 a, u8 b] 3 3 rfl (by omega) hI hr0).mono ?_
  rintro e w2 ⟨rfl, h2⟩
  have H2 := keepd h2
  clear h2 hI hr0 hb H
  go_wp2
  go_end0
  exact ⟨rfl, _, H2.out⟩

set_option maxHeartbeats 1000000 in
theorem ilay_sub {W : World} {fn p : Nat} {I : List (Nat × Obj) → List UInt8 → World → Prop} (P : Adder W fn p I) (K : List (Nat × Obj)) (L : List UInt8) (a b : Int) (A : Option Addr) (l : List UInt8) (n c : Nat) (w : World) (hn : n = l.length) (hr : Rd W W.heap.size A l c) (hn2 : n ≤ 512)
    (h0 : 0 ≤ a) (h1 : a ≤ 255) (h : I K L w) (hl : L.length ≤ 800000) :
    Calls Tryd.prog 22 #[.agg #[.int .i64 4, .int .i64 a, .int .i64 b, .slice A n c], .func (.func fn) #[.pointer (some ⟨p, 0, none⟩)] #[]] w fun e w' => e = .returned (.tuple #[]) ∧ ∃ K', I K' (L ++ ([255, 250, u8 a] ++ dbl l ++ [255, 240])) w' := by
  have hin := P.enters
  have H := keepd h
  have HN := keepd hn
  have HRD := keepd hr
  clear h hn hr
  go_enter Tryd.func22, Tryd.ntmps22
  go_wp2_with fail
  have hr0 : Rd ((w.alloc (.cells #[.int .i64 4, .int .i64 a, .int .i64 b, .slice A n c] 39)).alloc (.cells #[.int .u8 255, .int .u8 250, .int .u8 a] 5)) ((w.alloc (.cells #[.int .i64 4, .int .i64 a, .int .i64 b, .slice A n c] 39)).alloc (.cells #[.int .u8 255, .int .u8 250, .int .u8 a] 5)).heap.size (some ⟨w.heap.size + 1, 0, none⟩) [255, 250, u8 a] 3 := by
    exact new_rd2 w (.cells #[.int .i64 4, .int .i64 a, .int .i64 b, .slice A n c] 39) #[.int .u8 255, .int .u8 250, .int .u8 a] [255, 250, u8 a] 3 (by rw [u8_val h0 h1]; rfl) rfl (by omega)
  have hb : Below w.heap.size w ((w.alloc (.cells #[.int .i64 4, .int .i64 a, .int .i64 b, .slice A n c] 39)).alloc (.cells #[.int .u8 255, .int .u8 250, .int .u8 a] 5)) := bAlloc (bAlloc (Below.refl _ _) _) _
  have hI := P.add K [(w.heap.size, .cells #[.int .i64 4, .int .i64 a, .int .i64 b, .slice A n c] 39 (0, 0))] L w _ H.out hb (fun k o hk => by
    simp only [List.mem_singleton, Prod.mk.injEq] at hk
    obtain ⟨rfl, rfl⟩ := hk
    exact ⟨Nat.le_refl _, row_alloc (heap_alloc_new w _)⟩)
  with_reducible refine (P.put _ L _ _ [255, 250, u8 a] 3 3 rfl (by omega) hI hr0).mono ?_
  rintro e w2 ⟨rfl, h2⟩
  have hq := P.got _ _ _ h2 w.heap.size _ (List.mem_append_left _ (List.mem_singleton.2 rfl))
  have q3 : w2.cell? ⟨w.heap.size, 3, none⟩ = some (.slice A n c) := cell_of_row w2 w.heap.size 3 _ 39 (0, 0) hq
  have H2 := keepd h2
  have hW2 := P.below _ _ _ h2
  have HW2 := keepd hW2
  clear h2 hI hr0 hb H hq hW2
  generalize [(w.heap.size, Obj.cells #[.int .i64 4, .int .i64 a, .int .i64 b, .slice A n c] 39 (0, 0))] ++ K = K1 at *
  go_wp2_with fail
  have g1 : Rd ((w2.alloc (.cells #[.int .u8 255] 5)).alloc (.cells #[.int .u8 255, .int .u8 255] 5)) ((w2.alloc (.cells #[.int .u8 255] 5)).alloc (.cells #[.int .u8 255, .int .u8 255] 5)).heap.size (some ⟨w2.heap.size, 0, none⟩) [255] 1 :=
    (new_rd w2 #[.int .u8 255] [255] 1 rfl rfl (by omega)).at_ (bAlloc (Below.refl _ _) _)
  have g2 : Rd ((w2.alloc (.cells #[.int .u8 255] 5)).alloc (.cells #[.int .u8 255, .int .u8 255] 5)) ((w2.alloc (.cells #[.int .u8 255] 5)).alloc (.cells #[.int .u8 255, .int .u8 255] 5)).heap.size (some ⟨w2.heap.size + 1, 0, none⟩) [255, 255] 2 :=
    new_rd2 w2 (.cells #[.int .u8 255] 5) #[.int .u8 255, .int .u8 255] [255, 255] 2 rfl rfl (by omega)
  have g3 : Rd ((w2.alloc (.cells #[.int .u8 255] 5)).alloc (.cells #[.int .u8 255, .int .u8 255] 5)) ((w2.alloc (.cells #[.int .u8 255] 5)).alloc (.cells #[.int .u8 255, .int .u8 255] 5)).heap.size A l c :=
    HRD.out.at_ (bAlloc (bAlloc HW2.out _) _)
  with_reducible refine (replaceAll_any A _ _ l n c 1 2 _ HN.out g3 g1 g2 (by omega)).mono ?_
  rintro e w3 ⟨A3, c3, rfl, hr3, hb3⟩
  have hb : Below w2.heap.size w2 w3 := upA (upA hb3)
  have hI := P.add K1 [] _ w2 w3 H2.out hb (fun k o hk => by cases hk)
  obtain ⟨m, hm⟩ : ∃ m, (dbl l).length = m := ⟨_, rfl⟩
  have hml : m ≤ 1024 := by
    rw [← hm, dbl_len]
    have := List.count_le_length (a := (255 : UInt8)) (l := l)
    have := HN.out
    omega
  rw [hm]
  have HM := keepd hm
  have HI := keepd hI
  have HR3 := keepd hr3
  clear hm g1 g2 g3 hr3 hb3 hb hI H2 q3
  go_wp2_with fail
  with_reducible refine (P.put _ (L ++ [255, 250, u8 a]) w3 A3 (dbl l) m c3 HM.out.symm (by simp; omega) HI.out HR3.out).mono ?_
  rintro e w4 ⟨rfl, h4⟩
  have H4 := keepd h4
  clear h4 HI HR3
  go_wp2_with fail
  have g4 := new_rd w4 #[.int .u8 255, .int .u8 240] [255, 240] 2 rfl rfl (by omega)
  have h5 := P.add _ [] _ w4 _ H4.out (bAlloc (Below.refl _ _) (.cells #[.int .u8 255, .int .u8 240] 5)) (fun k o hk => by cases hk)
  with_reducible refine (P.put _ _ _ _ [255, 240] 2 2 rfl (by rw [List.length_append, List.length_append, HM.out]; simp; omega) h5 g4).mono ?_
  rintro e w6 ⟨rfl, h6⟩
  have H6 := keepd h6
  clear h6 h5 g4 H4
  go_wp2
  go_end0
  exact ⟨rfl, _, by have := H6.out; rw [List.append_assoc, List.append_assoc] at this; exact this⟩

theorem liesN_len (k a b : Int) (l : List UInt8) (h : l.length ≤ 512) : (liesN k a b l).length ≤ 1100 := by
  unfold liesN
  have h1 := (layL_len [u8 a]).2
  have h2 := dbl_len l
  have h3 := List.count_le_length (a := (255 : UInt8)) (l := l)
  split
  · simp only [List.length_cons, List.length_nil] at h1; omega
  split
  · simp
  split
  · simp
  · rw [List.length_append, List.length_append, h2]
    simp only [List.length_cons, List.length_nil]
    omega

theorem mayN_len {k a b : Int} {n : Nat} (h : mayN k a b n = true) : n ≤ 512 := by
  unfold mayN at h
  split at h
  · simp at h; omega
  split at h
  · simp at h; omega
  split at h
  · simp at h; omega
  split at h
  · simp at h; omega
  · cases h

/-- lay, of an item that may be. -/
theorem ilay_any {W : World} {fn p : Nat} {I : List (Nat × Obj) → List UInt8 → World → Prop} (P : Adder W fn p I) (K : List (Nat × Obj)) (L : List UInt8) (k a b : Int) (A : Option Addr) (l : List UInt8) (n c : Nat) (w : World)
    (hn : n = l.length) (hr : Rd W W.heap.size A l c) (hm : mayN k a b n = true) (h : I K L w) (hl : L.length ≤ 800000) :
    Calls Tryd.prog 22 #[.agg #[.int .i64 k, .int .i64 a, .int .i64 b, .slice A n c], .func (.func fn) #[.pointer (some ⟨p, 0, none⟩)] #[]] w fun e w' => e = .returned (.tuple #[]) ∧ ∃ K', I K' (L ++ liesN k a b l) w' := by
  unfold mayN at hm
  unfold liesN
  by_cases h1 : k = 1
  · subst h1
    rw [if_pos rfl] at hm ⊢
    simp only [Bool.and_eq_true] at hm
    obtain ⟨o1, o2⟩ := oct_iff hm.1.1
    exact ilay_data P K L a b A n c w o1 o2 h hl
  rw [if_neg h1] at hm ⊢
  by_cases h2 : k = 2
  · subst h2
    rw [if_pos rfl] at hm ⊢
    simp only [Bool.and_eq_true] at hm
    obtain ⟨o1, o2, _⟩ := of_decide_eq_true (show decide _ = true from hm.1.1)
    exact ilay_cmd P K L a b A n c w (by omega) (by omega) h hl
  rw [if_neg h2] at hm ⊢
  by_cases h3 : k = 3
  · subst h3
    rw [if_pos rfl] at hm ⊢
    simp only [Bool.and_eq_true] at hm
    obtain ⟨o1, o2⟩ := of_decide_eq_true (show decide _ = true from hm.1.1)
    obtain ⟨o3, o4⟩ := oct_iff hm.1.2
    exact ilay_opt P K L a b A n c w (by omega) (by omega) o3 o4 h hl
  rw [if_neg h3] at hm ⊢
  by_cases h4 : k = 4
  · subst h4
    rw [if_pos rfl] at hm
    simp only [Bool.and_eq_true] at hm
    obtain ⟨o1, o2⟩ := oct_iff hm.1.1
    exact ilay_sub P K L a b A l n c w hn hr (of_decide_eq_true hm.2) o1 o2 h hl
  · rw [if_neg h4] at hm
    cases hm

end Go.Proofs.YtmgkfibkeonpmaaDoor
