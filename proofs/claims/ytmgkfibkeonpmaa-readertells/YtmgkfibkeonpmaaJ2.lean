/-
  Contracts over layer 3: bytes.Equal, sameItem, slices.EqualFunc of it, Same. No conditions beyond those each theorem states.
-/
import Derived.Test.YtmgkfibkeonpmaaI8
namespace Go.Proofs.Ytmgkfibkeonpmaa
open Go.RowKit

def sameI (x y : Itm) : Bool := (x.k == y.k) && (x.a == y.a) && (x.b == y.b) && (x.l == y.l)
def sameL : List Itm → List Itm → Bool
  | [], [] => true
  | x :: r, y :: s => sameI x y && sameL r s
  | _, _ => false

theorem sameL_len {L M : List Itm} (h : L.length ≠ M.length) : sameL L M = false := by
  induction L generalizing M with
  | nil => cases M with
    | nil => exact absurd rfl h
    | cons y s => rfl
  | cons x r ih => cases M with
    | nil => rfl
    | cons y s =>
      have := ih (M := s) (by intro e; exact h (by simp [e]))
      simp [sameL, this]

theorem sameL_drop {L M : List Itm} {k : Nat} (h1 : k < L.length) (h2 : k < M.length) : sameL (L.drop k) (M.drop k) = (sameI L[k] M[k] && sameL (L.drop (k + 1)) (M.drop (k + 1))) := by
  rw [List.drop_eq_getElem_cons h1, List.drop_eq_getElem_cons h2]
  rfl

theorem equal_any (A B : Option Addr) (l l' : List UInt8) (n n' c c' : Nat) (w : World) (hn : n = l.length) (hn' : n' = l'.length) (h : Rd w w.heap.size A l c) (h' : Rd w w.heap.size B l' c') :
    Calls Try.prog 21 #[.slice A n c, .slice B n' c'] w fun e w' => e = .returned (.bool (l == l')) ∧ w = w' := by
  subst hn hn'
  have k1 := conv_str h
  have k2 := conv_str h'
  clear h h'
  go_enter Try.func21, Try.ntmps21
  go_wp2
  go_ret
  exact ⟨rfl, rfl⟩

set_option maxHeartbeats 1000000 in
theorem sameItem_any (x y : Itm) (v : Bool) (hv : sameI x y = v) (w : World) (hx : Rd w w.heap.size x.A x.l x.c) (hy : Rd w w.heap.size y.A y.l y.c) :
    Calls Try.prog 26 #[.agg #[.int .i64 x.k, .int .i64 x.a, .int .i64 x.b, .slice x.A x.l.length x.c], .agg #[.int .i64 y.k, .int .i64 y.a, .int .i64 y.b, .slice y.A y.l.length y.c]] w
      fun e w' => e = .returned (.bool v) ∧ Below w.heap.size w w' := by
  subst hv
  unfold sameI
  have HE := fun W (hW : Below w.heap.size w W) => equal_any x.A y.A x.l y.l x.l.length y.l.length x.c y.c W rfl rfl (hx.at_ hW) (hy.at_ hW)
  obtain ⟨v1, h1⟩ : ∃ v, (x.k == y.k) = v := ⟨_, rfl⟩
  obtain ⟨v2, h2⟩ : ∃ v, (x.a == y.a) = v := ⟨_, rfl⟩
  obtain ⟨v3, h3⟩ : ∃ v, (x.b == y.b) = v := ⟨_, rfl⟩
  obtain ⟨v4, h4⟩ : ∃ v, (x.l == y.l) = v := ⟨_, rfl⟩
  rw [h1, h2, h3, h4]
  rw [h4] at HE
  clear hx hy h4
  have HB : ∀ o1 o2, Below w.heap.size w ((w.alloc o1).alloc o2) := fun o1 o2 => bAlloc (bAlloc (Below.refl _ _) _) _
  cases v1 <;> cases v2 <;> cases v3 <;>
  · go_enter Try.func26, Try.ntmps26
    go_wp2_with (go_at_call 21; with_reducible refine (HE _ (HB _ _)).mono ?_; rintro e w1 ⟨rfl, rfl⟩)
    go_ret
    exact ⟨rfl, HB _ _⟩

def GotSame (w : World) (L M : List Itm) (e : Ending) (w' : World) : Prop := e = .returned (.bool (sameL L M)) ∧ Below w.heap.size w w'

theorem enters31 (args : Array Value) (w : World) : (callFunc 26 args).run Try.prog w = .ok (.enter 26 args) w := by kernel_rfl

set_option maxHeartbeats 1000000 in
theorem equalFunc_any (A B : Option Addr) (L M : List Itm) (n m c d : Nat) (w : World) (hn : n = L.length) (hm : m = M.length) (hL : RdI w A L c) (hM : RdI w B M d) :
    Calls Try.prog 25 #[.slice A n c, .slice B m d, .func (.func 26) #[] #[]] w (GotSame w L M) := by
  have hin := enters31
  have HL := keepd hL
  have HM := keepd hM
  have HN := keepd hn
  have HN' := keepd hm
  have c1 := hL.1
  have c2 := hL.2.1
  have c3 := hM.1
  have c4 := hM.2.1
  unfold maxLen at c2 c4
  rw [← hn] at c1
  rw [← hm] at c3
  clear hL hM hn hm
  by_cases hnm : n = m
  · subst hnm
    go_enter Try.func25, Try.ntmps25
    go_wp2_with fail
    go_loopw [17] (fun vi wr => ∃ k : Nat, k ≤ n ∧ vi = .int .i64 k ∧ Hid (sameL L M = sameL (L.drop k) (M.drop k)) ∧ Hid (Below w.heap.size w wr)) (fun vi _ => n - (intOf vi).toNat)
    case atStart => exact ⟨0, by omega, rfl, rfl, Below.refl _ _⟩
    case round =>
      obtain ⟨k, hk, rfl, HS, HB⟩ := hrel
      by_cases hlt : k < n
      · have hkL : k < L.length := by rw [← HN.out]; exact hlt
        have hkM : k < M.length := by rw [← HN'.out]; exact hlt
        obtain ⟨b, off, hA, hbl, hce⟩ := HL.out.2.2.1 (by rintro rfl; simp at hkL)
        obtain ⟨b', off', hA', hbl', hce'⟩ := HM.out.2.2.1 (by rintro rfl; simp at hkM)
        subst hA hA'
        obtain ⟨e0, e1, e2, e3⟩ := hce k hkL
        obtain ⟨d0, d1, d2, d3⟩ := hce' k hkM
        have e0' := (HB.out.cell (p := ⟨b, off + k * 4, none⟩) hbl).trans e0
        have e1' := (HB.out.cell (p := ⟨b, off + k * 4 + 1, none⟩) hbl).trans e1
        have e2' := (HB.out.cell (p := ⟨b, off + k * 4 + 2, none⟩) hbl).trans e2
        have e3' := (HB.out.cell (p := ⟨b, off + k * 4 + 3, none⟩) hbl).trans e3
        have hbo : ∀ o, Below w.heap.size w (wr.alloc o) := fun o => bAlloc HB.out o
        have d0' := fun o => ((hbo o).cell (p := ⟨b', off' + k * 4, none⟩) hbl').trans d0
        have d1' := fun o => ((hbo o).cell (p := ⟨b', off' + k * 4 + 1, none⟩) hbl').trans d1
        have d2' := fun o => ((hbo o).cell (p := ⟨b', off' + k * 4 + 2, none⟩) hbl').trans d2
        have d3' := fun o => ((hbo o).cell (p := ⟨b', off' + k * 4 + 3, none⟩) hbl').trans d3
        have HX := keepd (HL.out.2.2.2 L[k] (List.getElem_mem hkL))
        have HY := keepd (HM.out.2.2.2 M[k] (List.getElem_mem hkM))
        have HD := keepd (sameL_drop hkL hkM)
        generalize L[k] = X at *
        generalize M[k] = Y at *
        obtain ⟨v, hv⟩ : ∃ v, sameI X Y = v := ⟨_, rfl⟩
        have HC := fun W (hW : Below w.heap.size w W) => sameItem_any X Y v hv W (HX.out.at_ hW) (HY.out.at_ hW)
        have HV := keepd hv
        clear hce hce' e0 e1 e2 e3 d0 d1 d2 d3 hv hbo
        cases v
        · go_wp2_with fail
          with_reducible refine (HC _ (bAlloc (bAlloc HB.out _) _)).mono ?_
          rintro e w2 ⟨rfl, hb2⟩
          have HB2 := keepd (bCall (bAlloc (bAlloc HB.out _) _) hb2)
          have HF : Hid (sameL L M = false) := by show _ = _; rw [HS.out, HD.out, HV.out]; rfl
          clear hb2 HC
          go_wp2
          go_ret
          exact ⟨by rw [HF.out]; rfl, HB2.out⟩
        · go_wp2_with fail
          with_reducible refine (HC _ (bAlloc (bAlloc HB.out _) _)).mono ?_
          rintro e w2 ⟨rfl, hb2⟩
          have HB2 := keepd (bCall (bAlloc (bAlloc HB.out _) _) hb2)
          have HF : Hid (sameL L M = sameL (L.drop (k + 1)) (M.drop (k + 1))) := by show _ = _; rw [HS.out, HD.out, HV.out]; rfl
          clear hb2 HC
          go_wp2
          go_roundw
          case rel => exact ⟨k + 1, by omega, by go_num, HF, HB2⟩
          case measure => simp [intOf]; omega
      · obtain rfl : k = n := by omega
        have HF : Hid (sameL L M = true) := by
          show _ = _
          rw [HS.out, List.drop_of_length_le (by rw [← HN.out]; omega), List.drop_of_length_le (by rw [← HN'.out]; omega)]
          rfl
        go_wp2
        go_ret
        exact ⟨by rw [HF.out]; rfl, HB.out⟩
  · have g1 : ((n : Int) != (m : Int)) = true := by simp; omega
    have HF : Hid (sameL L M = false) := sameL_len (by rw [← HN.out, ← HN'.out]; exact hnm)
    go_enter Try.func25, Try.ntmps25
    go_wp2
    go_ret
    exact ⟨by rw [HF.out]; rfl, Below.refl _ _⟩

theorem same_any (A B : Option Addr) (L M : List Itm) (n m c d : Nat) (w : World) (hn : n = L.length) (hm : m = M.length) (hL : RdI w A L c) (hM : RdI w B M d) :
    Calls Try.prog 17 #[.slice A n c, .slice B m d] w (GotSame w L M) := by
  have HC := equalFunc_any A B L M n m c d w hn hm hL hM
  clear hn hm hL hM
  go_enter Try.func17, Try.ntmps17
  go_wp2_with fail
  with_reducible refine HC.mono ?_
  rintro e w1 ⟨rfl, hb⟩
  go_wp2
  go_ret
  exact ⟨rfl, hb⟩

end Go.Proofs.Ytmgkfibkeonpmaa
