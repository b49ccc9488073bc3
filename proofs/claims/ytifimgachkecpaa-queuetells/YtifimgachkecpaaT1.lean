/-
  Contracts over layer 1: Few, Check, Octets, bytes.Equal. No conditions beyond those each theorem states.
-/
import Derived.Test.YtifimgachkecpaaBase
namespace Go.Proofs.Ytifimgachkecpaa
open Go.RowKit

theorem ret_slice {A : Option Addr} {n m c : Nat} (h : n = m) : Ending.returned (.slice A n c) = .returned (.slice A m c) := by rw [h]

set_option maxHeartbeats 400000 in
theorem few_any (A : Option Addr) (n c : Nat) (w : World) (hn : n ≤ c) (hc : c ≤ maxLen) :
    Calls Try.prog 10 #[.slice A n c] w fun e w' => e = .returned (.slice A (min n 200) c) ∧ w = w' := by
  unfold maxLen at hc
  go_enter Try.func10, Try.ntmps10
  by_cases h : n ≤ 200
  · go_wp2
    go_ret
    exact ⟨ret_slice (by omega), rfl⟩
  · go_wp2
    go_ret
    exact ⟨ret_slice (by omega), rfl⟩

/-- May a queue be? -/
def May (cap : Int) (n : Nat) : Prop := 1 ≤ cap ∧ cap ≤ 65536 ∧ (n : Int) ≤ cap

set_option maxHeartbeats 400000 in
theorem check_yes (cap : Int) (A : Option Addr) (n c : Nat) (w : World) (h : May cap n) :
    Calls Try.prog 12 #[.agg #[.int .i64 cap, .slice A n c]] w fun e w' => e = .returned (.int .i64 0) ∧ Below w.heap.size w w' := by
  obtain ⟨h1, h2, h3⟩ := h
  have g1 : decide (cap < 1) = false := by simp; omega
  have g2 : decide (65536 < cap) = false := by simp; omega
  have g3 : decide (cap < (n : Int)) = false := by simp; omega
  go_enter Try.func12, Try.ntmps12
  go_wp2
  go_ret
  exact ⟨rfl, (Below.refl _ _).alloc (Nat.le_refl _) _⟩

set_option maxHeartbeats 400000 in
theorem check_no (cap : Int) (A : Option Addr) (n c : Nat) (w : World) (h : ¬ May cap n) :
    Calls Try.prog 12 #[.agg #[.int .i64 cap, .slice A n c]] w fun e w' => e = .returned (.int .i64 1) ∧ Below w.heap.size w w' := by
  by_cases h1 : cap < 1
  · have g1 : decide (cap < 1) = true := by simp; omega
    go_enter Try.func12, Try.ntmps12
    go_wp2
    go_ret
    exact ⟨rfl, (Below.refl _ _).alloc (Nat.le_refl _) _⟩
  · have g1 : decide (cap < 1) = false := by simp; omega
    by_cases h2 : 65536 < cap
    · have g2 : decide (65536 < cap) = true := by simp; omega
      go_enter Try.func12, Try.ntmps12
      go_wp2
      go_ret
      exact ⟨rfl, (Below.refl _ _).alloc (Nat.le_refl _) _⟩
    · have g2 : decide (65536 < cap) = false := by simp; omega
      have h3 : cap < (n : Int) := by unfold May at h; omega
      have g3 : decide (cap < (n : Int)) = true := by simp; omega
      clear h
      go_enter Try.func12, Try.ntmps12
      go_wp2
      go_ret
      exact ⟨rfl, (Below.refl _ _).alloc (Nat.le_refl _) _⟩

theorem str_bytes {l : List UInt8} : (l.map (fun b : UInt8 => (b.toNat : Int))).foldl (fun (r : ByteArray) (n : Int) => r.push (UInt8.ofNat n.toNat)) ByteArray.empty = ⟨l.toArray⟩ := by
  suffices h : ∀ (l : List UInt8) (r : ByteArray), (l.map (fun b : UInt8 => (b.toNat : Int))).foldl (fun (r : ByteArray) (n : Int) => r.push (UInt8.ofNat n.toNat)) r = ⟨(r.data.toList ++ l).toArray⟩ by
    rw [h]; simp
  intro l
  induction l with
  | nil => intro r; simp
  | cons b l ih =>
    intro r
    simp only [List.map_cons, List.foldl_cons, ih]
    congr 1
    simp [ByteArray.push]

theorem conv_str {w : World} {B : Nat} {A : Option Addr} {l : List UInt8} {c : Nat} (h : Rd w B A l c) :
    (convert 22 9 (.slice A l.length c)).run Try.prog w = .ok (.string ⟨l.toArray⟩) w := by
  rw [run_convert_bytes_string w 22 9 5 A l.length c Try.underlying22 Try.underlying5 Try.underlying9]
  cases A with
  | none =>
    have : l = [] := by
      rcases List.eq_nil_or_concat l with e | ⟨_, _, e⟩
      · exact e
      · obtain ⟨ad, e', _⟩ := h.2.2.1 (by rw [e]; simp)
        cases e'
    subst this
    rfl
  | some ad =>
    have h2 := run_bytesToString (P := Try.prog) w ad l.length c (l.map (fun b : UInt8 => (b.toNat : Int))) (by
      have := run_loadCells_list (P := Try.prog) w ad ((l.map (fun b : UInt8 => (b.toNat : Int))).map (Value.int .u8)) (fun j v hj => by
        simp only [List.map_map, List.getElem?_map, Option.map_eq_some_iff] at hj
        obtain ⟨u, hu, rfl⟩ := hj
        exact h.2.2.2 ad rfl j u hu)
      simpa using this)
    rw [h2, str_bytes]

set_option maxHeartbeats 400000 in
theorem octets_any (A A' : Option Addr) (l l' : List UInt8) (c c' B : Nat) (w : World) (h : Rd w B A l c) (h' : Rd w B A' l' c') :
    Calls Try.prog 21 #[.slice A l.length c, .slice A' l'.length c'] w fun e w' => e = .returned (.bool (l == l')) ∧ w = w' := by
  have k1 := conv_str h
  have k2 := conv_str h'
  clear h h'
  go_enter Try.func21, Try.ntmps21
  go_wp2
  go_ret
  exact ⟨rfl, rfl⟩

set_option maxHeartbeats 400000 in
theorem equal_any (A A' : Option Addr) (l l' : List UInt8) (c c' B : Nat) (w : World) (h : Rd w B A l c) (h' : Rd w B A' l' c') :
    Calls Try.prog 22 #[.slice A l.length c, .slice A' l'.length c'] w fun e w' => e = .returned (.bool (l == l')) ∧ w = w' := by
  have k1 := conv_str h
  have k2 := conv_str h'
  clear h h'
  go_enter Try.func22, Try.ntmps22
  go_wp2
  go_ret
  exact ⟨rfl, rfl⟩
end Go.Proofs.Ytifimgachkecpaa
