/-
  Layer 4 on lists: what is told of an option and is too long; rows of items without their first. No conditions beyond those each theorem states.
-/
import Derived.Test.YtmgkfibkeonpmaaR9
namespace Go.Proofs.Ytmgkfibkeonpmaa
open Go.RowKit

theorem mayZ : mayR ⟨0, 0, 0, []⟩ = true := by decide
theorem errZ : errF ⟨0, 0, 0, []⟩ = 0 := by decide

theorem feed7 (c : UInt8) (hc : c ≠ 255) : ∀ m : Nat, feed (inn 7) (List.replicate m c) = (inn 7, [])
  | 0 => rfl
  | m + 1 => by
    have s : step (inn 7) c = (inn 7, []) := by rw [step_7 rfl, if_neg hc]
    rw [List.replicate_succ]
    simp only [feed, s, feed7 c hc m]
    rfl

theorem feed_rep (o : Int) (c : UInt8) (hc : c ≠ 255) (n : Nat) (h : n ≤ 512) : feed ⟨5, 0, o, []⟩ (List.replicate n c) = (⟨5, 0, o, List.replicate n c⟩, []) := by
  have hd : dbl (List.replicate n c) = List.replicate n c := dbl_none (by intro hm; exact hc (List.eq_of_mem_replicate hm).symm)
  have := feed_dbl o (List.replicate n c) [] (by simpa using h)
  rw [hd] at this
  exact this

theorem feed_rep2 (o : Int) (c : UInt8) (hc : c ≠ 255) (n : Nat) (h : 512 < n) : feed ⟨5, 0, o, []⟩ (List.replicate n c) = (inn 7, []) := by
  obtain ⟨m, rfl⟩ : ∃ m, n = 512 + (m + 1) := ⟨n - 513, by omega⟩
  have s : step ⟨5, 0, o, List.replicate 512 c⟩ c = (inn 7, []) := by
    have e : sKeep ⟨5, 0, o, List.replicate 512 c⟩ c = inn 7 := if_pos List.length_replicate
    rw [step_5 rfl, if_neg hc, e]
  rw [← List.replicate_append_replicate, feed_append, feed_rep o c hc 512 (Nat.le_refl _), show List.replicate (m + 1) c = c :: List.replicate m c from rfl]
  simp only [feed, s, feed7 c hc m]
  rfl

theorem feed_head (o : UInt8) : feed ⟨0, 0, 0, []⟩ [255, 250, o] = (⟨5, 0, (o.toNat : Int), []⟩, []) := rfl

theorem feed_told (o c : UInt8) (hc : c ≠ 255) (n : Nat) (h : n ≤ 512) (b : List UInt8) :
    feed ⟨0, 0, 0, []⟩ ([255, 250, o] ++ List.replicate n c ++ [255, 240] ++ b) = ((feed ⟨0, 0, 0, []⟩ b).1, ⟨4, (o.toNat : Int), 0, List.replicate n c⟩ :: (feed ⟨0, 0, 0, []⟩ b).2) := by
  have s : feed ⟨5, 0, (o.toNat : Int), List.replicate n c⟩ [255, 240] = (inn 0, [⟨4, (o.toNat : Int), 0, List.replicate n c⟩]) := rfl
  rw [feed_append, feed_append, feed_append, feed_head, feed_rep _ c hc n h, s]
  rfl

theorem feed_skipped (o c : UInt8) (hc : c ≠ 255) (n : Nat) (h : 512 < n) (b : List UInt8) :
    feed ⟨0, 0, 0, []⟩ ([255, 250, o] ++ List.replicate n c ++ [255, 240] ++ b) = feed ⟨0, 0, 0, []⟩ b := by
  have s : feed (inn 7) [255, 240] = (inn 0, []) := rfl
  rw [feed_append, feed_append, feed_append, feed_head, feed_rep2 _ c hc n h, s]
  rfl

/-- A row of items without its first. -/
theorem RdI.drop1 {w : World} {A : Option Addr} {X : Itm} {M : List Itm} {c : Nat} (h : RdI w A (X :: M) c) : RdI w (if c = 1 then A else A.map (·.add 4)) M (c - 1) := by
  have h1 := h.1
  rw [List.length_cons] at h1
  have h2 := h.2.1
  obtain ⟨b, off, rfl, hb, hce⟩ := h.2.2.1 (by simp)
  refine ⟨by omega, by omega, fun hne => ?_, fun x hx => h.2.2.2 x (List.mem_cons_of_mem _ hx)⟩
  have hc : c ≠ 1 := by
    intro e
    have : 0 < M.length := List.length_pos_iff.2 hne
    omega
  rw [if_neg hc]
  refine ⟨b, off + 4, by rw [Option.map_some, Addr.add_lit], hb, fun i hi => ?_⟩
  have := hce (i + 1) (by simpa using hi)
  simp only [List.getElem_cons_succ] at this
  rw [show off + 4 + i * 4 = off + (i + 1) * 4 by omega]
  exact this

theorem slice_fromI (A : Option Addr) (n c : Nat) (hk : 1 ≤ n) (W : World) :
    (Instr.sliceAt 27 (.slice A n c) (some (.int .i64 1)) none none).run Try.prog W = .ok (.slice (if c = 1 then A else A.map (·.add 4)) (n - 1) (c - 1)) W := by
  have hs : ∀ W : World, (sizeOf (Try.prog.elem 27)).run Try.prog W = .ok 4 W := fun W => by kernel_rfl
  rw [run_sliceAt_slice _ _ _ _ _ _ (by kernel_rfl), show (Value.int .i64 1) = .int .i64 ((1 : Nat) : Int) from rfl, run_slice_l _ _ _ _ _ (by kernel_rfl) _ _ (by omega) (by omega), hs]
  simp [sliced, Result.andThen]

theorem three_own (w : World) (u : UInt8) (base : Nat) (h : base ≤ w.heap.size) : Own (w.alloc (.cells #[.int .u8 255, .int .u8 250, .int .u8 (u.toNat : Int)] 5)) base (.slice (some ⟨w.heap.size, 0, none⟩) 3 3) [255, 250, u] :=
  ⟨rfl, .inr ⟨w.heap.size, 3, _, rfl, h, heap_alloc_new w _, Nat.le_refl _, by unfold maxLen; omega, rfl, rfl⟩⟩

end Go.Proofs.Ytmgkfibkeonpmaa
