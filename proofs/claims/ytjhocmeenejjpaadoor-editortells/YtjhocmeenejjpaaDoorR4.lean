/-
  The document's own Do. No conditions beyond those each theorem states.
-/
import Derived.Test.YtjhocmeenejjpaaDoorR3
namespace Go.Proofs.YtjhocmeenejjpaaDoor
open Go.RowKit
set_option maxRecDepth 100000

theorem rdo_go (A : Option Addr) (l L : List UInt8) (n c t s m : Nat) (f : Int) (d : Bool) (w : World) (hn : n = l.length) (hr : Rd w w.heap.size A l c) (hl : n ≤ 4096) (ht : t ≤ n) (hf : doR l t f = (L, s)) (hd : (doL l t f).isSome = d) (hm : L.length = m) :
    Calls Tryd.prog 52 #[.agg #[.slice A n c, .int .i64 (t : Int)], .int .i64 f] w (GotR w L m (s : Int) d) := by
  unfold doR at hf
  cases hq : doL l t f with
  | none =>
    rw [hq] at hf hd
    simp only [Option.getD_none, Prod.mk.injEq] at hf
    obtain ⟨rfl, rfl⟩ := hf
    subst hd
    rw [← hn] at hm
    subst hm
    exact rdo_none A l n c t w hn hr hl ht f hq
  | some p =>
    rw [hq] at hf hd
    subst hd
    obtain ⟨P, q⟩ := p
    simp only [Option.getD_some, Prod.mk.injEq] at hf
    obtain ⟨rfl, rfl⟩ := hf
    unfold doL at hq
    rw [← hn] at hq
    by_cases h9 : f = 10
    · rw [if_pos h9] at hq
      simp only [Option.some.injEq, Prod.mk.injEq] at hq
      obtain ⟨rfl, rfl⟩ := hq
      subst h9
      exact rdo10 A l _ n c t m w hn hr hl ht rfl hm
    rw [if_neg h9] at hq
    clear h9
    by_cases h9 : f = 27
    · rw [if_pos h9] at hq
      simp only [Option.some.injEq, Prod.mk.injEq] at hq
      obtain ⟨rfl, rfl⟩ := hq
      subst h9
      exact rdo27 A l _ n c t m w hn hr hl ht rfl hm
    rw [if_neg h9] at hq
    clear h9
    by_cases h9 : f = 12
    · rw [if_pos h9] at hq
      simp only [Option.some.injEq, Prod.mk.injEq] at hq
      obtain ⟨rfl, rfl⟩ := hq
      subst h9
      exact rdo12 A l _ n c t m w hn hr hl ht _ rfl rfl hm
    rw [if_neg h9] at hq
    clear h9
    by_cases h9 : f = 28
    · rw [if_pos h9] at hq
      simp only [Option.some.injEq, Prod.mk.injEq] at hq
      obtain ⟨rfl, rfl⟩ := hq
      subst h9
      exact rdo28 A l _ n c t m w hn hr hl ht _ rfl rfl hm
    rw [if_neg h9] at hq
    clear h9
    by_cases h9 : f = 29
    · rw [if_pos h9] at hq
      simp only [Option.some.injEq, Prod.mk.injEq] at hq
      obtain ⟨rfl, rfl⟩ := hq
      subst h9
      exact rdo29 A l _ n c t m w hn hr hl ht rfl hm
    rw [if_neg h9] at hq
    clear h9
    by_cases h9 : f = 30
    · rw [if_pos h9] at hq
      simp only [Option.some.injEq, Prod.mk.injEq] at hq
      obtain ⟨rfl, rfl⟩ := hq
      subst h9
      exact rdo30 A l _ n c t m w hn hr hl ht rfl hm
    rw [if_neg h9] at hq
    clear h9
    by_cases h9 : f = 11
    · rw [if_pos h9] at hq
      simp only [Option.some.injEq, Prod.mk.injEq] at hq
      obtain ⟨rfl, rfl⟩ := hq
      subst h9
      subst hm
      exact rdo11 A l n c t w hn hr hl ht
    rw [if_neg h9] at hq
    clear h9
    by_cases h9 : f = 19
    · rw [if_pos h9] at hq
      simp only [Option.some.injEq, Prod.mk.injEq] at hq
      obtain ⟨rfl, rfl⟩ := hq
      subst h9
      rw [← hn] at hm
      subst hm
      exact rdo19 A l n c t w hn hr hl ht
    rw [if_neg h9] at hq
    clear h9
    by_cases h9 : f = 20
    · rw [if_pos h9] at hq
      simp only [Option.some.injEq, Prod.mk.injEq] at hq
      obtain ⟨rfl, rfl⟩ := hq
      subst h9
      rw [← hn] at hm
      subst hm
      exact rdo20 A l n c t w hn hr hl ht
    rw [if_neg h9] at hq
    clear h9
    by_cases h9 : f = 21
    · rw [if_pos h9] at hq
      simp only [Option.some.injEq, Prod.mk.injEq] at hq
      obtain ⟨rfl, rfl⟩ := hq
      subst h9
      rw [← hn] at hm
      subst hm
      exact rdo21 A l n c t w hn hr hl ht _ rfl
    rw [if_neg h9] at hq
    clear h9
    by_cases h9 : f = 22
    · rw [if_pos h9] at hq
      simp only [Option.some.injEq, Prod.mk.injEq] at hq
      obtain ⟨rfl, rfl⟩ := hq
      subst h9
      rw [← hn] at hm
      subst hm
      exact rdo22 A l n c t w hn hr hl ht _ rfl
    rw [if_neg h9] at hq
    clear h9
    by_cases h9 : f = 23
    · rw [if_pos h9] at hq
      simp only [Option.some.injEq, Prod.mk.injEq] at hq
      obtain ⟨rfl, rfl⟩ := hq
      subst h9
      rw [← hn] at hm
      subst hm
      exact rdo23 A l n c t w hn hr hl ht
    rw [if_neg h9] at hq
    clear h9
    by_cases h9 : f = 24
    · rw [if_pos h9] at hq
      simp only [Option.some.injEq, Prod.mk.injEq] at hq
      obtain ⟨rfl, rfl⟩ := hq
      subst h9
      rw [← hn] at hm
      subst hm
      exact rdo24 A l n c t w hn hr hl ht
    rw [if_neg h9] at hq
    clear h9
    cases hq

end Go.Proofs.YtjhocmeenejjpaaDoor
