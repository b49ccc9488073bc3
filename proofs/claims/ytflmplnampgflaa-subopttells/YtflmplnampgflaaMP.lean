/-
  Masks as lists of 32 octets, and as sets of keys: a key put in or taken out, the mask of keys, of a row of bools, its keys, what is 0 at its end, how many bits. No walks here.
-/
import Derived.Test.YtflmplnampgflaaWords
namespace Go.Proofs.Ytflmplnampgflaa
open Go.RowKit

/-- A mask: its 32 octets. -/
structure Mk where
  l : List UInt8
  h : l.length = 32

theorem Mk.eq {X Y : Mk} (h : X.l = Y.l) : X = Y := by
  obtain ⟨a, ha⟩ := X
  obtain ⟨b, hb⟩ := Y
  subst h
  rfl
instance : DecidableEq Mk := fun X Y => if h : X.l = Y.l then .isTrue (Mk.eq h) else .isFalse fun e => h (congrArg Mk.l e)

/-- Its cells. -/
def ms (X : Mk) : List Value := X.l.map bv
abbrev mv (X : Mk) : Value := .agg (ms X).toArray
theorem ms_len (X : Mk) : (ms X).length = 32 := by simp [ms, X.h]

theorem bv_inj {a b : UInt8} (h : bv a = bv b) : a = b := by
  injection h with _ h
  have : a.toNat = b.toNat := by omega
  exact UInt8.toNat_inj.1 this
theorem map_bv_inj : ∀ {l m : List UInt8}, l.map bv = m.map bv → l = m
  | [], [], _ => rfl
  | [], _ :: _, h => by simp at h
  | _ :: _, [], h => by simp at h
  | a :: l, b :: m, h => by
    simp only [List.map_cons, List.cons.injEq] at h
    rw [bv_inj h.1, map_bv_inj h.2]
theorem ms_inj {X Y : Mk} : ms X = ms Y ↔ X = Y := ⟨fun h => Mk.eq (map_bv_inj h), fun h => by rw [h]⟩

/-- An octet of it. -/
def Mk.at (X : Mk) (i : Nat) : UInt8 := X.l.getD i 0
theorem at_get (X : Mk) {i : Nat} (h : i < 32) : X.l[i]? = some (X.at i) := by
  unfold Mk.at
  rw [List.getD_eq_getElem?_getD, List.getElem?_eq_getElem (by rw [X.h]; exact h)]
  rfl
theorem ms_at (X : Mk) {i : Nat} (h : i < 32) : (ms X)[i]? = some (bv (X.at i)) := by
  unfold ms
  rw [List.getElem?_map, at_get X h]
  rfl
theorem Mk.ext_at {X Y : Mk} (h : ∀ i, i < 32 → X.at i = Y.at i) : X = Y := by
  apply Mk.eq
  apply List.ext_getElem?
  intro i
  by_cases hi : i < 32
  · rw [at_get X hi, at_get Y hi, h i hi]
  · rw [List.getElem?_eq_none (by rw [X.h]; omega), List.getElem?_eq_none (by rw [Y.h]; omega)]

/-- With another octet. -/
def Mk.set (X : Mk) (i : Nat) (u : UInt8) : Mk := ⟨X.l.set i u, by rw [List.length_set, X.h]⟩
theorem ms_set (X : Mk) (i : Nat) (u : UInt8) : (ms X).set i (bv u) = ms (X.set i u) := by
  unfold ms Mk.set
  rw [List.map_set]
theorem at_set (X : Mk) {i : Nat} (hi : i < 32) (u : UInt8) (j : Nat) : (X.set i u).at j = if j = i then u else X.at j := by
  unfold Mk.at Mk.set
  simp only [List.getD_eq_getElem?_getD]
  by_cases h : j = i
  · subst h
    rw [List.getElem?_set_self (by rw [X.h]; exact hi), if_pos rfl]
    rfl
  · rw [List.getElem?_set_ne (fun e => h e.symm), if_neg h]
theorem set_set (X : Mk) (i : Nat) (u v : UInt8) : (X.set i u).set i v = X.set i v := Mk.eq (by simp [Mk.set])

def zM : Mk := ⟨zeros 32, by simp [zeros]⟩
theorem zM_at (i : Nat) : zM.at i = 0 := by
  unfold Mk.at zM zeros
  rw [List.getD_eq_getElem?_getD, List.getElem?_replicate]
  split <;> rfl

/-- Is an octet's k-th bit, from the highest on, set? -/
def tb (x : UInt8) (k : Nat) : Bool := x.toNat.testBit (7 - k)
theorem tb_ext {x y : UInt8} (h : ∀ k, k < 8 → tb x k = tb y k) : x = y := by
  apply UInt8.toNat_inj.1
  apply Nat.eq_of_testBit_eq
  intro i
  by_cases hi : i < 8
  · have := h (7 - i) (by omega)
    unfold tb at this
    rwa [show 7 - (7 - i) = i by omega] at this
  · have e : ∀ z : UInt8, z.toNat.testBit i = false := fun z =>
      Nat.testBit_lt_two_pow (Nat.lt_of_lt_of_le (UInt8.toNat_lt z) (Nat.pow_le_pow_right (by omega) (by omega : 8 ≤ i)))
    rw [e, e]
theorem tb_zero (k : Nat) : tb 0 k = false := by simp [tb]

/-- Has it a key? -/
def has (X : Mk) (c : Nat) : Bool := tb (X.at (c / 8)) (c % 8)
theorem has_ext {X Y : Mk} (h : ∀ c, c < 256 → has X c = has Y c) : X = Y := by
  refine Mk.ext_at fun i hi => tb_ext fun k hk => ?_
  have := h (8 * i + k) (by omega)
  unfold has at this
  rwa [show (8 * i + k) / 8 = i by omega, show (8 * i + k) % 8 = k by omega] at this
theorem has_zM (c : Nat) : has zM c = false := by rw [has, zM_at, tb_zero]

/-- The bit of a key in its octet, by its place. -/
def bitN (k : Nat) : Nat := 128 / 2 ^ k
def setB (x : UInt8) (k : Nat) (on : Bool) : UInt8 := if on then x ||| UInt8.ofNat (bitN k) else x &&& ~~~ UInt8.ofNat (bitN k)

theorem allU {p : UInt8 → Prop} (h : ∀ x : Fin 256, p (UInt8.ofNat x.1)) (u : UInt8) : p u := by
  have := h ⟨u.toNat, UInt8.toNat_lt u⟩
  rwa [UInt8.ofNat_toNat] at this

theorem tb_bits (x y : UInt8) (k : Nat) : tb (x ||| y) k = (tb x k || tb y k) := by
  unfold tb
  rw [UInt8.toNat_or, Nat.testBit_or]

theorem setB_all : ∀ (x : Fin 256) (k j : Fin 8), tb (setB (UInt8.ofNat x.1) k.1 true) j.1 = (decide (j = k) || tb (UInt8.ofNat x.1) j.1) ∧ tb (setB (UInt8.ofNat x.1) k.1 false) j.1 = (!decide (j = k) && tb (UInt8.ofNat x.1) j.1) := by decide +kernel
theorem tb_setB (x : UInt8) {k j : Nat} (hk : k < 8) (hj : j < 8) (on : Bool) : tb (setB x k on) j = if j = k then on else tb x j := by
  have h := allU (p := fun x => tb (setB x k true) j = (decide (j = k) || tb x j) ∧ tb (setB x k false) j = (!decide (j = k) && tb x j)) (fun x => by simpa using setB_all x ⟨k, hk⟩ ⟨j, hj⟩) x
  cases on
  · rw [h.2]
    by_cases e : j = k <;> simp [e]
  · rw [h.1]
    by_cases e : j = k <;> simp [e]

/-- With a key, or without. -/
def setM (X : Mk) (n : Nat) (on : Bool) : Mk := X.set (n / 8) (setB (X.at (n / 8)) (n % 8) on)
theorem has_setM (X : Mk) {n c : Nat} (hn : n < 256) (on : Bool) : has (setM X n on) c = if c = n then on else has X c := by
  unfold setM has
  rw [at_set _ (by omega)]
  by_cases h : c / 8 = n / 8
  · rw [if_pos h, tb_setB _ (by omega) (by omega), h]
    by_cases e : c = n
    · subst e; simp
    · rw [if_neg (by omega), if_neg e]
  · rw [if_neg h, if_neg (by intro e; subst e; exact h rfl)]

/-- Is a key among these? -/
def memB (l : List UInt8) (c : Nat) : Bool := l.any fun u => u.toNat == c
theorem memB_nil (c : Nat) : memB [] c = false := rfl
theorem memB_append (l m : List UInt8) (c : Nat) : memB (l ++ m) c = (memB l c || memB m c) := by simp [memB]
theorem memB_reverse (l : List UInt8) (c : Nat) : memB l.reverse c = memB l c := by simp [memB]
theorem memB_one (u : UInt8) (c : Nat) : memB [u] c = (u.toNat == c) := by simp [memB]

/-- The mask of keys. -/
def ofM (l : List UInt8) : Mk := l.foldl (fun X u => setM X u.toNat true) zM
theorem ofM_snoc (l : List UInt8) (u : UInt8) : ofM (l ++ [u]) = setM (ofM l) u.toNat true := by simp [ofM]
theorem has_ofM {l : List UInt8} {c : Nat} (hc : c < 256) : has (ofM l) c = memB l c := by
  suffices h : ∀ (l : List UInt8) (X : Mk), has (l.foldl (fun X u => setM X u.toNat true) X) c = (has X c || memB l c) by
    rw [ofM, h, has_zM, Bool.false_or]
  intro l
  induction l with
  | nil => intro X; simp [memB]
  | cons u l ih =>
    intro X
    rw [List.foldl_cons, ih, has_setM X (UInt8.toNat_lt u)]
    show _ = (has X c || ((u.toNat == c) || memB l c))
    by_cases e : c = u.toNat
    · subst e; simp
    · rw [if_neg e, show (u.toNat == c) = false by simpa using fun h => e h.symm, Bool.false_or]
theorem ofM_take {l : List UInt8} {k : Nat} (h : k < l.length) : ofM (l.take (k + 1)) = setM (ofM (l.take k)) l[k].toNat true := by
  rw [List.take_succ_eq_append_getElem h, ofM_snoc]

/-- Masks are the same just if they have the same keys. -/
theorem ofM_eq {l m : List UInt8} (h : ∀ c, memB l c = memB m c) : ofM l = ofM m := has_ext fun c hc => by rw [has_ofM hc, has_ofM hc, h]

/-- An octet of a row of bools, up to k. -/
def acc (f : Nat → Bool) (b : Nat) : Nat → UInt8
  | 0 => 0
  | k + 1 => 2 * acc f b k + (if f (b + k) then 1 else 0)
theorem acc_all : ∀ (b0 b1 b2 b3 b4 b5 b6 b7 : Bool) (j : Fin 8), tb (acc (fun n => [b0, b1, b2, b3, b4, b5, b6, b7].getD n false) 0 8) j.1 = [b0, b1, b2, b3, b4, b5, b6, b7].getD j.1 false := by decide +kernel
theorem acc_congr {f g : Nat → Bool} {b a : Nat} : ∀ {k : Nat}, (∀ i, i < k → f (b + i) = g (a + i)) → acc f b k = acc g a k
  | 0, _ => rfl
  | k + 1, h => by
    unfold acc
    rw [acc_congr fun i hi => h i (by omega), h k (by omega)]
theorem tb_acc (f : Nat → Bool) (b : Nat) {j : Nat} (hj : j < 8) : tb (acc f b 8) j = f (b + j) := by
  have h := acc_all (f b) (f (b + 1)) (f (b + 2)) (f (b + 3)) (f (b + 4)) (f (b + 5)) (f (b + 6)) (f (b + 7)) ⟨j, hj⟩
  have e : ∀ i, i < 8 → f (b + i) = [f b, f (b + 1), f (b + 2), f (b + 3), f (b + 4), f (b + 5), f (b + 6), f (b + 7)].getD i false := by
    intro i hi
    match i, hi with
    | 0, _ => rfl
    | 1, _ => rfl
    | 2, _ => rfl
    | 3, _ => rfl
    | 4, _ => rfl
    | 5, _ => rfl
    | 6, _ => rfl
    | 7, _ => rfl
  rw [e j hj, ← h]
  rfl

/-- The mask of a row of bools, of its first c. -/
def partM (f : Nat → Bool) (c : Nat) : Mk := ⟨(List.range 32).map fun i => acc f (8 * i) (min 8 (c - 8 * i)), by simp⟩
theorem partM_at (f : Nat → Bool) (c : Nat) {i : Nat} (hi : i < 32) : (partM f c).at i = acc f (8 * i) (min 8 (c - 8 * i)) := by
  unfold Mk.at partM
  rw [List.getD_eq_getElem?_getD, List.getElem?_map, List.getElem?_range hi]
  rfl
theorem partM_zero (f : Nat → Bool) : partM f 0 = zM := Mk.ext_at fun i hi => by rw [partM_at f 0 hi, zM_at]; simp [acc]
def maskOf (f : Nat → Bool) : Mk := partM f 256
theorem has_maskOf (f : Nat → Bool) {c : Nat} (hc : c < 256) : has (maskOf f) c = f c := by
  unfold has maskOf
  rw [partM_at f 256 (by omega), show min 8 (256 - 8 * (c / 8)) = 8 by omega, tb_acc f _ (by omega), show 8 * (c / 8) + c % 8 = c by omega]
theorem partM_next (f : Nat → Bool) {c : Nat} (hc : c < 256) : (partM f c).set (c / 8) (2 * (partM f c).at (c / 8) + (if f c then 1 else 0)) = partM f (c + 1) := by
  refine Mk.ext_at fun i hi => ?_
  rw [at_set _ (by omega), partM_at f (c + 1) hi]
  by_cases e : i = c / 8
  · subst e
    rw [if_pos rfl, partM_at f c hi, show min 8 (c - 8 * (c / 8)) = c % 8 by omega, show min 8 (c + 1 - 8 * (c / 8)) = c % 8 + 1 by omega]
    rw [acc, show 8 * (c / 8) + c % 8 = c by omega]
  · rw [if_neg e, partM_at f c hi]
    congr 1
    omega

/-- A row of 256 bools: its cells. -/
def rb (f : Nat → Bool) : List Value := (List.range 256).map fun i => .bool (f i)
abbrev rv (f : Nat → Bool) : Value := .agg (rb f).toArray
theorem rb_len (f : Nat → Bool) : (rb f).length = 256 := by simp [rb]
theorem rb_at (f : Nat → Bool) {i : Nat} (h : i < 256) : (rb f)[i]? = some (.bool (f i)) := by
  unfold rb
  rw [List.getElem?_map, List.getElem?_range h]
  rfl
theorem rb_congr {f g : Nat → Bool} (h : ∀ i, i < 256 → f i = g i) : rb f = rb g := by
  unfold rb
  exact List.map_congr_left fun i hi => by rw [h i (List.mem_range.1 hi)]
def fset (f : Nat → Bool) (i : Nat) (v : Bool) : Nat → Bool := fun j => if j = i then v else f j
theorem rb_set (f : Nat → Bool) (i : Nat) (v : Bool) : (rb f).set i (.bool v) = rb (fset f i v) := by
  apply List.ext_getElem?
  intro j
  by_cases hj : j < 256
  · rw [rb_at _ hj]
    by_cases e : j = i
    · subst e
      rw [List.getElem?_set_self (by rw [rb_len]; exact hj), fset, if_pos rfl]
    · rw [List.getElem?_set_ne (fun h => e h.symm), rb_at _ hj, fset, if_neg e]
  · rw [List.getElem?_eq_none (by rw [List.length_set, rb_len]; omega), List.getElem?_eq_none (by rw [rb_len]; omega)]
def zR : Nat → Bool := fun _ => false

theorem maskOf_has {X : Mk} {f : Nat → Bool} (h : ∀ c, c < 256 → f c = has X c) : maskOf f = X := has_ext fun c hc => by rw [has_maskOf f hc, h c hc]
theorem maskOf_fset (X : Mk) {n : Nat} (hn : n < 256) (on : Bool) : maskOf (fset (has X) n on) = setM X n on := maskOf_has fun c _ => by rw [has_setM X hn]; rfl
theorem maskOf_mem (l : List UInt8) : maskOf (memB l) = ofM l := maskOf_has fun c hc => by rw [has_ofM hc]
theorem fset_mem (l : List UInt8) (u : UInt8) : fset (memB l) u.toNat true = memB (l ++ [u]) := by
  funext c
  rw [memB_append, memB_one]
  unfold fset
  by_cases e : c = u.toNat
  · subst e; simp
  · rw [if_neg e, show (u.toNat == c) = false by simpa using fun h => e h.symm, Bool.or_false]

/-- Its keys below k; all of them. -/
def keysU (X : Mk) (k : Nat) : List UInt8 := ((List.range k).filter (has X)).map UInt8.ofNat
def keysM (X : Mk) : List UInt8 := keysU X 256
theorem keysU_zero (X : Mk) : keysU X 0 = [] := rfl
theorem keysU_yes (X : Mk) {k : Nat} (h : has X k = true) : keysU X (k + 1) = keysU X k ++ [UInt8.ofNat k] := by
  simp [keysU, List.range_succ, List.filter_append, h]
theorem keysU_no (X : Mk) {k : Nat} (h : has X k = false) : keysU X (k + 1) = keysU X k := by
  simp [keysU, List.range_succ, List.filter_append, h]
theorem keysU_len (X : Mk) (k : Nat) : (keysU X k).length ≤ k := by
  unfold keysU
  rw [List.length_map]
  exact Nat.le_trans (List.length_filter_le _ _) (by simp)
theorem memB_keys (X : Mk) {c : Nat} (hc : c < 256) : memB (keysM X) c = has X c := by
  rw [Bool.eq_iff_iff]
  unfold memB keysM keysU
  simp only [List.any_eq_true, List.mem_map, List.mem_filter, List.mem_range, beq_iff_eq]
  constructor
  · rintro ⟨u, ⟨n, ⟨hn, hh⟩, rfl⟩, e⟩
    rw [UInt8.toNat_ofNat', Nat.mod_eq_of_lt hn] at e
    rw [← e]; exact hh
  · intro hh
    exact ⟨UInt8.ofNat c, ⟨c, ⟨hc, hh⟩, rfl⟩, by rw [UInt8.toNat_ofNat', Nat.mod_eq_of_lt hc]⟩
theorem ofM_keys (X : Mk) : ofM (keysM X) = X := has_ext fun c hc => by rw [has_ofM hc, memB_keys X hc]

/-- How many octets there are but for those that are 0 at the end. -/
def tn (l : List UInt8) : Nat → Nat
  | 0 => 0
  | n + 1 => if l.getD n 0 = 0 then tn l n else n + 1
theorem tn_le (l : List UInt8) : ∀ n, tn l n ≤ n
  | 0 => Nat.le_refl _
  | n + 1 => by
    unfold tn
    split
    · have := tn_le l n; omega
    · omega
theorem tn_after (l : List UInt8) : ∀ {n j : Nat}, tn l n ≤ j → j < n → l.getD j 0 = 0
  | 0, _, _, h => by omega
  | n + 1, j, h, hj => by
    unfold tn at h
    split at h
    · rename_i e
      by_cases hjn : j = n
      · rw [hjn]; exact e
      · exact tn_after l h (by omega)
    · omega
theorem tn_last (l : List UInt8) : ∀ {n : Nat}, 0 < tn l n → l.getD (tn l n - 1) 0 ≠ 0
  | 0, h => by simp [tn] at h
  | n + 1, h => by
    unfold tn at h ⊢
    split
    · rename_i e
      rw [if_pos e] at h
      exact tn_last l h
    · rename_i e
      simpa using e
/-- A mask's octets, but for those that are 0 at its end. -/
def trimN (X : Mk) : Nat := tn X.l 32
def trimM (X : Mk) : List UInt8 := X.l.take (trimN X)
theorem trimN_le (X : Mk) : trimN X ≤ 32 := tn_le _ _
theorem trimM_len (X : Mk) : (trimM X).length = trimN X := by
  unfold trimM
  rw [List.length_take, X.h]
  have := trimN_le X
  omega

/-- The mask of octets. -/
def padM (b : List UInt8) : Mk := ⟨(b ++ zeros 32).take 32, by rw [List.length_take, List.length_append]; simp [zeros]⟩
theorem padM_at {b : List UInt8} (j : Nat) (hb : b.length ≤ 32) : (padM b).at j = b.getD j 0 := by
  unfold Mk.at padM zeros
  simp only [List.getD_eq_getElem?_getD, List.getElem?_take, List.getElem?_append, List.getElem?_replicate]
  by_cases h1 : j < b.length
  · rw [if_pos (by omega), if_pos h1]
  · rw [if_neg h1, List.getElem?_eq_none (by omega : b.length ≤ j)]
    split
    · split <;> rfl
    · rfl
theorem padM_eq {b : List UInt8} (hb : b.length ≤ 32) : (padM b).l = b ++ zeros (32 - b.length) := by
  unfold padM
  show (b ++ zeros 32).take 32 = _
  rw [List.take_append, List.take_of_length_le hb]
  unfold zeros
  rw [List.take_replicate, Nat.min_eq_left (by omega)]
theorem padM_trim (X : Mk) : padM (trimM X) = X := by
  refine Mk.ext_at fun i hi => ?_
  rw [padM_at i (by rw [trimM_len]; exact trimN_le X)]
  unfold trimM Mk.at
  simp only [List.getD_eq_getElem?_getD, List.getElem?_take]
  split
  · rfl
  · have := tn_after X.l (n := 32) (j := i) (by unfold trimN at *; omega) hi
    rw [List.getD_eq_getElem?_getD] at this
    rw [this]; rfl
theorem trimN_pad {b : List UInt8} (hb : b.length ≤ 32) : trimN (padM b) ≤ b.length := by
  rcases Nat.eq_zero_or_pos (trimN (padM b)) with h | h
  · omega
  · have h1 := tn_last (padM b).l (n := 32) h
    have h2 : (padM b).l.getD (trimN (padM b) - 1) 0 = b.getD (trimN (padM b) - 1) 0 := padM_at _ hb
    refine Nat.le_of_not_lt fun hlt => h1 ?_
    refine h2.trans ?_
    rw [List.getD_eq_getElem?_getD, List.getElem?_eq_none (by omega)]
    rfl
theorem trim_pad {b : List UInt8} (hb : b.length ≤ 32) : trimM (padM b) = b.take (trimN (padM b)) := by
  unfold trimM
  rw [padM_eq hb, List.take_append_of_le_length (trimN_pad hb)]
theorem pad_last {b : List UInt8} (hb : b.length ≤ 32) (h : 0 < trimN (padM b)) : b.getD (trimN (padM b) - 1) 0 ≠ 0 := by
  have h1 := tn_last (padM b).l (n := 32) h
  rw [← padM_at _ hb]
  exact h1
theorem pad_rest {b : List UInt8} (hb : b.length ≤ 32) {j : Nat} (h1 : trimN (padM b) ≤ j) (h2 : j < b.length) : b.getD j 0 = 0 := by
  rw [← padM_at _ hb]
  exact tn_after (padM b).l h1 (by omega)

/-- How many bits an octet has; how many the first i octets have. -/
def popF : Nat → Nat → Nat
  | 0, _ => 0
  | m + 1, x => x % 2 + popF m (x / 2)
theorem popF_zero : ∀ m, popF m 0 = 0
  | 0 => rfl
  | m + 1 => by simp [popF, popF_zero m]
def cnt (X : Mk) : Nat → Nat
  | 0 => 0
  | i + 1 => cnt X i + popF 8 (X.at i).toNat
theorem pop_all : ∀ x : Fin 256, popF 8 (UInt8.ofNat x.1).toNat = ((List.range 8).filter (tb (UInt8.ofNat x.1))).length := by decide +kernel
theorem pop_eq (u : UInt8) : popF 8 u.toNat = ((List.range 8).filter (tb u)).length := allU (p := fun u => popF 8 u.toNat = ((List.range 8).filter (tb u)).length) pop_all u
theorem cnt_eq (X : Mk) : ∀ i, ((List.range (8 * i)).filter (has X)).length = cnt X i
  | 0 => rfl
  | i + 1 => by
    rw [Nat.mul_add, Nat.mul_one, List.range_add, List.filter_append, List.length_append, cnt_eq X i, List.filter_map, List.length_map, cnt, pop_eq]
    congr 2
    refine List.filter_congr fun k hk => ?_
    have := List.mem_range.1 hk
    show has X (8 * i + k) = _
    unfold has
    rw [show (8 * i + k) / 8 = i by omega, show (8 * i + k) % 8 = k by omega]
theorem keys_cnt (X : Mk) : (keysM X).length = cnt X 32 := by
  rw [← cnt_eq X 32]
  unfold keysM keysU
  rw [List.length_map]

theorem keys_sorted (X : Mk) : ((keysM X).map UInt8.toNat).Pairwise (· < ·) := by
  have e : (keysM X).map UInt8.toNat = (List.range 256).filter (has X) := by
    unfold keysM keysU
    rw [List.map_map]
    conv => rhs; rw [← List.map_id ((List.range 256).filter (has X))]
    refine List.map_congr_left fun n hn => ?_
    have := List.mem_range.1 (List.mem_filter.1 hn).1
    simp only [Function.comp, id_eq, UInt8.toNat_ofNat']
    omega
  rw [e]
  exact List.Pairwise.filter _ List.pairwise_lt_range
theorem keys_rise (X : Mk) {i : Nat} (h : i + 1 < (keysM X).length) : (keysM X)[i].toNat < (keysM X)[i + 1].toNat := by
  have := List.pairwise_iff_getElem.1 (keys_sorted X) i (i + 1) (by rw [List.length_map]; omega) (by rw [List.length_map]; omega) (by omega)
  simpa using this
theorem keys_has (X : Mk) {i : Nat} (h : i < (keysM X).length) : has X (keysM X)[i].toNat = true := by
  rw [← memB_keys X (UInt8.toNat_lt _)]
  unfold memB
  rw [List.any_eq_true]
  exact ⟨_, List.getElem_mem h, by simp⟩
theorem keys_none (X : Mk) : trimN X = 0 ↔ (keysM X).length = 0 := by
  constructor
  · intro h
    have hz : X = zM := Mk.ext_at fun i hi => by
      rw [zM_at]
      exact tn_after X.l (n := 32) (by unfold trimN at h; omega) hi
    subst hz
    unfold keysM keysU
    rw [List.length_map, List.length_eq_zero_iff, List.filter_eq_nil_iff]
    intro a _
    simp [has_zM]
  · intro h
    have hk := List.length_eq_zero_iff.1 h
    have hz : X = zM := by
      rw [← ofM_keys X, hk]
      rfl
    subst hz
    rfl

end Go.Proofs.Ytflmplnampgflaa
