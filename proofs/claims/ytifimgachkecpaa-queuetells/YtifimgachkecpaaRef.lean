/-
  Contracts over the document's answer for layer 1: Put and Take, octet by octet.
-/
import Derived.Test.YtifimgachkecpaaParts
import Derived.Deep.RegionLaw
namespace Go.Proofs.Ytifimgachkecpaa
open Go.RowKit

theorem Own.setOther {w : World} {base b : Nat} {v : Value} {l : List UInt8} (h : Own w base v l) (hb : v.ownBlock ≠ some b) (u u' : Value) : Own ((w.setCell ⟨b, 0, none⟩ u).setCell ⟨b, 1, none⟩ u') base v l :=
  h.kept (row := some b) ⟨rfl, rfl, rfl, by simp [World.setCell], fun k _ hk => (Below.heap_setCell _ ⟨b, 1, none⟩ _ k (fun e => hk (by rw [e]))).trans (Below.heap_setCell _ ⟨b, 0, none⟩ _ k (fun e => hk (by rw [e])))⟩ (.inr hb)
theorem Own.setOne {w : World} {base b i : Nat} {v : Value} {l : List UInt8} (h : Own w base v l) (hb : v.ownBlock ≠ some b) (u : Value) : Own (w.setCell ⟨b, i, none⟩ u) base v l :=
  h.kept (row := some b) ⟨rfl, rfl, rfl, by simp [World.setCell], fun k _ hk => Below.heap_setCell _ ⟨b, i, none⟩ _ k (fun e => hk (by rw [e]))⟩ (.inr hb)
theorem QR.store1 {W : World} {b : Nat} {x y : Value} (h : QR W b x y) (v : Value) : QR (W.setCell ⟨b, 1, none⟩ v) b x v := row_set W b 1 v _ 24 h

theorem Rd.form {w : World} {B : Nat} {A : Option Addr} {l : List UInt8} {c k : Nat} (h : Rd w B A l c) (hk : k < l.length) :
    ∃ b off, A = some ⟨b, off, none⟩ ∧ b < B ∧ w.cell? ⟨b, off + k, none⟩ = some (.int .u8 (l[k].toNat : Int)) := by
  obtain ⟨ad, rfl, hb⟩ := h.2.2.1 (by rintro rfl; simp at hk)
  obtain ⟨b, off, spot⟩ := ad
  have hc := h.2.2.2 _ rfl k l[k] (List.getElem?_eq_getElem hk)
  have h00 : 0 < l.length := by omega
  have hc0 := h.2.2.2 _ rfl 0 l[0] (List.getElem?_eq_getElem h00)
  have hs : spot = none := by
    have := World.cell?_spot hc0
    simpa [Addr.add] using this
  subst hs
  rw [Addr.add_lit] at hc
  exact ⟨b, off, rfl, hb, hc⟩

theorem one_rdb (w : World) (u : UInt8) : Rd (w.alloc (.cells #[.int .u8 (u.toNat : Int)] 5)) (w.heap.size + 1) (some ⟨w.heap.size, 0, none⟩) [u] 1 := by
  have hb : Bk (w.alloc (.cells #[.int .u8 (u.toNat : Int)] 5)) w.heap.size [u] := heap_alloc_new w _
  exact hb.rd (by omega) (by simp) (by unfold maxLen; omega)

theorem ref_app {V wr wb : World} {b6 : Nat} {vk vb x : Value} {L : List UInt8} {o : Obj} (J1 : QR wr b6 x vk) (J2 : Own wr V.heap.size vk L) (J3 : vk.ownBlock ≠ some b6) (J4 : Below V.heap.size V wr)
    (hg : (wr.alloc o).drew.grownBy wb vk.ownBlock) (hat : vb.ownBlock = vk.ownBlock ∨ vb.ownBlock = some (wr.alloc o).drew.heap.size) : QR wb b6 x vk ∧ vb.ownBlock ≠ some b6 ∧ Below V.heap.size V wb := by
  have hlt := J1.lt
  have hsz : (wr.alloc o).drew.heap.size = wr.heap.size + 1 := by show (wr.alloc o).heap.size = _; simp
  refine ⟨(hg.block b6 (by omega) (fun e => J3 e.symm)).trans (row_alloc J1), ?_, app_below ((bAlloc J4 _).drew) (J2.alloc _).drew hg⟩
  rcases hat with e | e
  · rw [e]; exact J3
  · rw [e, hsz]; intro e2; injection e2 with e2; omega

theorem Own.setLow {w : World} {base : Nat} {v : Value} {l : List UInt8} (h : Own w base v l) {b : Nat} (hb : b < base) (u u' : Value) : Own ((w.setCell ⟨b, 0, none⟩ u).setCell ⟨b, 1, none⟩ u') base v l :=
  ownsRow_setCell_below (a := ⟨b, 1, none⟩) (ownsRow_setCell_below (a := ⟨b, 0, none⟩) h hb u) hb u'
theorem Own.rdOf {w : World} {base n c : Nat} {A : Option Addr} {l : List UInt8} (h : Own w base (.slice A n c) l) : Rd w w.heap.size A l c := by
  obtain ⟨A', c', e, hr⟩ := h.rd
  injection e with e1 e2 e3
  subst e1 e3
  exact hr

/-- The document's Put has answered: a queue whose octets lie in an owned row, and a number. -/
def GotRef (w : World) (room : Int) (l : List UInt8) (n : Int) (e : Ending) (w' : World) : Prop :=
  ∃ A c, e = .returned (.tuple #[.agg #[.int .i64 room, .slice A l.length c], .int .i64 n]) ∧ Rd w' w'.heap.size A l c ∧ Below w.heap.size w w'

set_option maxRecDepth 100000 in
set_option maxHeartbeats 1000000 in
theorem refPut (cap : Int) (A A' : Option Addr) (l l' : List UInt8) (n n' c c' : Nat) (w : World) (hn : n = l.length) (hn' : n' = l'.length) (h : May cap l.length) (hr : Rd w w.heap.size A l c) (hr' : Rd w w.heap.size A' l' c') (hl : n ≤ 1000) (hl' : n' ≤ 1000) :
    Calls Try.prog 19 #[.agg #[.int .i64 cap, .slice A n c], .slice A' n' c'] w
      (GotRef w cap (l ++ l'.take (min l'.length (cap.toNat - l.length))) ((min l'.length (cap.toNat - l.length) : Nat) : Int)) := by
  have HN := keepd hn
  have HN' := keepd hn'
  have HR := keepd hr
  have HR' := keepd hr'
  have b1 : n' ≤ c' := by have := hr'.1; omega
  have b2 : c' ≤ maxLen := hr'.2.1
  obtain ⟨m1, m2, m3⟩ := h
  rw [← hn] at m3
  unfold maxLen at b2
  clear hr hr' hn hn'
  go_enter Try.func19, Try.ntmps19
  go_wp2_with fail
  have HX0 := keepd ((QR.new w (.int .i64 cap) (.slice A n c)).alloc (.cells #[.int .i64 0, .slice none 0 0] 24))
  have HX4 : Hid (QR ((w.alloc (.cells #[.int .i64 cap, .slice A n c] 24)).alloc (.cells #[.int .i64 0, .slice none 0 0] 24)) (w.heap.size + 1) (.int .i64 0) (.slice none 0 0)) := n3 w _ _
  have s0 := bAlloc (bAlloc (Below.refl w.heap.size w) (.cells #[.int .i64 cap, .slice A n c] 24)) (.cells #[.int .i64 0, .slice none 0 0] 24)
  have HR0 := keepd (HR.out.at_ s0)
  have HR0' := keepd (HR'.out.at_ s0)
  generalize (w.alloc (.cells #[.int .i64 cap, .slice A n c] 24)).alloc (.cells #[.int .i64 0, .slice none 0 0] 24) = V at *
  have x0 := HX0.out.lt
  have K0 := keepd HX0.out.facts.1
  have K1 := keepd HX0.out.facts.2.1
  go_cut [6] (fun s6 wx => ∃ b6 : Nat, ∃ va : Value, s6 = .pointer (some ⟨b6, 0, none⟩) ∧ Hid (QR wx b6 (.int .i64 cap) va) ∧ Hid (Own wx V.heap.size va l) ∧ Hid (va.ownBlock ≠ some b6) ∧ Hid (V.heap.size ≤ b6) ∧ Hid (Below V.heap.size V wx))
  case first =>
    go_region_held3 (fun W => W.cell? ⟨w.heap.size, 0, none⟩ = some (.int .i64 cap) ∧ W.cell? ⟨w.heap.size, 1, none⟩ = some (.slice A n c) ∧ Below V.heap.size V W)
      ((refine sOf2 K0.out K1.out x0 ?_; repeat (first | assumption | exact Below.refl _ _ | with_reducible refine bSet ?_ ?_ _ | with_reducible refine bAlloc ?_ _ | with_reducible refine Below.drew ?_ | omega)))
      (first | (refine step_app _ rfl (.tmp 10) (.tmp 12) rfl V.heap.size _ [] rfl ?_ V.heap.size A n c l rfl HN.out ?_ ?_ ?_ ?_; (first | exact (empty_own V _ (Nat.le_refl _)).drew | exact empty_ii V _ | exact empty_iii V _); (focus (refine HR0.out.below ?_ (Nat.le_refl _); repeat (first | assumption | exact Below.refl _ _ | with_reducible refine bSet ?_ ?_ _ | with_reducible refine bAlloc ?_ _ | with_reducible refine Below.drew ?_ | omega))); (rw [← HN.out]; simp; omega); (first | omega | (focus (simp; omega)) | (focus simp)); intro va wa ho hg hat; (first | have hba := app_below ((bAlloc (Below.refl V.heap.size V) _).drew) (empty_own V _ (Nat.le_refl _)).drew hg | have hba := app_below ((bAlloc (bAlloc (Below.refl V.heap.size V) _) _).drew) (empty_ii V _) hg | have hba := app_below ((bAlloc (bAlloc (Below.refl V.heap.size V) _) _).drew) (empty_iii V _) hg); (first | have HZ := keepd (ZA.app (ZA.ii V) hg hat) | have HZ := keepd (ZA.app (ZA.iii V) hg hat) | skip); (try have zf := HZ.out.1.facts); (try have zl := HZ.out.1.lt); rw [List.nil_append] at ho; have HOa := keepd ho; have lba := hba.size; clear ho hg hat; obtain ⟨Av, cv, hv, hrdv⟩ := HOa.out.rd; rw [← HN.out] at hv; subst hv))
    all_goals go_wp2_with fail
    all_goals go_meet
    all_goals first
      | exact ⟨_, _, rfl, QR.new wa _ _, HOa.out.alloc _, (fun e => by have := (HOa.out.ge _ e).2; omega), lba, bAlloc hba _⟩
      | exact ⟨_, _, rfl, HZ.out.1.store _ _, HOa.out.setOther HZ.out.2 _ _, HZ.out.2, Nat.le_refl _, set2_below hba (Nat.le_refl _) _ _⟩
      | exact ⟨_, _, rfl, HZ.out.1.store _ _, HOa.out.setOther HZ.out.2 _ _, HZ.out.2, Nat.le_succ _, set2_below hba (Nat.le_succ _) _ _⟩
  case rest =>
    obtain ⟨b6, va, rfl, H1, H2, H3, H4, H5⟩ := hcut
    obtain ⟨m, hm⟩ : ∃ m, min n' (cap.toNat - n) = m := ⟨_, rfl⟩
    have mm1 : m ≤ n' := by omega
    have mm2 : n + m ≤ cap.toNat := by omega
    have mm3 : n' ≤ m ∨ cap.toNat ≤ n + m := by omega
    have HM3 := keepd mm3
    have HFin : Hid (l'.take (min l'.length (cap.toNat - l.length)) = l'.take m ∧ min l'.length (cap.toNat - l.length) = m) := by show _ ∧ _; rw [← HN.out, ← HN'.out, hm]; exact ⟨rfl, rfl⟩
    clear hm mm3
    go_wp2_with fail
    go_loopw [7] (fun i wr => ∃ (k : Nat) (vk : Value), k ≤ m ∧ i = .int .i64 k ∧ Hid (QR wr b6 (.int .i64 cap) vk) ∧ Hid (Own wr V.heap.size vk (l ++ l'.take k)) ∧ Hid (vk.ownBlock ≠ some b6) ∧ Hid (Below V.heap.size V wr))
      (fun i _ => m - (intOf i).toNat)
    case atStart => exact ⟨0, va, by omega, rfl, H1, by show Own _ _ _ _; simpa using H2.out, H3, H5⟩
    case round =>
      obtain ⟨k, vk, hkm, rfl, J1, J2, J3, J4⟩ := hrel
      obtain ⟨Av, cv, hv, hrv⟩ := J2.out.rd
      have HLk : Hid ((l ++ l'.take k).length = n + k) := by show _ = _; rw [List.length_append, List.length_take, ← HN.out, ← HN'.out]; omega
      rw [HLk.out] at hv
      subst hv
      have f1 := J1.out.facts
      have x1 := J1.out.lt
      have q1 := (HX0.out.call J4.out x0).facts
      have x2 := J4.out.size
      by_cases hlt : k < m
      · have g1 : decide (k < n') = true := by simp; omega
        have g2 : decide ((n : Int) + (k : Int) < cap) = true := by simp; omega
        have hkl : k < l'.length := by rw [← HN'.out]; omega
        obtain ⟨b', off', hA', hbl, hce⟩ := (HR0'.out.at_ J4.out).form hkl
        subst hA'
        obtain ⟨u, hu⟩ : ∃ u, l'[k] = u := ⟨_, rfl⟩
        rw [hu] at hce
        have HU : Hid (l'.take (k + 1) = l'.take k ++ [u]) := by show _ = _; rw [List.take_succ_eq_append_getElem hkl, hu]
        have HLk1 : Hid ((l ++ l'.take k ++ [u]).length = n + k + 1) := by show _ = _; rw [List.length_append, HLk.out]; rfl
        have i1 : (0 : Int) ≤ (k : Int) := by omega
        have i2 : (k : Int) < (n' : Int) := by omega
        clear hu
        go_wp2_with fail
        go_region_law (first | (refine step_app _ rfl (.tmp 28) (.tmp 33) rfl V.heap.size _ (l ++ l'.take k) rfl ?_ (wr.heap.size + 1) (some ⟨wr.heap.size, 0, none⟩) 1 1 [u] rfl rfl ?_ ?_ ?_ ?_; (exact (J2.out.alloc _).drew); (exact (one_rdb wr u).drew); (rw [HLk.out]; simp; omega); (first | omega | (focus (simp; omega)) | (focus simp)); intro vb wb ho hg hat; obtain ⟨r1, r2, r3⟩ := ref_app J1.out J2.out J3.out J4.out hg hat; have fb := r1.facts; have HOb := keepd ho; have R1 := keepd r1; have R2 := keepd r2; have R3 := keepd r3; clear ho hg hat r1 r2 r3; obtain ⟨Bv, dv, hv2, hrv2⟩ := HOb.out.rd; rw [HLk1.out] at hv2; subst hv2))
        all_goals
          go_wp2_with fail
          go_roundw
          case rel => exact ⟨k + 1, _, by omega, by go_num, R1.out.store1 _, (by show Own _ _ _ _; rw [HU.out, ← List.append_assoc]; exact HOb.out.setOne R2.out _), R2, R3.out.setCell (by exact H4.out) _⟩
          case measure => simp [intOf]; omega
      · obtain rfl : m = k := by omega
        have t4 := HX4.out.call J4.out HX4.out.lt
        have ft := t4.facts
        have xt := t4.lt
        have HT4 := keepd t4
        have hne4 : b6 ≠ w.heap.size + 1 := by have := H4.out; have := HX4.out.lt; omega
        have HJR := keepd hrv
        have s0s := s0.size
        have hor : (decide (m < n') = false) ∨ (decide (m < n') = true ∧ decide ((n : Int) + (m : Int) < cap) = false) := by
          rcases HM3.out with h | h
          · exact .inl (by simp; omega)
          · by_cases h2 : m < n'
            · exact .inr ⟨by simpa using h2, by simp; omega⟩
            · exact .inl (by simpa using h2)
        clear hrv t4
        rcases hor with hor | ⟨hor, hor2⟩
        all_goals
          go_wp2
          refine bodyPost_ret (v := .tuple #[.agg #[.int .i64 cap, .slice Av (n + m) cv], .int .i64 m]) (by simp [results, Try.results19, go_sem, ft]) rfl ?_
          refine ⟨Av, cv, ?_, ?_, ?_⟩
          · rw [HFin.out.1, HFin.out.2, HLk.out]
          · rw [HFin.out.1]
            exact ((J2.out.setLow (b := w.heap.size + 1) HX4.out.lt _ _).rdOf)
          · exact set2_below (bCall s0 J4.out) (by omega) _ _

/-- The length in a slot: for a loop's measure. -/
def lenOfV : Value → Nat | .slice _ n _ => n | _ => 0

/-- The document's Take has answered: a queue and octets. -/
def GotRefT (w : World) (room : Int) (l out : List UInt8) (e : Ending) (w' : World) : Prop :=
  ∃ A c A' c', e = .returned (.tuple #[.agg #[.int .i64 room, .slice A l.length c], .slice A' out.length c']) ∧ Rd w' w'.heap.size A l c ∧ Rd w' w'.heap.size A' out c' ∧ Below w.heap.size w w'

set_option maxRecDepth 100000 in
set_option maxHeartbeats 1000000 in
theorem refTake (cap N : Int) (A : Option Addr) (l : List UInt8) (n c kk : Nat) (w : World) (hn : n = l.length) (hk : (kk : Int) = max 0 (min N l.length)) (hr : Rd w w.heap.size A l c) (hl : n ≤ 1000) :
    Calls Try.prog 20 #[.agg #[.int .i64 cap, .slice A n c], .int .i64 N] w (GotRefT w cap (l.drop kk) (l.take kk)) := by
  have HN := keepd hn
  have HR := keepd hr
  have b1 : n ≤ c := by have := hr.1; omega
  have b2 : c ≤ maxLen := hr.2.1
  have k1 : kk ≤ n := by omega
  have HK : Hid ((kk : Int) = max 0 (min N (n : Int))) := by show _ = _; rw [hn]; exact hk
  unfold maxLen at b2
  clear hr hn hk
  go_enter Try.func20, Try.ntmps20
  go_wp2_with fail
  have HX0 := keepd ((QR.new w (.int .i64 cap) (.slice A n c)).alloc (.cells #[.int .i64 0, .slice none 0 0] 24))
  have HX4 : Hid (QR ((w.alloc (.cells #[.int .i64 cap, .slice A n c] 24)).alloc (.cells #[.int .i64 0, .slice none 0 0] 24)) (w.heap.size + 1) (.int .i64 0) (.slice none 0 0)) := n3 w _ _
  have s0 := bAlloc (bAlloc (Below.refl w.heap.size w) (.cells #[.int .i64 cap, .slice A n c] 24)) (.cells #[.int .i64 0, .slice none 0 0] 24)
  have HR0 := keepd (HR.out.at_ s0)
  generalize (w.alloc (.cells #[.int .i64 cap, .slice A n c] 24)).alloc (.cells #[.int .i64 0, .slice none 0 0] 24) = V at *
  have x0 := HX0.out.lt
  go_loopw [6] (fun vo wr => ∃ k : Nat, k ≤ kk ∧ ∃ Av cv, vo = .slice Av k cv ∧ Hid (Own wr V.heap.size vo (l.take k)) ∧ Hid (Below V.heap.size V wr))
    (fun vo _ => kk - lenOfV vo)
  case atStart => exact ⟨0, by omega, none, 0, rfl, Own.nil _ _, Below.refl _ _⟩
  case round =>
    obtain ⟨k, hkk, Av, cv, rfl, J2, J4⟩ := hrel
    have q1 := (HX0.out.call J4.out x0).facts
    have x2 := J4.out.size
    have HLk : Hid ((l.take k).length = k) := by show _ = _; rw [List.length_take, ← HN.out]; omega
    by_cases hlt : k < kk
    · have g1 : decide ((k : Int) < N) = true := by simp; have := HK.out; omega
      have g2 : decide (k < n) = true := by simp; omega
      have hkl : k < l.length := by rw [← HN.out]; omega
      obtain ⟨b', off', hA', hbl, hce⟩ := (HR0.out.at_ J4.out).form hkl
      subst hA'
      obtain ⟨u, hu⟩ : ∃ u, l[k] = u := ⟨_, rfl⟩
      rw [hu] at hce
      have HU : Hid (l.take (k + 1) = l.take k ++ [u]) := by show _ = _; rw [List.take_succ_eq_append_getElem hkl, hu]
      have HLk1 : Hid ((l.take k ++ [u]).length = k + 1) := by show _ = _; rw [List.length_append, HLk.out]; rfl
      have i1 : (0 : Int) ≤ (k : Int) := by omega
      have i2 : (k : Int) < (n : Int) := by omega
      clear hu
      go_wp2_with (at_builtin; refine wpList_app _ rfl (.tmp 19) (.tmp 26) rfl V.heap.size _ (l.take k) rfl (J2.out.alloc _) (wr.heap.size + 1) (some ⟨wr.heap.size, 0, none⟩) 1 1 [u] rfl rfl (one_rdb wr u) ?_ ?_ ?_)
      · rw [HLk.out]
        simp
        omega
      · simp
        omega
      · intro vb wb ho hg hat
        have hb5 := app_below (bAlloc J4.out _) (J2.out.alloc _) hg
        have HB5 := keepd hb5
        have HOb := keepd ho
        obtain ⟨Bv, dv, hv2, hrv2⟩ := HOb.out.rd
        rw [HLk1.out] at hv2
        subst hv2
        clear ho hg hat hb5 hrv2
        go_wp2
        go_roundw
        case rel => exact ⟨k + 1, by omega, Bv, dv, rfl, (by show Own _ _ _ _; rw [HU.out]; exact HOb.out), HB5⟩
        case measure => simp [lenOfV]; omega
    · obtain rfl : kk = k := by omega
      obtain ⟨A2, hA2⟩ : ∃ A2, A2 = (if c = kk then A else A.map (·.add kk)) := ⟨_, rfl⟩
      have hsl := slice_from A n c kk k1
      have hd := HR0.out.drop kk (by rw [← HN.out]; exact k1)
      rw [← hA2] at hsl hd
      have HD := keepd (hd.at_ J4.out)
      have HLd : Hid ((l.drop kk).length = n - kk) := by show _ = _; rw [List.length_drop, ← HN.out]
      have K0 := keepd q1.1
      have K1 := keepd q1.2.1
      have x3 : w.heap.size < wr.heap.size := by omega
      have y3 : w.heap.size + 1 < wr.heap.size := by have := HX4.out.lt; omega
      have HT := keepd (HX4.out.call J4.out HX4.out.lt)
      have s0s := s0.size
      clear hA2 hd hlt
      have hor : (decide ((kk : Int) < N) = false) ∨ (decide ((kk : Int) < N) = true ∧ decide (kk < n) = false) := by
        have h := HK.out
        by_cases h2 : (kk : Int) < N
        · exact .inr ⟨by simpa using h2, by simp; omega⟩
        · exact .inl (by simpa using h2)
      rcases hor with hor | ⟨hor, hor2⟩
      all_goals
        go_wp2_with fail
        go_region_held3 (fun W => W.cell? ⟨w.heap.size, 0, none⟩ = some (.int .i64 cap) ∧ W.cell? ⟨w.heap.size, 1, none⟩ = some (.slice A n c) ∧ Below (w.heap.size + 1) wr W)
          ((refine sOf K0.out K1.out ?_; repeat (first | assumption | exact Below.refl _ _ | with_reducible refine Below.setCell ?_ (Nat.le_refl (w.heap.size + 1)) _ | with_reducible refine bAl x3 ?_ _ | with_reducible refine Below.drew ?_)))
          (first | (refine step_app _ rfl (.tmp 30) (.tmp 35) rfl wr.heap.size _ [] rfl ?_ wr.heap.size A2 (n - kk) (c - kk) (l.drop kk) rfl HLd.out.symm ?_ ?_ ?_ ?_; (exact (empty_own wr _ (Nat.le_refl _)).drew); (focus (refine HD.out.below ?_ (Nat.le_refl _); repeat (first | assumption | exact Below.refl _ _ | with_reducible refine bSet ?_ ?_ _ | with_reducible refine bAlloc ?_ _ | with_reducible refine Below.drew ?_ | omega))); (rw [HLd.out]; simp; omega); (first | omega | (focus (simp; omega)) | (focus simp)); intro va wa ho hg hat; have hba := app_start hg; have hbs := hba.mono x3; rw [List.nil_append] at ho; have HOa := keepd ho; have lba := hba.size; clear ho hg hat; have HTa := keepd (HT.out.call hba y3); have ft := HTa.out.facts; obtain ⟨Bv, dv, hv, hrdv⟩ := HOa.out.rd; rw [HLd.out] at hv; subst hv))
        all_goals go_wp2_with fail
        all_goals refine bodyPost_ret (v := .tuple #[.agg #[.int .i64 cap, .slice Bv (n - kk) dv], .slice Av kk cv]) (by simp [results, Try.results20, go_sem, ft]) rfl ?_
        all_goals refine ⟨Bv, dv, Av, cv, by rw [HLd.out, HLk.out], ?_, ?_, ?_⟩
        · exact (HOa.out.setLow (b := w.heap.size + 1) y3 _ _).rdOf
        · exact ((J2.out.below hba).setLow (b := w.heap.size + 1) HX4.out.lt _ _).rdOf
        · exact set2_below (bCall (bCall s0 J4.out) hba) (by omega) _ _
end Go.Proofs.Ytifimgachkecpaa
