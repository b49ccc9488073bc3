/-
  EditorLines' walk. No conditions beyond those each theorem states.
-/
import Derived.Test.YtjhocmeenejjpaaDoorD4
namespace Go.Proofs.YtjhocmeenejjpaaDoor
open Go.RowKit
set_option maxRecDepth 100000

attribute [local go_sem ↓] ex_ld25 ex_st25 ex_al25 ex_bu25 ex_ix25 ex_eq25 ex_ne25 ex_eq23 ex_ne23 ex_ld25o ex_st65 ex_al65 ex_bu65 ex_bu65s ex_ld25d
attribute [local go_sem] ptrB_at okPtr_at aggC_at agg62 agg69 isC_at isT_at eqV_t eqV_c isRow_new isRow_new65 World.setRow_alloc_new ptr4_at okPtr4_at cutT_at isI_at isS_at bW_at bWs_at ptrD_at okPtrD_at cutD_at

theorem keyE_enter {X : Tb} {room : Int} {l : List UInt8} {t : Nat} {ov : Bool} {u : UInt8} (h : meanF X (u.toNat : Int) = 31) : keyE X room ⟨l, t, ov, false⟩ u = ⟨zE, [⟨1, 0, l⟩], 0⟩ := by
  unfold keyE
  simp only [Bool.false_eq_true, if_false, h]
  rfl
theorem keyE_plain {X : Tb} {l : List UInt8} {u : UInt8} (h : meanF X (u.toNat : Int) = 0) (hl : l.length < 4096) : keyE X 4096 ⟨l, l.length, false, false⟩ u = ⟨⟨l ++ [u], l.length + 1, false, false⟩, [], 0⟩ := by
  unfold keyE
  simp only [Bool.false_eq_true, if_false, h]
  show typE _ _ _ = _
  have e : tyL l l.length 4096 false u = some (l ++ [u], l.length + 1) := by
    unfold tyL
    rw [if_neg (by simp), if_neg (by omega)]
    simp
  unfold typE tyR
  simp only [e]
  rfl
/-- So far: the lines that ended, and what stands since. -/
def LinesI (X : Tb) (us : List UInt8) (i fr : Nat) (want : List Ev) : Prop := playE X 4096 ⟨⟨[], 0, false, false⟩, [], 0⟩ (us.take i) = ⟨⟨(us.take i).drop fr, i - fr, false, false⟩, want, 0⟩
theorem lines_len {us : List UInt8} {i fr : Nat} (h : i ≤ us.length) : ((us.take i).drop fr).length = i - fr := by simp; omega
theorem lines_go {X : Tb} {us : List UInt8} {i fr : Nat} {want : List Ev} (h : LinesI X us i fr want) (hi : i < us.length) (hs : i < 4096) (hf : fr ≤ i) (hm : meanF X (us[i].toNat : Int) = 0) : LinesI X us (i + 1) fr want := by
  unfold LinesI at h ⊢
  rw [playE_take hi, h]
  have e := lines_len (us := us) (fr := fr) (Nat.le_of_lt hi)
  have k := keyE_plain (X := X) (l := (us.take i).drop fr) hm (by omega)
  rw [e] at k
  simp only [k]
  rw [List.take_succ_eq_append_getElem hi, List.drop_append_of_le_length (by rw [List.length_take]; omega)]
  simp only [List.append_nil, Nat.add_zero]
  rw [show i + 1 - fr = i - fr + 1 by omega]
theorem lines_enter {X : Tb} {us : List UInt8} {i fr : Nat} {want : List Ev} (h : LinesI X us i fr want) (hi : i < us.length) (hm : meanF X (us[i].toNat : Int) = 31) : LinesI X us (i + 1) (i + 1) (want ++ [⟨1, 0, (us.take i).drop fr⟩]) := by
  unfold LinesI at h ⊢
  rw [playE_take hi, h]
  simp only [keyE_enter hm]
  rw [show (us.take (i + 1)).drop (i + 1) = [] from List.drop_of_length_le (by rw [List.length_take]; omega)]
  simp only [Nat.sub_self, zE]
theorem slice_lh (A : Option Addr) (n c l h : Nat) (h1 : l ≤ h) (h2 : h ≤ c) (W : World) :
    (Instr.sliceAt 26 (.slice A n c) (some (.int .i64 (l : Int))) (some (.int .i64 (h : Int))) none).run Tryd.prog W = .ok (.slice (if c = l then A else A.map (·.add l)) (h - l) (c - l)) W := by
  have hs : ∀ W : World, (sizeOf (Tryd.prog.elem 26)).run Tryd.prog W = .ok 1 W := fun W => by kernel_rfl
  rw [run_sliceAt_slice _ _ _ _ _ _ (by kernel_rfl), run_slice_lh _ _ _ _ _ (by kernel_rfl) _ _ _ _ (by omega) (by omega) (by omega), hs]
  simp [sliced, Result.andThen]
theorem TB.gr {V : World} {g : Nat} {X : Tb} (h : TB V g X) : (∀ x : Gr V, rowOf x.W g = (cs X).toArray) ∧ (∀ x : Gr V, isRow x.W 25 g 62 = true) :=
  ⟨fun x => (TB.facts (SR.call h x.h (SR.lt h))).1, fun x => (TB.facts (SR.call h x.h (SR.lt h))).2⟩
theorem st_gr {V : World} {g : Nat} {a b x y : Value} (h : SR 30 V g [a, b, x, y]) : (∀ q : Gr V, q.W.cell? ⟨g, 0, none⟩ = some a) ∧ (∀ q : Gr V, q.W.cell? ⟨g, 1, none⟩ = some b) ∧ (∀ q : Gr V, q.W.cell? ⟨g, 2, none⟩ = some x) ∧ (∀ q : Gr V, q.W.cell? ⟨g, 3, none⟩ = some y) :=
  ⟨fun q => (SR.call h q.h h.lt).cell 0, fun q => (SR.call h q.h h.lt).cell 1, fun q => (SR.call h q.h h.lt).cell 2, fun q => (SR.call h q.h h.lt).cell 3⟩

set_option maxHeartbeats 16000000 in
theorem lines_law (X : Tb) (K : Option Addr) (us0 : List UInt8) (c : Nat) (w : World) (hL : Laid w) (hr : Rd w w.heap.size K us0 c) :
    Calls Tryd.prog 8 #[tv X, .slice K us0.length c] w fun e w' => e = .returned (.bool true) ∧ Below w.heap.size w w' := by
  obtain ⟨k0, hk0⟩ : ∃ n, n = us0.length := ⟨_, rfl⟩
  rw [← hk0]
  have HLD := keepd hL
  obtain ⟨j, hj⟩ : ∃ m, (fewK us0).length = m := ⟨_, rfl⟩
  have CK := keepd fun W => keys_any K us0 k0 c j W hk0 (by rw [hk0]; exact hr.1) hj
  have HU : Hid (Rd w w.heap.size K (fewK us0) c) := hr.take 200
  have hj1 : j ≤ 200 := by rw [← hj]; exact fewK_le _
  have HJ := keepd hj
  clear hr hL hj hk0
  generalize fewK us0 = us at *
  have hjc : j ≤ c := by rw [← HJ.out]; exact HU.out.1
  have hcm := HU.out.2.1
  unfold maxLen at hcm
  go_enter Tryd.func8, Tryd.ntmps8
  go_upto_region 1 with fail
  generalize hV : w.alloc (.cells (cs X).toArray 25) = V
  obtain ⟨HT, HB⟩ := tab_new _ _ _ hV
  have HSZ : Hid (V.heap.size = w.heap.size + 1) := by rw [← hV]; exact World.size_alloc _ _
  clear hV
  go_wp2_with fail
  with_reducible refine (CK.out _).mono ?_
  rintro e w1 ⟨rfl, rfl⟩
  clear CK
  go_upto_region 5 with fail
  go_loopw [5, 6, 7] (fun v5 v6 v7 wr => ∃ (i fr : Nat) (v : Value) (L : List EvM), i ≤ j ∧ fr ≤ i ∧ v5 = v ∧ v6 = .int .i64 fr ∧ v7 = .int .i64 i ∧ Hid (OwnE wr w1.heap.size v L) ∧ Hid (∀ x ∈ L, Rd w w.heap.size x.A x.l x.c) ∧ Hid (L.length ≤ i) ∧ Hid (LinesI X us i fr (L.map EvM.abs)) ∧ Hid (TB wr w.heap.size X) ∧ Hid (Below w.heap.size w wr)) (fun _ _ v7 _ => j - (intOf v7).toNat)
  case atStart => exact ⟨0, 0, _, [], by omega, Nat.le_refl _, rfl, rfl, rfl, OwnE.nil _ _, fun x hx => by simp at hx, Nat.le_refl _, rfl, HT, HB⟩
  case round =>
    obtain ⟨i, fr, v, L, hi, hfr, rfl, rfl, rfl, HO, HX, HLI, HL, HTr, HBr⟩ := hrel
    obtain ⟨Bv, dv, hv⟩ := HO.out.form
    obtain ⟨mv, hmv⟩ : ∃ m, L.length = m := ⟨_, rfl⟩
    rw [hmv] at hv
    subst hv
    have HMV := keepd hmv
    clear hmv
    rcases Nat.lt_or_ge i j with hlt | hge
    case inr =>
      obtain rfl : i = j := by omega
      have z0 : ¬ (i : Int) < (i : Int) := by omega
      obtain ⟨q, hq⟩ : ∃ q, i - fr = q := ⟨_, rfl⟩
      obtain ⟨cc, hcc⟩ : ∃ cc, c - fr = cc := ⟨_, rfl⟩
      obtain ⟨AS, hAS⟩ : ∃ AS, (if c = fr then K else K.map (·.add fr)) = AS := ⟨_, rfl⟩
      have hsl := slice_from K i c fr hfr
      rw [hAS, hq, hcc] at hsl
      have HRS : Hid (Rd w w.heap.size AS (us.drop fr) cc) := by
        have := HU.out.drop fr (by rw [HJ.out]; omega)
        rw [hAS, hcc] at this
        exact this
      have HQ : Hid ((us.drop fr).length = q) := by
        show _ = _
        rw [List.length_drop, HJ.out]
        exact hq
      have hpl : playE X 4096 ⟨⟨[], 0, false, false⟩, [], 0⟩ us = ⟨⟨us.drop fr, q, false, false⟩, L.map EvM.abs, 0⟩ := by
        have := HL.out
        unfold LinesI at this
        rw [List.take_of_length_le (by rw [HJ.out]; omega), hq] at this
        exact this
      have HLM : Hid ((L.map EvM.abs).length = mv) := by show _ = _; rw [List.length_map]; exact HMV.out
      have CP : Hid (Calls Tryd.prog 11 #[tv X, .int .i64 4096, .agg #[.slice none 0 0, .int .i64 0, .bool false, .bool false], .slice K i c] wr (GotP wr (us.drop fr) q (q : Int) false false (L.map EvM.abs) mv 0)) := play_any X 4096 none [] 0 0 0 false false K us i c wr rfl (Rd.nil _ _) (Nat.le_refl _) (by omega) HJ.out.symm (HU.out.at_ HBr.out) (by omega) (us.drop fr) q q false false (L.map EvM.abs) mv 0 hpl HQ.out HLM.out
      have hsub : IntKind.i64.wrap (q : Int) = (q : Int) := by rw [IntKind.wrap_i64]; omega
      have hsub2 : (i : Int) - (fr : Int) = (q : Int) := by omega
      have HSB := keepd hsub
      have HSB2 := keepd hsub2
      have HQI := keepd hq
      obtain ⟨g0, g1⟩ := TB.facts HTr.out
      have HSL := keepd hsl
      clear hsl hpl hAS hcc hq hsub hsub2
      generalize us.drop fr = ev at *
      go_wp2_with fail
      with_reducible refine CP.out.mono ?_
      rintro e w2 ⟨A1, c1, B1, d1, L1, rfl, hl1, hm1, hr1, hre1, hb1⟩
      go_upto_region 14 with fail
      generalize hV : w2.alloc (.cells #[.slice A1 q c1, .int .i64 (q : Int), .bool false, .bool false] 30) = V3
      generalize hb9 : w2.heap.size = b9
      have HS9 : Hid (SR 30 V3 b9 [.slice A1 q c1, .int .i64 (q : Int), .bool false, .bool false]) := by rw [← hV, ← hb9]; exact heap_alloc_new w2 _
      have HBx : Hid (Below wr.heap.size wr V3) := by rw [← hV]; exact bAlloc hb1 _
      have HR1 : Hid (Rd V3 V3.heap.size A1 ev c1) := by rw [← hV]; exact hr1.at_ (bAlloc (Below.refl _ _) _)
      have HE1 : Hid (RdE V3 B1 L1 d1) := by rw [← hV]; exact hre1.at_ (bAlloc (Below.refl _ _) _)
      have HL1 := keepd (And.intro hl1 hm1)
      have HO3 : Hid (OwnE V3 w1.heap.size (.slice Bv mv dv) L) := HO.out.of_block fun g hg => HBx.out.block g (HO.out.ge g hg).2
      have HB3 := keepd (bCall HBr.out HBx.out)
      clear hV hb9 hl1 hm1 hr1 hre1 hb1 CP g0 g1 HTr
      obtain ⟨B4, d4, he4, hre4⟩ := HO3.out.rd fun x hx => (HX.out x hx).below HB3.out HB3.out.size
      rw [HMV.out] at he4
      injection he4 with e1 e2 e3
      subst e1 e3
      have CA := keepd fun y : Gr V3 => alike_any B1 Bv L1 L mv mv d1 dv true y.W HL1.out.2.symm HMV.out.symm (HE1.out.at_ y.h) (hre4.at_ y.h) (likeE_iff.2 HL1.out.1) (by have := HLI.out; have := HMV.out; omega)
      have CW := keepd fun y : Gr V3 => eawake_any y.W (HLD.out.below (bCall HB3.out y.h))
      have ee1 : ∀ y : Gr V3, (convert 26 9 (.slice A1 q c1)).run Tryd.prog y.W = .ok (.string ⟨ev.toArray⟩) y.W := fun y => by
        have := conv_str (HR1.out.at_ y.h)
        rw [HQ.out] at this
        exact this
      have ee2 : ∀ y : Gr V3, (convert 26 9 (.slice AS q cc)).run Tryd.prog y.W = .ok (.string ⟨ev.toArray⟩) y.W := fun y => by
        have := conv_str ((HRS.out.at_ (bCall HB3.out y.h)))
        rw [HQ.out] at this
        exact this
      obtain ⟨s0, s1, s2, s3⟩ := st_gr HS9.out
      have hsl : ∀ y : Gr V3, (Instr.sliceAt 26 (.slice K i c) (some (.int .i64 fr)) none none).run Tryd.prog y.W = .ok (.slice AS q cc) y.W := fun y => HSL.out y.W
      generalize (⟨ev.toArray⟩ : ByteArray) = sv at *
      have hsub := HSB.out
      have hsub2 := HSB2.out
      have hqq : ((q : Int) == (q : Int)) = true := by simp
      have hss : (decide (sv = sv)) = true := decide_eq_true rfl
      clear hre4
      go_wp2_with fail
      refine wp_region_gr (by kernel_rfl) (by kernel_rfl) ?_
      repeat
        refine wpQuiet_step (fun K hK => ?_)
        first
          | (refine gr_want (by rfl) ?_
             go_simp
             first
               | (refine hK _ ?_; clear hK K)
               | (apply Exists.intro
                  refine ⟨fun _ => ?_, hK _ ?_⟩
                  (first | (go_at_call 21; with_reducible exact Gr.call (CA.out _)) | (go_at_call 17; exact Gr.call (CW.out _)))
                  clear hK K))
          | (refine gr_skip (by rfl) ?_
             go_simp
             refine hK _ ?_
             clear hK K)
      refine wpQuiet_nil ?_
      intro y9
      have HBz := keepd (bCall HB3.out y9.h)
      go_wp2_with fail
      go_ret
      exact ⟨rfl, HBz.out⟩
    have z0 : (i : Int) < (j : Int) := by omega
    have z2 : (0 : Int) ≤ (i : Int) := by omega
    obtain ⟨ub, uo, hA2, hub⟩ := HU.out.addr (by rw [HJ.out]; omega)
    subst hA2
    have hiu : i < us.length := by rw [HJ.out]; exact hlt
    have q0 : ∀ x : Gr wr, x.W.cell? ⟨ub, uo + i, none⟩ = some (.int .u8 ((us.getD i 0).toNat : Int)) := fun x => ((HU.out.at_ HBr.out).at_ x.h).cellk (k := i) hiu
    have hv : us.getD i 0 = us[i] := getD_at hiu
    rw [hv] at q0
    have HGO := keepd (lines_go HL.out hiu (by omega) hfr)
    have HEN := keepd (lines_enter HL.out hiu)
    generalize us[i] = u at *
    obtain ⟨me, hme⟩ : ∃ me, meanF X (u.toNat : Int) = me := ⟨_, rfl⟩
    have CM := keepd fun x : Gr wr => meaning_any X (u.toNat : Int) me hme x.W
    rw [hme] at HGO HEN
    obtain ⟨g0, g1⟩ := TB.gr HTr.out
    clear hv hiu hme
    go_wp2_with fail
    refine wp_region_gr (by kernel_rfl) (by kernel_rfl) ?_
    repeat
      refine wpQuiet_step (fun K hK => ?_)
      first
        | (refine gr_want (by rfl) ?_
           go_simp
           first
             | (refine hK _ ?_; clear hK K)
             | (apply Exists.intro
                refine ⟨fun _ => ?_, hK _ ?_⟩
                (first | (go_at_call 25; exact Gr.call (CM.out _)))
                clear hK K))
        | (refine gr_skip (by rfl) ?_
           go_simp
           refine hK _ ?_
           clear hK K)
    refine wpQuiet_nil ?_
    intro y9
    obtain ⟨w7, hw7⟩ : ∃ w7, y9.W = w7 := ⟨_, rfl⟩
    have hb7 : Below wr.heap.size wr w7 := by rw [← hw7]; exact y9.h
    rw [hw7]
    clear hw7
    have HO7 : Hid (OwnE w7 w1.heap.size (.slice Bv mv dv) L) := HO.out.of_block fun g hg => hb7.block g (HO.out.ge g hg).2
    have HT7 := keepd (SR.call HTr.out hb7 (SR.lt HTr.out))
    have HB7 := keepd (bCall HBr.out hb7)
    clear hb7 HO HTr HBr CM g0 g1 q0
    by_cases m31 : me = 31
    · subst m31
      have HEN2 := keepd (HEN.out rfl)
      obtain ⟨AS, hAS⟩ : ∃ AS, (if c = fr then (some ⟨ub, uo, none⟩ : Option Addr) else (some ⟨ub, uo, none⟩ : Option Addr).map (·.add fr)) = AS := ⟨_, rfl⟩
      obtain ⟨q, hq⟩ : ∃ q, i - fr = q := ⟨_, rfl⟩
      obtain ⟨cc, hcc⟩ : ∃ cc, c - fr = cc := ⟨_, rfl⟩
      have hsl := slice_lh (some ⟨ub, uo, none⟩) j c fr i hfr (by omega)
      rw [hAS, hq, hcc] at hsl
      have HRS : Hid (Rd w w.heap.size AS ((us.take i).drop fr) cc) := by
        have := (HU.out.take i).drop fr (by rw [List.length_take, HJ.out]; omega)
        rw [hAS, hcc] at this
        exact this
      have HQ : Hid (((us.take i).drop fr).length = q) := by
        show _ = _
        rw [← hq]
        exact lines_len (by rw [HJ.out]; omega)
      generalize (us.take i).drop fr = ev at *
      have hqm : q ≤ 9223372036854775807 := by omega
      clear hAS hq hcc HEN HGO
      go_wp2_with (at_builtin; refine wpList_appE _ rfl (.tmp 28) (.tmp 34) rfl w1.heap.size (.slice Bv mv dv) L rfl (HO7.out.alloc _) (some ⟨w7.heap.size, 0, none⟩) 1 1 [⟨1, 0, AS, ev, cc⟩] rfl rfl (by have := one_rdE w7 ⟨1, 0, AS, ev, cc⟩ (HRS.out.below HB7.out HB7.out.size); rw [HQ.out] at this; exact this) ?_ ?_ ?_)
      · have := HLI.out
        simp only [List.length_cons, List.length_nil]
        omega
      · have h1 := HB7.out.size
        have h2 := HB.out.size
        have h3 := HSZ.out
        have h4 : w.heap.size < w7.heap.size := SR.lt HT7.out
        rw [World.size_alloc]
        omega
      intro v8 w8 ho hg hat
      have HO8 := keepd ho
      have HB78 : Hid (Below w1.heap.size w7 w8) := ((Below.refl _ _).alloc (by have := SR.lt HT7.out; have := HSZ.out; omega) _).trans (OwnE.belowE (HO7.out.alloc _) hg (by have := SR.lt HT7.out; have := HSZ.out; rw [World.size_alloc]; omega))
      have HT8 : Hid (TB w8 w.heap.size X) := (HB78.out.block _ (by have := HSZ.out; omega)).trans HT7.out
      have HB8 : Hid (Below w.heap.size w w8) := HB7.out.trans (HB78.out.mono (by have := HSZ.out; omega))
      have HX8 : Hid (∀ x ∈ L ++ [⟨1, 0, AS, ev, cc⟩], Rd w w.heap.size x.A x.l x.c) := fun x hx => by
        rcases List.mem_append.1 hx with hx | hx
        · exact HX.out x hx
        · have : x = ⟨1, 0, AS, ev, cc⟩ := by simpa using hx
          subst this
          exact HRS.out
      have HL8 : Hid ((L ++ [(⟨1, 0, AS, ev, cc⟩ : EvM)]).length ≤ i + 1) := by
        show _ ≤ _
        have := HLI.out
        rw [List.length_append, List.length_cons, List.length_nil]
        omega
      have HL9 : Hid (LinesI X us (i + 1) (i + 1) ((L ++ [(⟨1, 0, AS, ev, cc⟩ : EvM)]).map EvM.abs)) := by
        rw [List.map_append]
        exact HEN2.out
      clear ho hg hat hsl hqm
      generalize L ++ [(⟨1, 0, AS, ev, cc⟩ : EvM)] = L8 at *
      go_wp2_with fail
      go_roundw
      case rel => exact ⟨i + 1, i + 1, v8, L8, by omega, Nat.le_refl _, rfl, by go_num, by go_num, HO8, HX8, HL8, HL9, HT8, HB8⟩
      case measure => simp [intOf]; omega
    have m1 : ((me : Int) == 31) = false := by simp; omega
    rcases Nat.eq_zero_or_pos me with m0 | m0
    · subst m0
      have HG2 := keepd (HGO.out rfl)
      have HL8 : Hid (L.length ≤ i + 1) := Nat.le_succ_of_le HLI.out
      clear HGO HEN
      go_wp2_with fail
      go_roundw
      case rel => exact ⟨i + 1, fr, _, L, by omega, by omega, rfl, rfl, by go_num, HO7, HX, HL8, HG2, HT7, HB7⟩
      case measure => simp [intOf]; omega
    · have m2 : ((me : Int) != 0) = true := by simp; omega
      have m3 : ¬ (me : Int) = 0 := by omega
      have m4 : ¬ (me : Int) = 31 := by omega
      clear HGO HEN
      have CW := keepd (eawake_any _ (HLD.out.below HB7.out))
      go_wp2_with fail
      with_reducible refine CW.out.mono ?_
      rintro e w9 ⟨rfl, hb9⟩
      have HB9 := keepd (bCall HB7.out hb9)
      clear hb9 CW
      go_wp2_with fail
      go_ret
      exact ⟨rfl, HB9.out⟩

end Go.Proofs.YtjhocmeenejjpaaDoor
