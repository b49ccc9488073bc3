/-
  The law ReaderBack, walked: it returns true, whatever the items and the octets.
-/
import Derived.Test.YtmgkfibkeonpmaaDoorP1
namespace Go.Proofs.YtmgkfibkeonpmaaDoor
open Go.RowKit

theorem mayZ' : mayR ⟨0, 0, 0, []⟩ = true := by decide
theorem errZ' : errF ⟨0, 0, 0, []⟩ = 0 := by decide

theorem empty_ownI (w : World) (base : Nat) (h : base ≤ w.heap.size) : OwnI (w.alloc (.cells #[] 39)) base (.slice (some ⟨w.heap.size, 0, none⟩) 0 0) [] :=
  ⟨by simp, .inr ⟨w.heap.size, 0, #[], rfl, h, heap_alloc_new w _, Nat.le_refl _, by simp, by simp, by simp⟩⟩

theorem appI_start0 {w3 w' : World} (hg : (w3.alloc (.cells #[] 39)).grownBy w' (Value.ownBlock (.slice (some ⟨w3.heap.size, 0, none⟩) 0 0))) : Below w3.heap.size w3 w' := by
  have h1 := ownI_grown (empty_ownI w3 _ (Nat.le_refl _)) hg (by simp)
  exact (bAlloc (Below.refl w3.heap.size w3) _).trans h1

theorem wpList_appIG (w : World) {ops : Array Oper} {rest : List Oper} {o : Oper} {a : Act} {Q : Exit → Act → World → Prop} (hw : Region.wanted o (yielded ops a.tmps) = true) (s x : Operand)
    (ho : o.op = .call { callee := .builtin .append, args := #[s, x], argTypes := #[22, 22] })
    (base : Nat) (v : Value) (L : List Itm) (hs : a.eval s = v) (hown : OwnI w base v L) (A : Option Addr) (m c : Nat) (M : List Itm) (hx : a.eval x = .slice A m c) (hm : m = M.length) (hr : RdI w A M c)
    (hlen : L.length + M.length ≤ 200000) (hbase : base ≤ w.heap.size)
    (h : ∀ v' w', OwnI w' base v' (L ++ M) → w.grownBy w' v.ownBlock → (v'.ownBlock = v.ownBlock ∨ v'.ownBlock = some w.heap.size) → wpList Tryd.prog ops Q rest (a.put o.dst v') w') : wpList Tryd.prog ops Q (o :: rest) a w := by
  obtain ⟨v', w', hrun, h2, h3, h4⟩ := run_appI w base o.type v L hown A m c M hm hr hlen hbase
  unfold wpList
  rw [if_pos hw]
  refine .inl ?_
  unfold Oper.wp execOp
  simp only [ho, resolve, invoke, builtin, Sem.run_bind, Sem.run_pure, Result.andThen_ok, List.map_toArray, List.map_cons, List.map_nil, hs, hx, hrun]
  exact h v' w' h2 h3 h4

set_option maxRecDepth 100000 in
set_option maxHeartbeats 2000000 in
theorem back_law (A : Option Addr) (L : List Itm) (n c : Nat) (hn : n = L.length) (A' : Option Addr) (l : List UInt8) (m c' : Nat) (hm : m = l.length) (w : World) (hr : RdI w A L c) (hr' : Rd w w.heap.size A' l c') :
    Calls Tryd.prog 3 #[.slice A n c, .slice A' m c'] w fun e w' => e = .returned (.bool true) ∧ Below w.heap.size w w' := by
  have hrl : m ≤ c' := by have := hr'.1; omega
  have hrm := hr'.2.1
  have HA0 : Hid (Rd w w.heap.size A' (l.take 200) c') := hr'.take 200
  have e2 : (l.take 200).length = min m 200 := by rw [List.length_take, hm]; omega
  have m1 : min m 200 ≤ 200 := by omega
  have HAw := keepd rawake_any
  have HR := keepd hr
  have HN := keepd hn
  clear hr hr' hm hn
  go_enter Tryd.func3, Tryd.ntmps3
  go_wp2_with fail
  with_reducible refine (fewI_any A L n c w HN.out HR.out).mono ?_
  rintro e w1 ⟨A1, c1, rfl, hr1, hb1⟩
  have hl1 : (fewI L).length ≤ 40 := by rw [fewI_len]; omega
  generalize fewI L = M at *
  obtain ⟨n1, hn1⟩ : ∃ n1, M.length = n1 := ⟨_, rfl⟩
  rw [hn1] at hl1 ⊢
  have HR1 := keepd hr1
  have HB1 := keepd hb1
  have HN1 := keepd hn1.symm
  clear hr1 hb1 hn1
  go_wp2_with fail
  with_reducible refine (few_any A' m c' _ hrl hrm).mono ?_
  rintro e w0 ⟨rfl, rfl⟩
  generalize l.take 200 = al at *
  generalize min m 200 = an at *
  go_wp2_with fail
  obtain ⟨cl, hcl⟩ : ∃ cl, putL M = cl := ⟨_, rfl⟩
  obtain ⟨cn, hcn⟩ : ∃ cn, cl.length = cn := ⟨_, rfl⟩
  cases hmay : allMay M
  · have HE := keepd (errL_no hmay)
    with_reducible refine (put_at A1 M cl cn n1 c1 1 _ HN1.out (by omega) HR1.out hcl hcn HE.out).mono ?_
    rintro e w2 ⟨A2, c2, rfl, hr2, hb2⟩
    have HB2 := keepd (bCall HB1.out hb2)
    clear hr2 hb2 hcl hcn hmay
    go_wp2_with fail
    with_reducible refine (HAw.out _).mono ?_
    rintro e w5 ⟨rfl, hb5⟩
    have HB5 := keepd (bCall HB2.out hb5)
    clear hb5
    go_wp2
    go_ret
    exact ⟨rfl, HB5.out⟩
  · have HE := keepd (errL_yes hmay)
    with_reducible refine (put_at A1 M cl cn n1 c1 0 _ HN1.out (by omega) HR1.out hcl hcn HE.out).mono ?_
    rintro e w2 ⟨A2, c2, rfl, hr2, hb2⟩
    obtain ⟨X, hX⟩ : ∃ X, M.map Itm.abs = X := ⟨_, rfl⟩
    have hXl : X.length = n1 := by rw [← hX, List.length_map]; exact HN1.out.symm
    have hXm : X.all Abs.may = true := by rw [← hX, ← allMay_abs]; exact hmay
    have hcX : cl = X.flatMap Abs.lies := by rw [← hcl, putL_yes hmay, liesAll_abs, hX]
    have hcl40 : cn ≤ 44000 := by
      have := liesAll_len M hmay
      rw [← putL_yes hmay, hcl, hcn] at this
      have := HN1.out
      omega
    obtain ⟨⟨⟨k2, a2, b2, l2⟩, out⟩, hf⟩ : ∃ x, feed ⟨0, 0, 0, []⟩ al = x := ⟨_, rfl⟩
    have HF1 : Hid (feedE ⟨0, 0, 0, []⟩ cl = (⟨0, 0, 0, []⟩, X)) := by
      show _ = _
      rw [feedE_yes mayZ', hcX]
      exact feed_liesAll X hXm
    have HF2 : Hid (feedE ⟨0, 0, 0, []⟩ al = (⟨k2, a2, b2, l2⟩, out)) := (feedE_yes mayZ' al).trans hf
    have HF3 : Hid (feedE ⟨0, 0, 0, []⟩ (cl ++ al) = (⟨k2, a2, b2, l2⟩, X ++ out)) := by
      show _ = _
      have h1 : feed ⟨0, 0, 0, []⟩ cl = (⟨0, 0, 0, []⟩, X) := by rw [← feedE_yes mayZ']; exact HF1.out
      rw [feedE_yes mayZ', feed_append, h1, hf]
    obtain ⟨n2, hn2⟩ : ∃ n2, l2.length = n2 := ⟨_, rfl⟩
    obtain ⟨s, hs⟩ : ∃ s, out.length = s := ⟨_, rfl⟩
    have hs200 : s ≤ 200 := by
      have := (feed_may mayZ' al).2.2
      rw [hf] at this
      simp only at this
      omega
    obtain ⟨s1, hs1⟩ : ∃ s1, (X ++ out).length = s1 := ⟨_, rfl⟩
    have HX := keepd hX
    have HXl := keepd hXl
    have HN2 := keepd hn2
    have HS := keepd hs
    have HS1 := keepd hs1
    have HCn := keepd hcn
    have HB2 := keepd (bCall HB1.out hb2)
    have HR2 := keepd hr2
    have HM2 := keepd (HR1.out.at_ hb2)
    clear hX hXl hXm hcX hf hn2 hs hs1 hcn hcl hr2 hb2 HB1 HR1 hmay HE
    go_wp2_with fail
    with_reducible refine (feed_at 0 0 0 none [] 0 A2 cl 0 cn c2 w2 rfl HCn.out.symm (by omega) (by omega) (Rd.nil _ _) HR2.out 0 0 0 [] 0 X n1 0 HF1.out rfl HXl.out errZ').mono ?_
    rintro e w3 ⟨A3, c3, B3, d3, L3, rfl, hL3, hR3, hI3, hb3⟩
    have hsm : sameL L3 M = true := by rw [sameL_abs, hL3, HX.out]; simp
    have hLl : n1 = L3.length := by rw [← HXl.out, ← hL3, List.length_map]
    have HB3 := keepd (bCall HB2.out hb3)
    have HR3 := keepd hR3
    have HI3 := keepd hI3
    have HM3 := keepd (HM2.out.at_ hb3)
    have HR2' := keepd (HR2.out.at_ hb3)
    have HSm := keepd hsm
    have HLl := keepd hLl
    clear hL3 hR3 hI3 hb3 hsm hLl HB2 HM2 HR2
    go_wp2_with fail
    with_reducible refine (same_any B3 A1 L3 M n1 n1 d3 c1 _ HLl.out HN1.out (HI3.out.at_ (bAlloc (Below.refl _ _) _)) (HM3.out.at_ (bAlloc (Below.refl _ _) _))).mono ?_
    rintro e w4 ⟨rfl, hb4⟩
    rw [HSm.out]
    have q := (SR.new 31 w3 [.int .i64 0, .int .i64 0, .int .i64 0, .slice A3 0 c3]).call hb4 (by simp)
    obtain ⟨⟨x0, x1, x2, x3⟩, _⟩ := q.facts4
    have h34 : Below w3.heap.size w3 w4 := upA hb4
    have HB4 := keepd (bCall HB3.out h34)
    have HR3' := keepd (HR3.out.at_ h34)
    have HM4 := keepd (HM3.out.at_ h34)
    have HR4 := keepd (HR2'.out.at_ h34)
    clear hb4 h34 q HB3 HR3 HM3 HR2' HI3
    go_wp2_with fail
    with_reducible refine (rsameR_any ⟨0, 0, 0, A3, [], c3⟩ ⟨0, 0, 0, none, [], 0⟩ true rfl 0 0 rfl rfl w4 HR3'.out (Rd.nil _ _)).mono ?_
    rintro e w5 ⟨rfl, hb5⟩
    have HB5 := keepd (bCall HB4.out hb5)
    have HM5 := keepd (HM4.out.at_ hb5)
    have HR5 := keepd (HR4.out.at_ hb5)
    clear hb5 x0 x1 x2 x3 HB4 HM4 HR4 HR3'
    go_wp2_with (at_builtin; refine wpList_app _ rfl (.tmp 51) (.tmp 52) rfl w5.heap.size _ [] rfl (empty_own w5 _ (Nat.le_refl _)) _ A2 cn c2 cl rfl HCn.out.symm (HR5.out.at_ (bAlloc (Below.refl _ _) _)) ?_ ?_ ?_)
    · rw [HCn.out]; simp; omega
    · simp
    · intro v6 w6 ho6 hg6 _
      have HB6 := keepd (app_start0 hg6)
      try rw [List.nil_append] at ho6
      have HO6 := keepd ho6
      have hs6 := HB6.out.size
      have HB06 := keepd (bCall HB5.out HB6.out)
      clear ho6 hg6 HR5
      go_wp2_with (at_builtin; refine wpList_app _ rfl (.tmp 53) (.tmp 54) rfl w5.heap.size _ cl rfl HO6.out _ A' an c' al rfl e2.symm (HA0.out.at_ HB06.out) ?_ ?_ ?_)
      · rw [HCn.out, e2]; omega
      · omega
      · intro v7 w7 ho7 hg7 _
        obtain ⟨full, hfull⟩ : ∃ full, cl ++ al = full := ⟨_, rfl⟩
        obtain ⟨fn, hfn⟩ : ∃ fn, full.length = fn := ⟨_, rfl⟩
        have hfn2 : fn ≤ 44200 := by
          have : fn = cn + an := by rw [← hfn, ← hfull, List.length_append, HCn.out, e2]
          omega
        rw [hfull] at ho7 HF3
        have h57 := app_below HB6.out HO6.out hg7
        have HB7 := keepd (bCall HB5.out h57)
        have HM7 := keepd (HM5.out.at_ h57)
        obtain ⟨A7, c7, rfl, hr7⟩ := ho7.rd
        rw [hfn]
        have HR7 := keepd hr7
        have HFn := keepd hfn
        clear ho7 hg7 hr7 hfn hfull h57 HO6 HB6 HB06 HM5 HB5
        go_wp2_with fail
        with_reducible refine (feed_at 0 0 0 none [] 0 A7 full 0 fn c7 w7 rfl HFn.out.symm (by omega) (by omega) (Rd.nil _ _) HR7.out k2 a2 b2 l2 n2 (X ++ out) s1 0 HF3.out HN2.out HS1.out errZ').mono ?_
        rintro e w8 ⟨A8, c8, B8, d8, L8, rfl, hL8, _, hI8, hb8⟩
        have HB8 := keepd (bCall HB7.out hb8)
        have HI8 := keepd hI8
        have HL8 := keepd hL8
        have HM8 := keepd (HM7.out.at_ hb8)
        clear hL8 hI8 hb8 HB7 HM7 HR7
        go_wp2_with fail
        with_reducible refine (feed_at 0 0 0 none [] 0 A' al 0 an c' _ rfl e2.symm (by omega) (by omega) (Rd.nil _ _) (HA0.out.at_ (bAlloc HB8.out _)) k2 a2 b2 l2 n2 out s 0 HF2.out HN2.out HS.out errZ').mono ?_
        rintro e w9 ⟨A9, c9, B9, d9, L9, rfl, hL9, _, hI9, hb9⟩
        have h89 : Below w8.heap.size w8 w9 := upA hb9
        have HB9 := keepd (bCall HB8.out h89)
        have HI8' := keepd (HI8.out.at_ h89)
        have HI9 := keepd hI9
        have HM9 := keepd (HM8.out.at_ h89)
        have hsm : sameL L8 (M ++ L9) = true := by rw [sameL_abs, HL8.out, List.map_append, HX.out, hL9]; simp
        have hL8l : s1 = L8.length := by rw [← HS1.out, ← HL8.out, List.length_map]
        have hL9l : s = L9.length := by rw [← HS.out, ← hL9, List.length_map]
        have HSm := keepd hsm
        have HL8l := keepd hL8l
        have HL9l := keepd hL9l
        clear hL9 hI9 hb9 h89 hsm hL8l hL9l HB8 HI8 HM8 HL8
        have HV : Hid (Below w9.heap.size w9 (w9.alloc (.cells #[.int .i64 k2, .int .i64 a2, .int .i64 b2, .slice A9 n2 c9] 31))) := bAlloc (Below.refl _ _) _
        have HVs : Hid ((w9.alloc (.cells #[.int .i64 k2, .int .i64 a2, .int .i64 b2, .slice A9 n2 c9] 31)).heap.size = w9.heap.size + 1) := by show _ = _; simp
        have HO0 : Hid (OwnI ((w9.alloc (.cells #[.int .i64 k2, .int .i64 a2, .int .i64 b2, .slice A9 n2 c9] 31)).alloc (.cells #[] 39)) (w9.heap.size + 1) (.slice (some ⟨w9.heap.size + 1, 0, none⟩) 0 0) []) := by
          show OwnI _ _ _ _
          have := empty_ownI (w9.alloc (.cells #[.int .i64 k2, .int .i64 a2, .int .i64 b2, .slice A9 n2 c9] 31)) (w9.heap.size + 1) (by simp)
          rw [HVs.out] at this
          exact this
        go_wp2_with (at_builtin; refine wpList_appIG _ rfl (.tmp 75) (.tmp 76) rfl (w9.heap.size + 1) _ [] rfl HO0.out A1 n1 c1 M rfl HN1.out ?_ ?_ ?_ ?_)
        · exact HM9.out.at_ (bAlloc HV.out _)
        · have := HN1.out; simp; omega
        · simp
        · intro v10 w10 ho10 hg10 _
          have h910 : Below w9.heap.size w9 w10 := (bAlloc HV.out _).trans ((ownI_grown HO0.out hg10 (by simp)).mono (by omega))
          have h910' : Below (w9.heap.size + 1) ((w9.alloc (.cells #[.int .i64 k2, .int .i64 a2, .int .i64 b2, .slice A9 n2 c9] 31)).alloc (.cells #[] 39)) w10 := ownI_grown HO0.out hg10 (by simp)
          try rw [List.nil_append] at ho10
          have HO10 := keepd ho10
          have HB10 := keepd h910
          have hs10 : w9.heap.size + 1 ≤ w10.heap.size := by
            have := h910'.size
            simp only [World.size_alloc] at this
            omega
          clear ho10 hg10 h910 h910' HO0 HV HVs
          go_wp2_with (at_builtin; refine wpList_appIG _ rfl (.tmp 77) (.tmp 78) rfl (w9.heap.size + 1) _ M rfl HO10.out B9 s d9 L9 rfl HL9l.out (HI9.out.at_ HB10.out) ?_ ?_ ?_)
          · have := HN1.out; have := HL9l.out; omega
          · omega
          · intro v11 w11 ho11 hg11 _
            have h911 : Below w9.heap.size w9 w11 := HB10.out.trans ((ownI_grown HO10.out hg11 hs10).mono (by omega))
            have hlen : (M ++ L9).length = n1 + s := by rw [List.length_append, ← HN1.out, ← HL9l.out]
            obtain ⟨ML, hML⟩ : ∃ ML, M ++ L9 = ML := ⟨_, rfl⟩
            rw [hML] at ho11 hlen HSm
            have hrx : ∀ x ∈ ML, Rd w11 w11.heap.size x.A x.l x.c := by
              intro x hx
              rw [← hML] at hx
              rcases List.mem_append.1 hx with hx | hx
              · exact (HM9.out.2.2.2 x hx).at_ h911
              · exact (HI9.out.2.2.2 x hx).at_ h911
            obtain ⟨A11, c11, rfl, hr11⟩ := ho11.rd hrx
            rw [hlen]
            have HR11 := keepd hr11
            have HI11 := keepd (HI8'.out.at_ h911)
            have HB11 := keepd (bCall HB9.out h911)
            have HLn := keepd hlen
            clear ho11 hg11 hr11 h911 hlen hML hrx HO10 HB10 HI8' HB9 HI9 HM9
            go_wp2_with fail
            with_reducible refine (same_any B8 A11 L8 ML s1 (n1 + s) d8 c11 w11 HL8l.out HLn.out.symm HI11.out HR11.out).mono ?_
            rintro e w12 ⟨rfl, hb12⟩
            rw [HSm.out]
            have HB12 := keepd (bCall HB11.out hb12)
            clear hb12
            go_wp2_with fail
            with_reducible refine (HAw.out _).mono ?_
            rintro e w13 ⟨rfl, hb13⟩
            have HB13 := keepd (bCall HB12.out hb13)
            clear hb13
            go_wp2
            go_ret
            exact ⟨rfl, HB13.out⟩

end Go.Proofs.YtmgkfibkeonpmaaDoor
