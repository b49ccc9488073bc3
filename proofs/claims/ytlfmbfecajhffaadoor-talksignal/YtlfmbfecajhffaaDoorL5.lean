/-
  TalkSignal walked. No conditions beyond those each theorem states.
-/
import Derived.Test.YtlfmbfecajhffaaDoorL4
import Derived.Test.YtlfmbfecajhffaaDoorK8
import Derived.Test.YtlfmbfecajhffaaDoorK9
import Derived.Test.YtlfmbfecajhffaaDoorA15
import Derived.BigQuiet
namespace Go.Proofs.YtlfmbfecajhffaaDoor
open Go.RowKit
set_option maxRecDepth 100000

attribute [local go_sem ↓] ex_ld25 ex_st25 ex_al25 ex_bu25 ex_ix25 ex_eq25 ex_ne25 ex_eq23 ex_ne23 ex_ld25o ex_st65 ex_al65 ex_bu65 ex_bu65s ex_ld25d
attribute [local go_sem] ptrB_at okPtr_at aggC_at agg62 agg69 isC_at isT_at eqV_t eqV_c isRow_new isRow_new65 World.setRow_alloc_new ptr4_at okPtr4_at cutT_at isI_at isS_at bW_at bWs_at ptrD_at okPtrD_at cutD_at

/-- What is there when the other editor plays: all that was there, but the talk; what has come since, in new memory. -/
structure CD (V0 V Vp : World) (b14 : Nat) (An Bk : Option Addr) (l1 : List UInt8) (n1 cn : Nat) (z1 : Int) (ov1 li1 h1 : Bool) (mk dq : Nat) (sg : Int) (bell : Bool) (W : World) : Prop where
  fs : V.heap.size ≤ W.heap.size
  fh : ∀ k, k < V.heap.size → k ≠ V0.heap.size → W.heap[k]? = V.heap[k]?
  s5 : SR 34 W V0.heap.size [.slice An n1 cn, .int .i64 z1, .bool ov1, .bool li1, .bool h1]
  s14 : SR 41 W b14 [.slice Bk mk dq, .int .i64 sg, .bool bell]
  rn : Rd W W.heap.size An l1 cn
  bl : Below V0.heap.size V0 W
  fn : Fr.Frs Vp An
  p14 : Vp.heap.size ≤ b14
  v0 : V0.heap.size < V.heap.size
theorem CD.call {V0 V Vp : World} {b14 : Nat} {An Bk : Option Addr} {l1 : List UInt8} {n1 cn : Nat} {z1 : Int} {ov1 li1 h1 : Bool} {mk dq : Nat} {sg : Int} {bell : Bool} {W : World} {W' : World} (h : CD V0 V Vp b14 An Bk l1 n1 cn z1 ov1 li1 h1 mk dq sg bell W) (hb : Below W.heap.size W W') : CD V0 V Vp b14 An Bk l1 n1 cn z1 ov1 li1 h1 mk dq sg bell W' where
  fs := Nat.le_trans h.fs hb.size
  fh := fun k hk hn => (hb.block k (Nat.lt_of_lt_of_le hk h.fs)).trans (h.fh k hk hn)
  s5 := SR.call h.s5 hb h.s5.lt
  s14 := SR.call h.s14 hb h.s14.lt
  rn := h.rn.at_ hb
  bl := bCall h.bl hb
  fn := h.fn
  p14 := h.p14
  v0 := h.v0
theorem CD.drew {V0 V Vp : World} {b14 : Nat} {An Bk : Option Addr} {l1 : List UInt8} {n1 cn : Nat} {z1 : Int} {ov1 li1 h1 : Bool} {mk dq : Nat} {sg : Int} {bell : Bool} {W : World} (h : CD V0 V Vp b14 An Bk l1 n1 cn z1 ov1 li1 h1 mk dq sg bell W) : CD V0 V Vp b14 An Bk l1 n1 cn z1 ov1 li1 h1 mk dq sg bell W.drew := h.call (Below.drew (Below.refl _ _))
theorem CD.grow {V0 V Vp : World} {b14 : Nat} {An Bk : Option Addr} {l1 : List UInt8} {n1 cn : Nat} {z1 : Int} {ov1 li1 h1 : Bool} {mk dq : Nat} {sg : Int} {bell : Bool} {W : World} {W' : World} {v : Value} {sn : List UInt8} (h : CD V0 V Vp b14 An Bk l1 n1 cn z1 ov1 li1 h1 mk dq sg bell W) (ho : Own W V.heap.size v sn) (hlt : ∀ g, v.ownBlock = some g → g < Vp.heap.size) (hg : W.grownBy W' v.ownBlock) : CD V0 V Vp b14 An Bk l1 n1 cn z1 ov1 li1 h1 mk dq sg bell W' := by
  have ne : ∀ b, Vp.heap.size ≤ b → v.ownBlock ≠ some b := fun b hb e => by have := hlt b e; omega
  have nl : ∀ b, b < V.heap.size → v.ownBlock ≠ some b := fun b hb e => by have := (ho.ge b e).1; omega
  exact {
    fs := Nat.le_trans h.fs hg.size
    fh := fun k hk hn => (hg.block k (Nat.lt_of_lt_of_le hk h.fs) (fun e => nl k hk e.symm)).trans (h.fh k hk hn)
    s5 := sr_grow h.s5 hg (nl _ h.v0)
    s14 := sr_grow h.s14 hg (ne _ h.p14)
    rn := h.rn.growF hg fun ad had e => ne _ (h.fn ad had) e.symm
    bl := h.bl.trans ⟨hg.os, hg.tape, hg.output, hg.size, fun k hk => hg.block k (Nat.lt_of_lt_of_le (Nat.lt_trans hk h.v0) h.fs) (fun e => nl k (Nat.lt_trans hk h.v0) e.symm)⟩
    fn := h.fn
    p14 := h.p14
    v0 := h.v0 }
theorem sSig {V0 V Vp : World} {b14 : Nat} {An Bk : Option Addr} {l1 : List UInt8} {n1 cn : Nat} {z1 : Int} {ov1 li1 h1 : Bool} {mk dq : Nat} {sg : Int} {bell : Bool} {W : World} {g : Nat} {X : Tb} {room : Int} (hD : DK V g X room) (h : CD V0 V Vp b14 An Bk l1 n1 cn z1 ov1 li1 h1 mk dq sg bell W) (hg : g ≠ V0.heap.size) :
    rowOf W g = (dk X room).toArray ∧ isRow W 27 g 63 = true ∧ W.cell? ⟨g, 62, none⟩ = some (.int .i64 room) ∧ W.cell? ⟨b14, 0, none⟩ = some (.slice Bk mk dq) := by
  have k1 : DK W g X room := (h.fh g (SR.lt hD) hg).trans hD
  obtain ⟨⟨a1, a2⟩, a3⟩ := DK.facts k1
  exact ⟨a1, a2, a3, h.s14.cell 0⟩
theorem r7_sig {V0 V Vp : World} {b14 : Nat} {An Bk : Option Addr} {l1 : List UInt8} {n1 cn : Nat} {z1 : Int} {ov1 li1 h1 : Bool} {mk dq : Nat} {sg : Int} {bell : Bool} {W : World} {A7 A5 : Option Addr} {lf : List UInt8} {c7 n c5 : Nat} {z : Int} {ov li h : Bool} (h5 : SR 34 V V0.heap.size [.slice A5 n c5, .int .i64 z, .bool ov, .bool li, .bool h]) (hr : Rd V V.heap.size A7 lf c7) (hc : CD V0 V Vp b14 An Bk l1 n1 cn z1 ov1 li1 h1 mk dq sg bell W) : Rd W W.heap.size A7 lf c7 :=
  hr.frame h5 tk_no hc.fs hc.fh
theorem sDkS {V W : World} {g p : Nat} {X : Tb} {room : Int} {A : Option Addr} {n c : Nat} {z : Int} {ov li h : Bool} {bA oA : Nat} {x : Sp} (hD : DK V g X room) (hT : SR 34 V p [.slice A n c, .int .i64 z, .bool ov, .bool li, .bool h]) (hu : AtS V bA oA x ∧ bA < V.heap.size) (hb : Below V.heap.size V W) :
    rowOf W g = (dk X room).toArray ∧ isRow W 27 g 63 = true ∧ W.cell? ⟨g, 62, none⟩ = some (.int .i64 room) ∧ W.cell? ⟨p, 0, none⟩ = some (.slice A n c) ∧ W.cell? ⟨p, 1, none⟩ = some (.int .i64 z) ∧ W.cell? ⟨p, 2, none⟩ = some (.bool ov) ∧ W.cell? ⟨p, 3, none⟩ = some (.bool li) ∧ W.cell? ⟨p, 4, none⟩ = some (.bool h) ∧ W.cell? ⟨bA, oA, none⟩ = some (.int .u8 (x.u.toNat : Int)) ∧ W.cell? ⟨bA, oA + 1, none⟩ = some (.bool x.e) ∧ W.cell? ⟨bA, oA + 2, none⟩ = some (.bool x.f) ∧ Below V.heap.size V W := by
  obtain ⟨⟨a1, a2⟩, a3⟩ := DK.facts (SR.call hD hb (SR.lt hD))
  have h1 := SR.call hT hb hT.lt
  obtain ⟨u0, u1, u2, _⟩ := hu.1.keep hb hu.2
  exact ⟨a1, a2, a3, h1.cell 0, h1.cell 1, h1.cell 2, h1.cell 3, h1.cell 4, u0, u1, u2, hb⟩
/-- What the talk and the other editor hold at a round's beginning. -/
def SG (V0 : World) (l lf : List UInt8) (n t nf tf : Nat) (ov li h ovf lif : Bool) (A5 A8 : Option Addr) (c5 c8 : Nat) (W : World) : Prop :=
  SR 34 W V0.heap.size [.slice A5 n c5, .int .i64 (t : Int), .bool ov, .bool li, .bool h] ∧ SR 32 W (V0.heap.size + 1) [.slice A8 nf c8, .int .i64 (tf : Int), .bool ovf, .bool lif] ∧ Rd W W.heap.size A5 l c5 ∧ Rd W W.heap.size A8 lf c8 ∧ Below V0.heap.size V0 W
theorem sig_end {V0 V Vp W : World} {b14 : Nat} {An Bk Af A8 : Option Addr} {l1 lf2 : List UInt8} {n1 cn t1 nf2 cf tf2 nf c8 g : Nat} {z : Int} {ov1 li1 h1 ovf2 lif2 ovf lif : Bool} {mk dq : Nat} {sg zf2 : Int} {bell : Bool} {X : Tb} {room : Int} (h : CD V0 V Vp b14 An Bk l1 n1 cn (t1 : Int) ov1 li1 h1 mk dq sg bell W) (hvs : V.heap.size ≤ Vp.heap.size) (k8 : SR 32 W (V0.heap.size + 1) [.slice A8 nf c8, .int .i64 z, .bool ovf, .bool lif]) (hl : V0.heap.size + 1 < V.heap.size) (hD : DK V g X room) (hg : g < V0.heap.size) (hr : Rd W W.heap.size Af lf2 cf) (hz : zf2 = (tf2 : Int) := by rfl) :
    (rowOf (set4 W (V0.heap.size + 1) (.slice Af nf2 cf) (.int .i64 zf2) (.bool ovf2) (.bool lif2)) g = (dk X room).toArray ∧ isRow (set4 W (V0.heap.size + 1) (.slice Af nf2 cf) (.int .i64 zf2) (.bool ovf2) (.bool lif2)) 27 g 63 = true ∧ (set4 W (V0.heap.size + 1) (.slice Af nf2 cf) (.int .i64 zf2) (.bool ovf2) (.bool lif2)).cell? ⟨g, 62, none⟩ = some (.int .i64 room) ∧ (set4 W (V0.heap.size + 1) (.slice Af nf2 cf) (.int .i64 zf2) (.bool ovf2) (.bool lif2)).cell? ⟨b14, 0, none⟩ = some (.slice Bk mk dq)) ∧
    SG V0 l1 lf2 n1 t1 nf2 tf2 ov1 li1 h1 ovf2 lif2 An Af cn cf (set4 W (V0.heap.size + 1) (.slice Af nf2 cf) (.int .i64 zf2) (.bool ovf2) (.bool lif2)) := by
  subst hz
  have p14 := h.p14
  have k1 : DK W g X room := (h.fh g (by omega) (by omega)).trans hD
  have k2 : DK (set4 W (V0.heap.size + 1) (.slice Af nf2 cf) (.int .i64 (tf2 : Int)) (.bool ovf2) (.bool lif2)) g X room := set4_far k1 (by omega)
  obtain ⟨⟨a1, a2⟩, a3⟩ := DK.facts k2
  have k14 := set4_far (a := .slice Af nf2 cf) (b := .int .i64 (tf2 : Int)) (x := .bool ovf2) (y := .bool lif2) (g := V0.heap.size + 1) h.s14 (by omega)
  obtain ⟨E1, E2, E3⟩ := st4_end k8 h.bl (by omega) (.slice Af nf2 cf) (.int .i64 (tf2 : Int)) (.bool ovf2) (.bool lif2)
  exact ⟨⟨a1, a2, a3, k14.cell 0⟩, set4_far h.s5 (by omega), set4_sr k8, E1 _ _ _ h.rn, E1 _ _ _ hr, E3⟩

theorem wrap_few (j : Nat) (h : j ≤ 20000) : IntKind.i64.wrap (j : Int) = (j : Int) := by rw [IntKind.wrap_i64]; omega
theorem wrap_few64 (j : Nat) (h : j ≤ 20000) : wrap64 (j : Int) = (j : Int) := by unfold wrap64; omega
theorem sSg {V W : World} {g p b14 : Nat} {X : Tb} {room : Int} {A B : Option Addr} {n c m d : Nat} {z sg : Int} {ov li bell : Bool} (hD : DK V g X room) (h8 : SR 32 V p [.slice A n c, .int .i64 z, .bool ov, .bool li]) (hT : SR 41 V b14 [.slice B m d, .int .i64 sg, .bool bell]) (hb : Below V.heap.size V W) :
    rowOf W g = (dk X room).toArray ∧ isRow W 27 g 63 = true ∧ W.cell? ⟨g, 62, none⟩ = some (.int .i64 room) ∧ W.cell? ⟨p, 0, none⟩ = some (.slice A n c) ∧ W.cell? ⟨p, 1, none⟩ = some (.int .i64 z) ∧ W.cell? ⟨p, 2, none⟩ = some (.bool ov) ∧ W.cell? ⟨p, 3, none⟩ = some (.bool li) ∧ W.cell? ⟨b14, 0, none⟩ = some (.slice B m d) ∧ Below V.heap.size V W := by
  obtain ⟨⟨a1, a2⟩, a3⟩ := DK.facts (SR.call hD hb (SR.lt hD))
  have h1 := SR.call h8 hb h8.lt
  exact ⟨a1, a2, a3, h1.cell 0, h1.cell 1, h1.cell 2, h1.cell 3, (SR.call hT hb hT.lt).cell 0, hb⟩

theorem deskhow_new (w : World) (cs : List Value) (a b x : Value) (V : World) (hV : (w.alloc (.cells cs.toArray 27)).alloc (.cells #[a, b, x] 36) = V) : Hid (SR 27 V w.heap.size cs) ∧ Hid (SR 36 V (w.heap.size + 1) [a, b, x]) ∧ Hid (Below w.heap.size w V) := by
  have h := SR.new 36 (w.alloc (.cells cs.toArray 27)) [a, b, x]
  rw [World.size_alloc] at h
  subst hV
  exact ⟨SR.alloc (SR.new 27 w _) _, h, bAlloc (bAlloc (Below.refl _ _) _) _⟩
theorem tkst_new (w : World) (a b x y h a' b' x' y' : Value) (V : World) (hV : (w.alloc (.cells #[a, b, x, y, h] 34)).alloc (.cells #[a', b', x', y'] 32) = V) :
    Hid (SR 34 V w.heap.size [a, b, x, y, h]) ∧ Hid (SR 32 V (w.heap.size + 1) [a', b', x', y']) ∧ Hid (Below w.heap.size w V) := by
  have h2 := SR.new 32 (w.alloc (.cells #[a, b, x, y, h] 34)) [a', b', x', y']
  rw [World.size_alloc] at h2
  subst hV
  exact ⟨SR.alloc (SR.new 34 w _) _, h2, bAlloc (bAlloc (Below.refl _ _) _) _⟩
set_option maxHeartbeats 16000000 in
theorem signal_law (X : Tb) (hX : TbO X) (room : Int) (A : Option Addr) (L : List Sp) (c : Nat) (u2 : UInt8) (e2 f2 : Bool) (w : World) (hL : Laid w) (hr : RdS w A L c) :
    Calls Tryd.prog 5 #[.agg (dk X room).toArray, .slice A L.length c, .agg #[.int .u8 (u2.toNat : Int), .bool e2, .bool f2]] w fun e w' => e = .returned (.bool true) ∧ Below w.heap.size w w' := by
  obtain ⟨nn, hn⟩ : ∃ n, n = L.length := ⟨_, rfl⟩
  rw [← hn]
  have HX := keepd hX
  have HLD := keepd hL
  have HR0 := keepd hr
  have HNN := keepd hn
  have hnc : nn ≤ c := by rw [hn]; exact hr.1
  have hcm := hr.2.1
  unfold maxLen at hcm
  clear hX hL hr hn
  go_enter Tryd.func5, Tryd.ntmps5
  go_upto_region 1 with fail
  generalize hV : (w.alloc (.cells (dk X room).toArray 27)).alloc (.cells #[.int .u8 (u2.toNat : Int), .bool e2, .bool f2] 36) = V0
  obtain ⟨HD, HHW, HB0⟩ := deskhow_new _ _ _ _ _ _ hV
  have HDV0 : Hid (w.heap.size < V0.heap.size) := SR.lt HD.out
  clear hV
  go_upto_region 3 with fail
  generalize hV : (V0.alloc (.cells #[.slice none 0 0, .int .i64 0, .bool false, .bool false, .bool false] 34)).alloc (.cells #[.slice none 0 0, .int .i64 0, .bool false, .bool false] 32) = V2
  obtain ⟨H5, H6, HBV2⟩ := tkst_new _ _ _ _ _ _ _ _ _ _ _ hV
  have HSG : Hid (SG V0 [] [] 0 0 0 0 false false false false false none none 0 0 V2) := ⟨H5.out, H6.out, Rd.nil _ _, Rd.nil _ _, HBV2.out⟩
  clear hV H5 H6 HBV2
  go_wp2_with fail
  go_loopw [9] (fun v9 wr => ∃ (i : Nat) (l lf : List UInt8) (n t nf tf : Nat) (ov li h ovf lif : Bool) (A5 A8 : Option Addr) (c5 c8 : Nat), i ≤ nn ∧ i ≤ 30 ∧ v9 = .int .i64 i ∧ Hid (Inv X room ⟨l, t, ov, li⟩ ∧ l.length = n ∧ lf.length = nf ∧ farT ⟨⟨l, t, ov, li⟩, h⟩ = ⟨lf, tf, ovf, lif⟩) ∧ Hid (SG V0 l lf n t nf tf ov li h ovf lif A5 A8 c5 c8 wr)) (fun v9 _ => nn - (intOf v9).toNat)
  case atStart => exact ⟨0, [], [], 0, 0, 0, 0, false, false, false, false, false, none, none, 0, 0, by omega, by omega, rfl, ⟨Inv.zero X room, rfl, rfl, rfl⟩, HSG⟩
  case round =>
    obtain ⟨i, l, lf, n, t, nf, tf, ov, li, h, ovf, lif, A5, A8, c5, c8, hin, hi30, rfl, HI, HQ⟩ := hrel
    obtain ⟨V, hV⟩ : ∃ V, V = wr := ⟨_, rfl⟩
    subst hV
    obtain ⟨g1, g2, g3, g4, g5⟩ := HQ.out
    have H5V := keepd g1
    have H8V := keepd g2
    have HR5 := keepd g3
    have HR8 := keepd g4
    have HBV := keepd g5
    clear g1 g2 g3 g4 g5 HQ HSG
    by_cases hgo : i < nn ∧ i < 30
    case neg =>
      have HDVr : Hid (DK V w.heap.size X room) := SR.call HD.out HBV.out (SR.lt HD.out)
      have HHWr := keepd (SR.call HHW.out HBV.out HHW.out.lt)
      have hn := HI.out.2.1
      have hok := HI.out.1.ok
      have ht1 : t ≤ n := by have h0 := hok.1; rw [← hn]; exact h0
      have ht2 : n ≤ 4096 := by have h0 := hok.2; rw [← hn]; exact h0
      have hfok := farT_ok (h := h) hok
      rw [HI.out.2.2.2] at hfok
      have hf1 : tf ≤ nf := by have h0 := hfok.1; rw [← HI.out.2.2.1]; exact h0
      have hf2 : nf ≤ 4096 := by have h0 := hfok.2; rw [← HI.out.2.2.1]; exact h0
      obtain ⟨⟨⟨l1, t1, ov1, li1⟩, es, be⟩, hkey⟩ : ∃ r, keyE X room ⟨l, t, ov, li⟩ u2 = r := ⟨_, rfl⟩
      obtain ⟨n1, hn1⟩ : ∃ n1, l1.length = n1 := ⟨_, rfl⟩
      obtain ⟨bell, hbell⟩ : ∃ bell, decide (0 < be) = bell := ⟨_, rfl⟩
      obtain ⟨h1, ks, sg, htyp⟩ := typeT_ex (k := ⟨⟨l, t, ov, li⟩, h⟩) e2 f2 hkey
      obtain ⟨mk, hmk⟩ : ∃ mk, ks.length = mk := ⟨_, rfl⟩
      have hmk2 : mk ≤ 20000 := by have h0 := typeT_ks_le (X := X) (room := room) (k := ⟨⟨l, t, ov, li⟩, h⟩) hok u2 e2 f2; rw [htyp] at h0; rw [← hmk]; exact h0
      have hsig : sg ≠ 0 → ∃ kx, ks = kx ++ [u2] ∧ playE X room ⟨⟨lf, tf, ovf, lif⟩, [], 0⟩ kx = ⟨⟨l, t, ov, li⟩, [], 0⟩ ∧ 1 ≤ sg ∧ sg ≤ 9 ∧ keyE X room ⟨l, t, ov, li⟩ u2 = sigE ⟨l, t, ov, li⟩ (sg : Int) := by
        intro h0
        have h2 := signal_far HX.out (k := ⟨⟨l, t, ov, li⟩, h⟩) HI.out.1 u2 e2 f2 (by rw [htyp]; exact h0)
        rw [htyp, HI.out.2.2.2] at h2
        exact h2
      have CT := keepd (Fr.type_own X HX.out room A5 l n c5 t ov li h u2 e2 f2 V hn.symm HR5.out ht1 ht2 l1 n1 t1 ov1 li1 h1 ks mk sg be bell htyp hn1 hmk hbell)
      have HKEY := keepd hkey
      have HN1 := keepd hn1
      have HBELL := keepd hbell
      have HMK := keepd hmk
      have HMK2 := keepd hmk2
      have HSIG := keepd hsig
      have HTT : Hid (t ≤ n ∧ n ≤ 4096 ∧ tf ≤ nf ∧ nf ≤ 4096) := ⟨ht1, ht2, hf1, hf2⟩
      clear hn hok ht1 ht2 hfok hf1 hf2 hkey hn1 hbell htyp hmk hmk2 hsig
      obtain ⟨k0, k1, k2, k3, k4, _, _, _, _, _, kt⟩ := tk_facts H5V.out
      obtain ⟨⟨p0, p1⟩, p2⟩ := DK.facts HDVr.out
      obtain ⟨s0, s1, s2⟩ := how_facts HHWr.out
      by_cases hlt : i < nn
      case pos =>
        have e0 : ¬ i < 30 := fun e => hgo ⟨hlt, e⟩
        have e1 : (i : Int) < (nn : Int) := by omega
        have e2' : ¬ (i : Int) < 30 := by omega
        clear hgo
        go_wp2_with fail
        with_reducible refine CT.out.mono ?_
        rintro e w1 ⟨Ay, cy, By, dy, rfl, hr1, hy1, hb1, _⟩
        clear k0 k1 k2 k3 k4 kt p0 p1 p2 s0 s1 s2 CT
        go_upto_region 13 with fail
        generalize hV : (w1.alloc (.cells #[.slice Ay n1 cy, .int .i64 (t1 : Int), .bool ov1, .bool li1, .bool h1] 34)).alloc (.cells #[.slice By mk dy, .int .i64 (sg : Int), .bool bell] 41) = V12
        obtain ⟨_, HK14, HB12⟩ := kx_new _ _ _ _ _ _ _ _ _ _ hV
        obtain ⟨b14, hb14⟩ : ∃ b, w1.heap.size + 1 = b := ⟨_, rfl⟩
        rw [hb14] at HK14
        rw [hb14]
        have hbx : Below V.heap.size V V12 := bCall hb1 HB12.out
        have HBV12 := keepd (bCall HBV.out hbx)
        have HD12 : Hid (DK V12 w.heap.size X room) := SR.call HDVr.out hbx (SR.lt HDVr.out)
        have HHW12 := keepd (SR.call HHWr.out hbx HHWr.out.lt)
        have H812 := keepd (SR.call H8V.out hbx H8V.out.lt)
        have HR812 := keepd (HR8.out.at_ hbx)
        have HY12 := keepd (hy1.at_ HB12.out)
        clear hV hb14 hr1 hy1 hb1 hbx HB12 HDVr HHWr H8V HR8 HR5 H5V HBV
        obtain ⟨f0, f1, f2', _, _, _, ft⟩ := ty_facts HK14.out
        by_cases hs0 : sg = 0
        case pos =>
          rw [hs0, show ((0 : Nat) : Int) = 0 from rfl] at f1
          have CW := keepd (awake_any V12 (HLD.out.below (bCall HB0.out HBV12.out)))
          go_wp2_with fail
          with_reducible refine CW.out.mono ?_
          rintro e w4 ⟨rfl, hb4⟩
          have HB4 := keepd (bCall (bCall HB0.out HBV12.out) hb4)
          clear hb4 CW
          go_wp2_with fail
          go_ret
          exact ⟨rfl, HB4.out⟩
        case neg =>
          obtain ⟨kx, hks, hplay, hs1, hs9, hkE⟩ := HSIG.out hs0
          obtain ⟨j, hj⟩ : ∃ j, kx.length = j := ⟨_, rfl⟩
          have hmj : mk = j + 1 := by rw [← HMK.out, hks, List.length_append, hj]; rfl
          have hY := HY12.out
          rw [hks] at hY
          obtain ⟨bB, oB, hB, hbB, hcB⟩ := last_cell hY
          subst hB
          rw [hj] at hcB
          have HYK : Hid (Rd V12 V12.heap.size (some ⟨bB, oB, none⟩) kx dy) := by
            have h0 := hY.take j
            rw [← hj, List.take_left' rfl] at h0
            exact h0
          obtain ⟨hu0, hu1, hu2⟩ := how_facts HHW12.out
          have z1 : ((sg : Int) == 0) = false := by simp; omega
          have z2 : ¬ (sg : Int) = 0 := by omega
          have z3 : ¬ (sg : Int) < 0 := by omega
          have z4 : ¬ (sg : Int) > 9 := by omega
          have z5 : ¬ (9 : Int) < (sg : Int) := by omega
          have x0 : ((mk : Int) == 0) = false := by simp; omega
          have x4 : ¬ (mk : Int) = 0 := by omega
          have x5 : ¬ mk = 0 := by omega
          have x1 : (0 : Int) ≤ (j : Int) := by omega
          have x2 : (j : Int) < (mk : Int) := by omega
          have x3 : (mk : Int) - 1 = (j : Int) := by omega
          have hj20 : j ≤ 20000 := Nat.le_of_succ_le (Nat.le_trans (Nat.le_of_eq hmj.symm) HMK2.out)
          have x6 : wrap64 (j : Int) = (j : Int) := wrap_few64 j hj20
          have x8 : IntKind.i64.wrap (j : Int) = (j : Int) := wrap_few j hj20
          have HJ20 := keepd hj20
          have x7 : ((u2.toNat : Int) != (u2.toNat : Int)) = false := by simp
          have hjd : j ≤ dy := by have h0 := hY.1; rw [List.length_append, hj] at h0; simp only [List.length_singleton] at h0; exact Nat.le_of_succ_le h0
          have HSL := keepd (slice_to (some ⟨bB, oB, none⟩) mk dy j hjd)
          have HPL := keepd hplay
          have HKE := keepd hkE
          have HJ := keepd hj
          have HMJ := keepd hmj
          have HS19 : Hid (1 ≤ sg ∧ sg ≤ 9) := ⟨hs1, hs9⟩
          clear hs0 hks hplay hkE hj hmj hY hs1 hs9 hjd hj20 HSIG HY12
          go_upto_region 15 with fail
          go_cut [133] from 107 to 133 (fun s133 wx => s133 = .bool false ∧ ∃ k, V12.drewN k = wx)
          case first =>
            go_quiet (fail)
            go_wp2_with fail
            go_meet
            exact ⟨rfl, _, rfl⟩
          case rest =>
            obtain ⟨rfl, nq, rfl⟩ := hcut
            obtain ⟨V13, hV13⟩ : ∃ V13, V13 = V12.drewN nq := ⟨_, rfl⟩
            have HD13 : Hid (DK V13 w.heap.size X room) := by rw [hV13]; exact HD12.out
            have HHW13 : Hid (SR 36 V13 (w.heap.size + 1) [.int .u8 (u2.toNat : Int), .bool e2, .bool f2]) := by rw [hV13]; exact HHW12.out
            have H813 : Hid (SR 32 V13 (V0.heap.size + 1) [.slice A8 nf c8, .int .i64 (tf : Int), .bool ovf, .bool lif]) := by rw [hV13]; exact H812.out
            have HT13 : Hid (SR 41 V13 b14 [.slice (some ⟨bB, oB, none⟩) mk dy, .int .i64 (sg : Int), .bool bell]) := by rw [hV13]; exact HK14.out
            have HR813 : Hid (Rd V13 V13.heap.size A8 lf c8) := by rw [hV13]; exact HR812.out.drewN nq
            have HYK13 : Hid (Rd V13 V13.heap.size (some ⟨bB, oB, none⟩) kx dy) := by rw [hV13]; exact HYK.out.drewN nq
            have HBV13 : Hid (Below V0.heap.size V0 V13) := by rw [hV13]; exact bDrewN HBV12.out nq
            rw [← hV13]
            clear hV13 HD12 HHW12 H812 HK14 HR812 HYK HBV12 f0 f1 f2' ft hu0 hu1 hu2 hbB hcB z1 z2 z3 z4 z5 x7
            have hj50 : j ≤ 50000 := Nat.le_trans HJ20.out (by decide)
            have CP := keepd fun (W : World) (hb : Below V13.heap.size V13 W) => Fr.play_own X room A8 lf nf c8 tf ovf lif (some ⟨bB, oB, none⟩) kx j dy W HI.out.2.2.1.symm (HR813.out.at_ hb) HTT.out.2.2.1 HTT.out.2.2.2 HJ.out.symm (HYK13.out.at_ hb) hj50 l n t ov li [] 0 0 HPL.out HI.out.2.1 rfl
            clear hj50
            have hsl := HSL.out
            go_upto_region 17 with fail
            go_cut [15, 16, 17] from 134 to 150 (fun s15 s16 s17 wx => ∃ (b : Nat) (Ak : Option Addr) (ck : Nat) (Be : Option Addr) (de : Nat), s15 = .pointer (some ⟨b, 0, none⟩) ∧ s16 = .slice Be 0 de ∧ s17 = .int .i64 ((0 : Nat) : Int) ∧ Hid (MidG V13 b l Ak n ck (t : Int) ov li [] Be 0 de wx))
            case first =>
              refine wp_region_held_drew (S := fun W => rowOf W w.heap.size = (dk X room).toArray ∧ isRow W 27 w.heap.size 63 = true ∧ W.cell? ⟨w.heap.size, 62, none⟩ = some (.int .i64 room) ∧ W.cell? ⟨V0.heap.size + 1, 0, none⟩ = some (.slice A8 nf c8) ∧ W.cell? ⟨V0.heap.size + 1, 1, none⟩ = some (.int .i64 (tf : Int)) ∧ W.cell? ⟨V0.heap.size + 1, 2, none⟩ = some (.bool ovf) ∧ W.cell? ⟨V0.heap.size + 1, 3, none⟩ = some (.bool lif) ∧ W.cell? ⟨b14, 0, none⟩ = some (.slice (some ⟨bB, oB, none⟩) mk dy) ∧ Below V13.heap.size V13 W) (by kernel_rfl) (sSg HD13.out H813.out HT13.out (Below.refl V13.heap.size V13).drew) (fun hHeld => ?_)
              refine wpAnyH_take (i := 0) (oi := { dst := some 135, op := Op.fieldAddr 27 (Operand.tmp 3) 0, type := 0, pos := "law.go:97", after := #[], guard := none }) (v := .pointer (some ⟨w.heap.size, 0, none⟩)) rfl (by kernel_rfl) (by kernel_rfl) (by kernel_rfl) (fun _ _ _ h => h) (Or.inl ⟨by rfl, fun W hW => ?_⟩) hHeld ?_
              · obtain ⟨q0, q1, q2, q3, q4, q5, q6, q7, q8⟩ := hW
                go_simp
              simp only [Act.put, List.setIfInBounds_toArray, List.set_cons_zero, List.set_cons_succ]
              refine wpAnyH_take (i := 1) (oi := { dst := some 136, op := Op.load 25 (Operand.tmp 135), type := 25, pos := "law.go:97", after := #[{ on := 0, ground := Ground.data }], guard := none }) (v := tv X) rfl (by kernel_rfl) (by kernel_rfl) (by kernel_rfl) (fun _ _ _ h => h) (Or.inl ⟨by rfl, fun W hW => ?_⟩) hHeld ?_
              · obtain ⟨q0, q1, q2, q3, q4, q5, q6, q7, q8⟩ := hW
                go_simp
              simp only [Act.put, List.setIfInBounds_toArray, List.set_cons_zero, List.set_cons_succ]
              refine wpAnyH_take (i := 2) (oi := { dst := some 137, op := Op.fieldAddr 27 (Operand.tmp 3) 1, type := 0, pos := "law.go:97", after := #[], guard := none }) (v := .pointer (some ⟨w.heap.size, 62, none⟩)) rfl (by kernel_rfl) (by kernel_rfl) (by kernel_rfl) (fun _ _ _ h => h) (Or.inl ⟨by rfl, fun W hW => ?_⟩) hHeld ?_
              · obtain ⟨q0, q1, q2, q3, q4, q5, q6, q7, q8⟩ := hW
                go_simp
              simp only [Act.put, List.setIfInBounds_toArray, List.set_cons_zero, List.set_cons_succ]
              refine wpAnyH_take (i := 3) (oi := { dst := some 138, op := Op.load 3 (Operand.tmp 137), type := 3, pos := "law.go:97", after := #[{ on := 2, ground := Ground.data }], guard := none }) (v := .int .i64 room) rfl (by kernel_rfl) (by kernel_rfl) (by kernel_rfl) (fun _ _ _ h => h) (Or.inl ⟨by rfl, fun W hW => ?_⟩) hHeld ?_
              · obtain ⟨q0, q1, q2, q3, q4, q5, q6, q7, q8⟩ := hW
                go_simp
              simp only [Act.put, List.setIfInBounds_toArray, List.set_cons_zero, List.set_cons_succ]
              refine wpAnyH_take (i := 4) (oi := { dst := some 139, op := Op.load 32 (Operand.tmp 8), type := 32, pos := "law.go:97", after := #[], guard := none }) (v := .agg #[.slice A8 nf c8, .int .i64 (tf : Int), .bool ovf, .bool lif]) rfl (by kernel_rfl) (by kernel_rfl) (by kernel_rfl) (fun _ _ _ h => h) (Or.inl ⟨by rfl, fun W hW => ?_⟩) hHeld ?_
              · obtain ⟨q0, q1, q2, q3, q4, q5, q6, q7, q8⟩ := hW
                go_simp
              simp only [Act.put, List.setIfInBounds_toArray, List.set_cons_zero, List.set_cons_succ]
              refine wpAnyH_take (i := 5) (oi := { dst := some 140, op := Op.fieldAddr 41 (Operand.tmp 14) 0, type := 0, pos := "law.go:97", after := #[], guard := none }) (v := .pointer (some ⟨b14, 0, none⟩)) rfl (by kernel_rfl) (by kernel_rfl) (by kernel_rfl) (fun _ _ _ h => h) (Or.inl ⟨by rfl, fun W hW => ?_⟩) hHeld ?_
              · obtain ⟨q0, q1, q2, q3, q4, q5, q6, q7, q8⟩ := hW
                go_simp
              simp only [Act.put, List.setIfInBounds_toArray, List.set_cons_zero, List.set_cons_succ]
              refine wpAnyH_take (i := 6) (oi := { dst := some 141, op := Op.load 28 (Operand.tmp 140), type := 28, pos := "law.go:97", after := #[{ on := 5, ground := Ground.data }], guard := none }) (v := .slice (some ⟨bB, oB, none⟩) mk dy) rfl (by kernel_rfl) (by kernel_rfl) (by kernel_rfl) (fun _ _ _ h => h) (Or.inl ⟨by rfl, fun W hW => ?_⟩) hHeld ?_
              · obtain ⟨q0, q1, q2, q3, q4, q5, q6, q7, q8⟩ := hW
                go_simp
              simp only [Act.put, List.setIfInBounds_toArray, List.set_cons_zero, List.set_cons_succ]
              refine wpAnyH_take (i := 7) (oi := { dst := some 142, op := Op.fieldAddr 41 (Operand.tmp 14) 0, type := 0, pos := "law.go:97", after := #[], guard := none }) (v := .pointer (some ⟨b14, 0, none⟩)) rfl (by kernel_rfl) (by kernel_rfl) (by kernel_rfl) (fun _ _ _ h => h) (Or.inl ⟨by rfl, fun W hW => ?_⟩) hHeld ?_
              · obtain ⟨q0, q1, q2, q3, q4, q5, q6, q7, q8⟩ := hW
                go_simp
              simp only [Act.put, List.setIfInBounds_toArray, List.set_cons_zero, List.set_cons_succ]
              refine wpAnyH_take (i := 8) (oi := { dst := some 143, op := Op.load 28 (Operand.tmp 142), type := 28, pos := "law.go:97", after := #[{ on := 7, ground := Ground.data }], guard := none }) (v := .slice (some ⟨bB, oB, none⟩) mk dy) rfl (by kernel_rfl) (by kernel_rfl) (by kernel_rfl) (fun _ _ _ h => h) (Or.inl ⟨by rfl, fun W hW => ?_⟩) hHeld ?_
              · obtain ⟨q0, q1, q2, q3, q4, q5, q6, q7, q8⟩ := hW
                go_simp
              simp only [Act.put, List.setIfInBounds_toArray, List.set_cons_zero, List.set_cons_succ]
              refine wpAnyH_take (i := 9) (oi := { dst := some 144, op := Op.call { callee := Callee.builtin Builtin.len, args := #[Operand.tmp 143], argTypes := #[28] }, type := 3, pos := "law.go:97", after := #[{ on := 8, ground := Ground.data }], guard := none }) (v := .int .i64 (mk : Int)) rfl (by kernel_rfl) (by kernel_rfl) (by kernel_rfl) (fun _ _ _ h => h) (Or.inl ⟨by rfl, fun W hW => ?_⟩) hHeld ?_
              · obtain ⟨q0, q1, q2, q3, q4, q5, q6, q7, q8⟩ := hW
                go_simp
              simp only [Act.put, List.setIfInBounds_toArray, List.set_cons_zero, List.set_cons_succ]
              refine wpAnyH_take (i := 10) (oi := { dst := some 145, op := Op.binOp BinOp.sub 3 (Operand.tmp 144) (Operand.const (Value.int IntKind.i64 1)) 3, type := 3, pos := "law.go:97", after := #[{ on := 9, ground := Ground.data }], guard := none }) (v := .int .i64 (j : Int)) rfl (by kernel_rfl) (by kernel_rfl) (by kernel_rfl) (fun _ _ _ h => h) (Or.inl ⟨by rfl, fun W hW => ?_⟩) hHeld ?_
              · obtain ⟨q0, q1, q2, q3, q4, q5, q6, q7, q8⟩ := hW
                go_simp
                try exact x8
              simp only [Act.put, List.setIfInBounds_toArray, List.set_cons_zero, List.set_cons_succ]
              refine wpAnyH_take (i := 11) (oi := { dst := some 146, op := Op.slice 28 (Operand.tmp 141) none (some (Operand.tmp 145)) none, type := 28, pos := "law.go:97", after := #[{ on := 6, ground := Ground.data }, { on := 10, ground := Ground.data }], guard := none }) (v := .slice (some ⟨bB, oB, none⟩) j dy) rfl (by kernel_rfl) (by kernel_rfl) (by kernel_rfl) (fun _ _ _ h => h) (Or.inl ⟨by rfl, fun W hW => ?_⟩) hHeld ?_
              · obtain ⟨q0, q1, q2, q3, q4, q5, q6, q7, q8⟩ := hW
                go_simp
              simp only [Act.put, List.setIfInBounds_toArray, List.set_cons_zero, List.set_cons_succ]
              refine wpAnyH_ready (rs := [12, 17]) (by kernel_rfl) (by simp) ?_
              refine AllReadyH.cons (o := { dst := some 147, op := Op.call { callee := Callee.value (Operand.func 21), args := #[Operand.tmp 136, Operand.tmp 138, Operand.tmp 139, Operand.tmp 146], argTypes := #[25, 3, 32, 28] }, type := 58, pos := "law.go:97", after := #[{ on := 1, ground := Ground.data }, { on := 3, ground := Ground.data }, { on := 4, ground := Ground.data }, { on := 11, ground := Ground.data }], guard := none }) rfl (fun K hK => ?_) (AllReadyH.cons (o := { dst := some 15, op := Op.alloc 32, type := 0, pos := "law.go:97", after := #[], guard := none }) rfl (fun K hK => ?_) AllReadyH.nil)
              · go_simp
                with_reducible refine (CP.out (V13).drew (Below.refl V13.heap.size V13).drew).mono ?_
                rintro e wz1 ⟨Ak, ck, Be, de, Lk, rfl, e1x, e2x, hxz1, hyz1, hcz1, _, _, _⟩
                have hbz1 : Below V13.heap.size V13 wz1 := bCall (Below.refl V13.heap.size V13).drew hcz1
                go_wp2_with fail
                refine hK.out _ _ (sSg HD13.out H813.out HT13.out hbz1) (fun hHeld2 => ?_)
                clear hK K hHeld
                have hHeld := hHeld2
                clear hHeld2
                try simp only [Act.put, List.setIfInBounds_toArray, List.set_cons_zero, List.set_cons_succ]
                refine wpAnyH_take (i := 13) (oi := { dst := some 134, op := Op.move (Operand.tmp 147), type := 58, pos := "law.go:97", after := #[{ on := 12, ground := Ground.data }], guard := none }) (v := .tuple #[.agg #[.slice Ak n ck, .int .i64 (t : Int), .bool ov, .bool li], .slice Be 0 de, .int .i64 ((0 : Nat) : Int)]) rfl (by kernel_rfl) (by kernel_rfl) (by kernel_rfl) (fun _ _ _ h => h) (Or.inl ⟨by rfl, fun W hW => ?_⟩) hHeld ?_
                · obtain ⟨q0, q1, q2, q3, q4, q5, q6, q7, q8⟩ := hW
                  go_simp
                simp only [Act.put, List.setIfInBounds_toArray, List.set_cons_zero, List.set_cons_succ]
                refine wpAnyH_take (i := 14) (oi := { dst := some 148, op := Op.extract (Operand.tmp 134) 0, type := 32, pos := "law.go:97", after := #[{ on := 13, ground := Ground.data }], guard := none }) (v := .agg #[.slice Ak n ck, .int .i64 (t : Int), .bool ov, .bool li]) rfl (by kernel_rfl) (by kernel_rfl) (by kernel_rfl) (fun _ _ _ h => h) (Or.inl ⟨by rfl, fun W hW => ?_⟩) hHeld ?_
                · obtain ⟨q0, q1, q2, q3, q4, q5, q6, q7, q8⟩ := hW
                  go_simp
                simp only [Act.put, List.setIfInBounds_toArray, List.set_cons_zero, List.set_cons_succ]
                refine wpAnyH_take (i := 15) (oi := { dst := some 149, op := Op.extract (Operand.tmp 134) 1, type := 53, pos := "law.go:97", after := #[{ on := 13, ground := Ground.data }, { on := 18, ground := Ground.gcOnly Departure.lateStores }], guard := none }) (v := .slice Be 0 de) rfl (by kernel_rfl) (by kernel_rfl) (by kernel_rfl) (fun _ _ _ h => h) (Or.inl ⟨by rfl, fun W hW => ?_⟩) hHeld ?_
                · obtain ⟨q0, q1, q2, q3, q4, q5, q6, q7, q8⟩ := hW
                  go_simp
                simp only [Act.put, List.setIfInBounds_toArray, List.set_cons_zero, List.set_cons_succ]
                refine wpAnyH_take (i := 16) (oi := { dst := some 150, op := Op.extract (Operand.tmp 134) 2, type := 3, pos := "law.go:97", after := #[{ on := 13, ground := Ground.data }, { on := 19, ground := Ground.gcOnly Departure.lateStores }], guard := none }) (v := .int .i64 ((0 : Nat) : Int)) rfl (by kernel_rfl) (by kernel_rfl) (by kernel_rfl) (fun _ _ _ h => h) (Or.inl ⟨by rfl, fun W hW => ?_⟩) hHeld ?_
                · obtain ⟨q0, q1, q2, q3, q4, q5, q6, q7, q8⟩ := hW
                  go_simp
                simp only [Act.put, List.setIfInBounds_toArray, List.set_cons_zero, List.set_cons_succ]
                refine wpAnyH_ready (rs := [17]) (by kernel_rfl) (by simp) ?_
                refine AllReadyH.cons (o := { dst := some 15, op := Op.alloc 32, type := 0, pos := "law.go:97", after := #[], guard := none }) rfl (fun K hK => ?_) AllReadyH.nil
                go_simp
                have hbz2 : Below V13.heap.size V13 (wz1.alloc (.cells #[.slice none 0 0, .int .i64 0, .bool false, .bool false] 32)) := bAlloc hbz1 (.cells #[.slice none 0 0, .int .i64 0, .bool false, .bool false] 32)
                have hzz2 : SR 32 (wz1.alloc (.cells #[.slice none 0 0, .int .i64 0, .bool false, .bool false] 32)) (wz1.heap.size) [.slice none 0 0, .int .i64 0, .bool false, .bool false] := SR.new 32 (wz1) [.slice none 0 0, .int .i64 0, .bool false, .bool false]
                have hvz2 : V13.heap.size ≤ wz1.heap.size := by have h0 := Below.size hbz1; exact h0
                have hxz2 := (hxz1).at_ (bAlloc (Below.refl _ _) (.cells #[.slice none 0 0, .int .i64 0, .bool false, .bool false] 32))
                have hyz2 := (hyz1).at_ (bAlloc (Below.refl _ _) (.cells #[.slice none 0 0, .int .i64 0, .bool false, .bool false] 32))
                refine hK.out _ _ (sSg HD13.out H813.out HT13.out hbz2) (fun hHeld2 => ?_)
                clear hK K hHeld
                have hHeld := hHeld2
                clear hHeld2
                try simp only [Act.put, List.setIfInBounds_toArray, List.set_cons_zero, List.set_cons_succ]
                generalize hWz2 : wz1.alloc (.cells #[.slice none 0 0, .int .i64 0, .bool false, .bool false] 32) = Wz2 at *
                clear hWz2
                obtain ⟨y0, y1, y2, y3, y4, y5, y6, y7, y8⟩ := st_facts hzz2
                have hbS : Below V13.heap.size V13 (set4 Wz2 wz1.heap.size (.slice Ak n ck) (.int .i64 (t : Int)) (.bool ov) (.bool li)) := set4_below hbz2 hvz2
                have HM := keepd (midg_b (n := n) (z := (t : Int)) (ov := ov) (li := li) hzz2 hvz2 hbz2 e1x e2x hxz2 hyz2)
                refine wpAnyH_ready (rs := [18]) (by kernel_rfl) (by simp) ?_
                refine AllReadyH.cons (o := { dst := none, op := Op.store 32 (Operand.tmp 15) (Operand.tmp 148), type := 0, pos := "law.go:97", after := #[{ on := 17, ground := Ground.data }, { on := 14, ground := Ground.data }, { on := 12, ground := Ground.chain }, { on := 0, ground := Ground.phase }, { on := 1, ground := Ground.phase }, { on := 2, ground := Ground.phase }, { on := 3, ground := Ground.phase }, { on := 4, ground := Ground.phase }, { on := 5, ground := Ground.phase }, { on := 6, ground := Ground.phase }, { on := 7, ground := Ground.phase }, { on := 8, ground := Ground.phase }, { on := 9, ground := Ground.phase }, { on := 10, ground := Ground.phase }, { on := 11, ground := Ground.phase }, { on := 12, ground := Ground.phase }, { on := 13, ground := Ground.phase }, { on := 14, ground := Ground.phase }, { on := 15, ground := Ground.textOnly Departure.lateStores }, { on := 16, ground := Ground.textOnly Departure.lateStores }, { on := 17, ground := Ground.phase }], guard := none }) rfl (fun K hK => ?_) AllReadyH.nil
                go_simp
                refine hK.out _ (set4 Wz2 wz1.heap.size (.slice Ak n ck) (.int .i64 (t : Int)) (.bool ov) (.bool li)) (sSg HD13.out H813.out HT13.out hbS) (fun hHeld2 => ?_)
                clear hK K hHeld
                have hHeld := hHeld2
                clear hHeld2
                try simp only [Act.put, List.setIfInBounds_toArray, List.set_cons_zero, List.set_cons_succ]
                refine wpAnyH_take (i := 19) (oi := { dst := some 16, op := Op.assign (Operand.tmp 149), type := 53, pos := "law.go:97", after := #[{ on := 15, ground := Ground.data }, { on := 18, ground := Ground.chain }, { on := 0, ground := Ground.phase }, { on := 1, ground := Ground.phase }, { on := 2, ground := Ground.phase }, { on := 3, ground := Ground.phase }, { on := 4, ground := Ground.phase }, { on := 5, ground := Ground.phase }, { on := 6, ground := Ground.phase }, { on := 7, ground := Ground.phase }, { on := 8, ground := Ground.phase }, { on := 9, ground := Ground.phase }, { on := 10, ground := Ground.phase }, { on := 11, ground := Ground.phase }, { on := 12, ground := Ground.phase }, { on := 13, ground := Ground.phase }, { on := 14, ground := Ground.phase }, { on := 15, ground := Ground.phase }, { on := 16, ground := Ground.textOnly Departure.lateStores }, { on := 17, ground := Ground.phase }, { on := 18, ground := Ground.phase }], guard := none }) (v := .slice Be 0 de) rfl (by kernel_rfl) (by kernel_rfl) (by kernel_rfl) (fun _ _ _ h => h) (Or.inl ⟨by rfl, fun W hW => ?_⟩) hHeld ?_
                · obtain ⟨q0, q1, q2, q3, q4, q5, q6, q7, q8⟩ := hW
                  go_simp
                simp only [Act.put, List.setIfInBounds_toArray, List.set_cons_zero, List.set_cons_succ]
                refine wpAnyH_take (i := 20) (oi := { dst := some 17, op := Op.assign (Operand.tmp 150), type := 3, pos := "law.go:97", after := #[{ on := 16, ground := Ground.data }, { on := 19, ground := Ground.chain }, { on := 0, ground := Ground.phase }, { on := 1, ground := Ground.phase }, { on := 2, ground := Ground.phase }, { on := 3, ground := Ground.phase }, { on := 4, ground := Ground.phase }, { on := 5, ground := Ground.phase }, { on := 6, ground := Ground.phase }, { on := 7, ground := Ground.phase }, { on := 8, ground := Ground.phase }, { on := 9, ground := Ground.phase }, { on := 10, ground := Ground.phase }, { on := 11, ground := Ground.phase }, { on := 12, ground := Ground.phase }, { on := 13, ground := Ground.phase }, { on := 14, ground := Ground.phase }, { on := 15, ground := Ground.phase }, { on := 16, ground := Ground.phase }, { on := 17, ground := Ground.phase }, { on := 18, ground := Ground.phase }, { on := 19, ground := Ground.phase }], guard := none }) (v := .int .i64 ((0 : Nat) : Int)) rfl (by kernel_rfl) (by kernel_rfl) (by kernel_rfl) (fun _ _ _ h => h) (Or.inl ⟨by rfl, fun W hW => ?_⟩) hHeld ?_
                · obtain ⟨q0, q1, q2, q3, q4, q5, q6, q7, q8⟩ := hW
                  go_simp
                simp only [Act.put, List.setIfInBounds_toArray, List.set_cons_zero, List.set_cons_succ]
                refine wpAnyH_done (by kernel_rfl) ?_ _
                go_wp2_with fail
                go_meet
                exact ⟨_, _, _, _, _, rfl, rfl, rfl, HM⟩
              · go_simp
                have hbz3 : Below V13.heap.size V13 ((V13.alloc (.cells #[.slice none 0 0, .int .i64 0, .bool false, .bool false] 32)).drew) := bAlloc (Below.refl V13.heap.size V13).drew (.cells #[.slice none 0 0, .int .i64 0, .bool false, .bool false] 32)
                have hzz3 : SR 32 ((V13.alloc (.cells #[.slice none 0 0, .int .i64 0, .bool false, .bool false] 32)).drew) (V13.heap.size) [.slice none 0 0, .int .i64 0, .bool false, .bool false] := SR.new 32 (V13) [.slice none 0 0, .int .i64 0, .bool false, .bool false]
                have hvz3 : V13.heap.size ≤ V13.heap.size := by have h0 := Below.size (Below.refl V13.heap.size V13).drew; exact h0
                refine hK.out _ _ (sSg HD13.out H813.out HT13.out hbz3) (fun hHeld2 => ?_)
                clear hK K hHeld
                have hHeld := hHeld2
                clear hHeld2
                try simp only [Act.put, List.setIfInBounds_toArray, List.set_cons_zero, List.set_cons_succ]
                generalize hWz3 : (V13.alloc (.cells #[.slice none 0 0, .int .i64 0, .bool false, .bool false] 32)).drew = Wz3 at *
                clear hWz3
                refine wpAnyH_ready (rs := [12]) (by kernel_rfl) (by simp) ?_
                refine AllReadyH.cons (o := { dst := some 147, op := Op.call { callee := Callee.value (Operand.func 21), args := #[Operand.tmp 136, Operand.tmp 138, Operand.tmp 139, Operand.tmp 146], argTypes := #[25, 3, 32, 28] }, type := 58, pos := "law.go:97", after := #[{ on := 1, ground := Ground.data }, { on := 3, ground := Ground.data }, { on := 4, ground := Ground.data }, { on := 11, ground := Ground.data }], guard := none }) rfl (fun K hK => ?_) AllReadyH.nil
                go_simp
                with_reducible refine (CP.out Wz3 hbz3).mono ?_
                rintro e wz4 ⟨Ak, ck, Be, de, Lk, rfl, e1x, e2x, hxz4, hyz4, hcz4, _, _, _⟩
                have hbz4 : Below V13.heap.size V13 wz4 := bCall hbz3 hcz4
                have hzz4_17 := SR.call hzz3 hcz4 (hzz3).lt
                go_wp2_with fail
                refine hK.out _ _ (sSg HD13.out H813.out HT13.out hbz4) (fun hHeld2 => ?_)
                clear hK K hHeld
                have hHeld := hHeld2
                clear hHeld2
                try simp only [Act.put, List.setIfInBounds_toArray, List.set_cons_zero, List.set_cons_succ]
                refine wpAnyH_take (i := 13) (oi := { dst := some 134, op := Op.move (Operand.tmp 147), type := 58, pos := "law.go:97", after := #[{ on := 12, ground := Ground.data }], guard := none }) (v := .tuple #[.agg #[.slice Ak n ck, .int .i64 (t : Int), .bool ov, .bool li], .slice Be 0 de, .int .i64 ((0 : Nat) : Int)]) rfl (by kernel_rfl) (by kernel_rfl) (by kernel_rfl) (fun _ _ _ h => h) (Or.inl ⟨by rfl, fun W hW => ?_⟩) hHeld ?_
                · obtain ⟨q0, q1, q2, q3, q4, q5, q6, q7, q8⟩ := hW
                  go_simp
                simp only [Act.put, List.setIfInBounds_toArray, List.set_cons_zero, List.set_cons_succ]
                refine wpAnyH_take (i := 14) (oi := { dst := some 148, op := Op.extract (Operand.tmp 134) 0, type := 32, pos := "law.go:97", after := #[{ on := 13, ground := Ground.data }], guard := none }) (v := .agg #[.slice Ak n ck, .int .i64 (t : Int), .bool ov, .bool li]) rfl (by kernel_rfl) (by kernel_rfl) (by kernel_rfl) (fun _ _ _ h => h) (Or.inl ⟨by rfl, fun W hW => ?_⟩) hHeld ?_
                · obtain ⟨q0, q1, q2, q3, q4, q5, q6, q7, q8⟩ := hW
                  go_simp
                simp only [Act.put, List.setIfInBounds_toArray, List.set_cons_zero, List.set_cons_succ]
                refine wpAnyH_take (i := 15) (oi := { dst := some 149, op := Op.extract (Operand.tmp 134) 1, type := 53, pos := "law.go:97", after := #[{ on := 13, ground := Ground.data }, { on := 18, ground := Ground.gcOnly Departure.lateStores }], guard := none }) (v := .slice Be 0 de) rfl (by kernel_rfl) (by kernel_rfl) (by kernel_rfl) (fun _ _ _ h => h) (Or.inl ⟨by rfl, fun W hW => ?_⟩) hHeld ?_
                · obtain ⟨q0, q1, q2, q3, q4, q5, q6, q7, q8⟩ := hW
                  go_simp
                simp only [Act.put, List.setIfInBounds_toArray, List.set_cons_zero, List.set_cons_succ]
                refine wpAnyH_take (i := 16) (oi := { dst := some 150, op := Op.extract (Operand.tmp 134) 2, type := 3, pos := "law.go:97", after := #[{ on := 13, ground := Ground.data }, { on := 19, ground := Ground.gcOnly Departure.lateStores }], guard := none }) (v := .int .i64 ((0 : Nat) : Int)) rfl (by kernel_rfl) (by kernel_rfl) (by kernel_rfl) (fun _ _ _ h => h) (Or.inl ⟨by rfl, fun W hW => ?_⟩) hHeld ?_
                · obtain ⟨q0, q1, q2, q3, q4, q5, q6, q7, q8⟩ := hW
                  go_simp
                simp only [Act.put, List.setIfInBounds_toArray, List.set_cons_zero, List.set_cons_succ]
                obtain ⟨y0, y1, y2, y3, y4, y5, y6, y7, y8⟩ := st_facts hzz4_17
                have hbS : Below V13.heap.size V13 (set4 wz4 V13.heap.size (.slice Ak n ck) (.int .i64 (t : Int)) (.bool ov) (.bool li)) := set4_below hbz4 hvz3
                have HM := keepd (midg_b (n := n) (z := (t : Int)) (ov := ov) (li := li) hzz4_17 hvz3 hbz4 e1x e2x hxz4 hyz4)
                refine wpAnyH_ready (rs := [18]) (by kernel_rfl) (by simp) ?_
                refine AllReadyH.cons (o := { dst := none, op := Op.store 32 (Operand.tmp 15) (Operand.tmp 148), type := 0, pos := "law.go:97", after := #[{ on := 17, ground := Ground.data }, { on := 14, ground := Ground.data }, { on := 12, ground := Ground.chain }, { on := 0, ground := Ground.phase }, { on := 1, ground := Ground.phase }, { on := 2, ground := Ground.phase }, { on := 3, ground := Ground.phase }, { on := 4, ground := Ground.phase }, { on := 5, ground := Ground.phase }, { on := 6, ground := Ground.phase }, { on := 7, ground := Ground.phase }, { on := 8, ground := Ground.phase }, { on := 9, ground := Ground.phase }, { on := 10, ground := Ground.phase }, { on := 11, ground := Ground.phase }, { on := 12, ground := Ground.phase }, { on := 13, ground := Ground.phase }, { on := 14, ground := Ground.phase }, { on := 15, ground := Ground.textOnly Departure.lateStores }, { on := 16, ground := Ground.textOnly Departure.lateStores }, { on := 17, ground := Ground.phase }], guard := none }) rfl (fun K hK => ?_) AllReadyH.nil
                go_simp
                refine hK.out _ (set4 wz4 V13.heap.size (.slice Ak n ck) (.int .i64 (t : Int)) (.bool ov) (.bool li)) (sSg HD13.out H813.out HT13.out hbS) (fun hHeld2 => ?_)
                clear hK K hHeld
                have hHeld := hHeld2
                clear hHeld2
                try simp only [Act.put, List.setIfInBounds_toArray, List.set_cons_zero, List.set_cons_succ]
                refine wpAnyH_take (i := 19) (oi := { dst := some 16, op := Op.assign (Operand.tmp 149), type := 53, pos := "law.go:97", after := #[{ on := 15, ground := Ground.data }, { on := 18, ground := Ground.chain }, { on := 0, ground := Ground.phase }, { on := 1, ground := Ground.phase }, { on := 2, ground := Ground.phase }, { on := 3, ground := Ground.phase }, { on := 4, ground := Ground.phase }, { on := 5, ground := Ground.phase }, { on := 6, ground := Ground.phase }, { on := 7, ground := Ground.phase }, { on := 8, ground := Ground.phase }, { on := 9, ground := Ground.phase }, { on := 10, ground := Ground.phase }, { on := 11, ground := Ground.phase }, { on := 12, ground := Ground.phase }, { on := 13, ground := Ground.phase }, { on := 14, ground := Ground.phase }, { on := 15, ground := Ground.phase }, { on := 16, ground := Ground.textOnly Departure.lateStores }, { on := 17, ground := Ground.phase }, { on := 18, ground := Ground.phase }], guard := none }) (v := .slice Be 0 de) rfl (by kernel_rfl) (by kernel_rfl) (by kernel_rfl) (fun _ _ _ h => h) (Or.inl ⟨by rfl, fun W hW => ?_⟩) hHeld ?_
                · obtain ⟨q0, q1, q2, q3, q4, q5, q6, q7, q8⟩ := hW
                  go_simp
                simp only [Act.put, List.setIfInBounds_toArray, List.set_cons_zero, List.set_cons_succ]
                refine wpAnyH_take (i := 20) (oi := { dst := some 17, op := Op.assign (Operand.tmp 150), type := 3, pos := "law.go:97", after := #[{ on := 16, ground := Ground.data }, { on := 19, ground := Ground.chain }, { on := 0, ground := Ground.phase }, { on := 1, ground := Ground.phase }, { on := 2, ground := Ground.phase }, { on := 3, ground := Ground.phase }, { on := 4, ground := Ground.phase }, { on := 5, ground := Ground.phase }, { on := 6, ground := Ground.phase }, { on := 7, ground := Ground.phase }, { on := 8, ground := Ground.phase }, { on := 9, ground := Ground.phase }, { on := 10, ground := Ground.phase }, { on := 11, ground := Ground.phase }, { on := 12, ground := Ground.phase }, { on := 13, ground := Ground.phase }, { on := 14, ground := Ground.phase }, { on := 15, ground := Ground.phase }, { on := 16, ground := Ground.phase }, { on := 17, ground := Ground.phase }, { on := 18, ground := Ground.phase }, { on := 19, ground := Ground.phase }], guard := none }) (v := .int .i64 ((0 : Nat) : Int)) rfl (by kernel_rfl) (by kernel_rfl) (by kernel_rfl) (fun _ _ _ h => h) (Or.inl ⟨by rfl, fun W hW => ?_⟩) hHeld ?_
                · obtain ⟨q0, q1, q2, q3, q4, q5, q6, q7, q8⟩ := hW
                  go_simp
                simp only [Act.put, List.setIfInBounds_toArray, List.set_cons_zero, List.set_cons_succ]
                refine wpAnyH_done (by kernel_rfl) ?_ _
                go_wp2_with fail
                go_meet
                exact ⟨_, _, _, _, _, rfl, rfl, rfl, HM⟩
            case rest =>
              obtain ⟨b15, Ak, ck, Be, de, rfl, rfl, rfl, HM⟩ := hcut
              obtain ⟨V14, hV14⟩ : ∃ V14, V14 = wc := ⟨_, rfl⟩
              subst hV14
              obtain ⟨m1, m2, _, m4, m5⟩ := HM.out
              have HBV14 := keepd (bCall HBV13.out m4)
              have HD14 : Hid (DK V14 w.heap.size X room) := SR.call HD13.out m4 (SR.lt HD13.out)
              have HHW14 := keepd (SR.call HHW13.out m4 HHW13.out.lt)
              have HT14 := keepd (SR.call HT13.out m4 HT13.out.lt)
              have HK15 := keepd m1
              have HR15 := keepd m2
              have hke := HKE.out
              rw [HKEY.out] at hke
              unfold sigE at hke
              simp only [Res.mk.injEq] at hke
              obtain ⟨q1, q2, q3⟩ := hke
              have HBL : Hid (bell = false) := by rw [← HBELL.out, q3]; rfl
              have hisg : isSig (sg : Int) = true := by unfold isSig; simp only [decide_eq_true_eq]; have h0 := HS19.out; omega
              have hme : es.length = 1 := by rw [q2]; rfl
              have CK := keepd (Fr.key_own X room Ak l n ck t ov li u2 V14 HI.out.2.1.symm m2 HTT.out.1 HTT.out.2.1 l1 n1 t1 ov1 li1 es 1 be bell HKEY.out HN1.out hme HBELL.out)
              have CS := keepd fun (W : World) (hr : Rd W W.heap.size Ak l ck) => sig_any Ak l n ck t (t : Int) ov li (sg : Int) W HI.out.2.1.symm hr HTT.out.2.1 HTT.out.1 rfl hisg l1 n1 t1 ov1 li1 q1.symm HN1.out
              have HQ2 := keepd q2
              clear m1 m2 m4 m5 HM q1 q2 q3 hisg hme hsl HD13 HHW13 HT13 HBV13 HR813 HYK13 H813 CP
              obtain ⟨⟨p0, p1⟩, p2⟩ := DK.facts HD14.out
              obtain ⟨s0, s1, s2⟩ := how_facts HHW14.out
              obtain ⟨y0, y1, y2, y3, _, _, _, _, yt⟩ := st_facts HK15.out
              go_wp2_with fail
              with_reducible refine CK.out.mono ?_
              rintro e w15 ⟨A9, c9, B9, d9, L9, rfl, e1x, e2x, hr9, hre9, hb15, _, _, _⟩
              clear p0 p1 p2 s0 s1 s2 y0 y1 y2 y3 yt CK
              go_upto_region 19 with fail
              generalize hV : w15.alloc (.cells #[.slice A9 n1 c9, .int .i64 (t1 : Int), .bool ov1, .bool li1] 32) = V18
              obtain ⟨HK18, HB18⟩ := st_new _ _ _ _ _ _ hV
              obtain ⟨b18, hb18⟩ : ∃ b, w15.heap.size = b := ⟨_, rfl⟩
              rw [hb18] at HK18
              rw [hb18]
              have hbx := bCall hb15 HB18.out
              have HBV18 := keepd (bCall HBV14.out hbx)
              have HT18 := keepd (SR.call HT14.out hbx HT14.out.lt)
              have HK1518 := keepd (SR.call HK15.out hbx HK15.out.lt)
              have HR1518 := keepd (HR15.out.at_ hbx)
              have HR918 := keepd (hr9.at_ HB18.out)
              have HE918 := keepd (hre9.at_ HB18.out)
              have HL9 := keepd e1x
              have HL9M := keepd e2x
              clear hV hb18 e1x e2x hr9 hre9 hb15 hbx HB18 HD14 HHW14 HT14 HK15 HR15 HBV14
              obtain ⟨y0, y1, y2, y3, _, _, _, _, yt⟩ := st_facts HK1518.out
              obtain ⟨f0, f1, f2', _, _, _, ft⟩ := ty_facts HT18.out
              have CSp := keepd (CS.out V18 HR1518.out)
              go_wp2_with fail
              with_reducible refine CSp.out.mono ?_
              rintro e w19 ⟨Aa, ca, Ba, da, La, rfl, e1x, e2x, hra, hrea, hb19⟩
              clear y0 y1 y2 y3 yt f0 f1 f2' ft CSp CS
              go_upto_region 20 with fail
              generalize hV : w19.alloc (.cells #[.slice Aa n1 ca, .int .i64 (t1 : Int), .bool ov1, .bool li1] 32) = V20
              obtain ⟨HK21, HB20⟩ := st_new _ _ _ _ _ _ hV
              obtain ⟨b21, hb21⟩ : ∃ b, w19.heap.size = b := ⟨_, rfl⟩
              rw [hb21] at HK21
              rw [hb21]
              have hbx := bCall hb19 HB20.out
              have HBV20 := keepd (bCall HBV18.out hbx)
              have HK1820 := keepd (SR.call HK18.out hbx HK18.out.lt)
              have HR920 := keepd (HR918.out.at_ hbx)
              have HE920 := keepd (HE918.out.at_ hbx)
              have HRA := keepd (hra.at_ HB20.out)
              have HEA := keepd (hrea.at_ HB20.out)
              have HLA := keepd e1x
              have HLAM := keepd e2x
              clear hV hb21 e1x e2x hra hrea hb19 hbx HB20 HK18 HT18 HK1518 HR1518 HR918 HE918 HBV18
              obtain rfl : bell = false := HBL.out
              obtain ⟨y0, y1, y2, y3, _, _, _, _, yt⟩ := st_facts HK1820.out
              obtain ⟨j0, j1, j2, j3, _, _, _, _, jt⟩ := st_facts HK21.out
              have C1 := keepd (esame_any A9 Aa l1 l1 n1 n1 c9 ca (t1 : Int) (t1 : Int) ov1 ov1 li1 li1 true V20 HN1.out.symm HN1.out.symm HR920.out HRA.out (sameS_iff.2 ⟨rfl, rfl, rfl, rfl⟩))
              go_wp2_with fail
              with_reducible refine C1.out.mono ?_
              rintro e w22 ⟨rfl, hb22⟩
              have HBV22 := keepd (bCall HBV20.out hb22)
              have CA := keepd (alike_any B9 Ba L9 La 1 1 d9 da true w22 HL9M.out.symm HLAM.out.symm (HE920.out.at_ hb22) (HEA.out.at_ hb22) (likeE_iff.2 (by rw [HL9.out, HLA.out, HQ2.out])) (by omega))
              clear y0 y1 y2 y3 yt j0 j1 j2 j3 jt hb22 C1
              go_wp2_with fail
              with_reducible refine CA.out.mono ?_
              rintro e w23 ⟨rfl, hb23⟩
              have HBV23 := keepd (bCall HBV22.out hb23)
              have CW := keepd (awake_any w23 (HLD.out.below (bCall HB0.out HBV23.out)))
              clear hb23 CA
              go_wp2_with fail
              with_reducible refine CW.out.mono ?_
              rintro e w24 ⟨rfl, hb24⟩
              have HB24 := keepd (bCall (bCall HB0.out HBV23.out) hb24)
              clear hb24 CW
              go_wp2_with fail
              go_ret
              exact ⟨rfl, HB24.out⟩
      case neg =>
        have e1 : ¬ (i : Int) < (nn : Int) := by omega
        clear hgo
        go_wp2_with fail
        with_reducible refine CT.out.mono ?_
        rintro e w1 ⟨Ay, cy, By, dy, rfl, hr1, hy1, hb1, _⟩
        clear k0 k1 k2 k3 k4 kt p0 p1 p2 s0 s1 s2 CT
        go_upto_region 13 with fail
        generalize hV : (w1.alloc (.cells #[.slice Ay n1 cy, .int .i64 (t1 : Int), .bool ov1, .bool li1, .bool h1] 34)).alloc (.cells #[.slice By mk dy, .int .i64 (sg : Int), .bool bell] 41) = V12
        obtain ⟨_, HK14, HB12⟩ := kx_new _ _ _ _ _ _ _ _ _ _ hV
        obtain ⟨b14, hb14⟩ : ∃ b, w1.heap.size + 1 = b := ⟨_, rfl⟩
        rw [hb14] at HK14
        rw [hb14]
        have hbx : Below V.heap.size V V12 := bCall hb1 HB12.out
        have HBV12 := keepd (bCall HBV.out hbx)
        have HD12 : Hid (DK V12 w.heap.size X room) := SR.call HDVr.out hbx (SR.lt HDVr.out)
        have HHW12 := keepd (SR.call HHWr.out hbx HHWr.out.lt)
        have H812 := keepd (SR.call H8V.out hbx H8V.out.lt)
        have HR812 := keepd (HR8.out.at_ hbx)
        have HY12 := keepd (hy1.at_ HB12.out)
        clear hV hb14 hr1 hy1 hb1 hbx HB12 HDVr HHWr H8V HR8 HR5 H5V HBV
        obtain ⟨f0, f1, f2', _, _, _, ft⟩ := ty_facts HK14.out
        by_cases hs0 : sg = 0
        case pos =>
          rw [hs0, show ((0 : Nat) : Int) = 0 from rfl] at f1
          have CW := keepd (awake_any V12 (HLD.out.below (bCall HB0.out HBV12.out)))
          go_wp2_with fail
          with_reducible refine CW.out.mono ?_
          rintro e w4 ⟨rfl, hb4⟩
          have HB4 := keepd (bCall (bCall HB0.out HBV12.out) hb4)
          clear hb4 CW
          go_wp2_with fail
          go_ret
          exact ⟨rfl, HB4.out⟩
        case neg =>
          obtain ⟨kx, hks, hplay, hs1, hs9, hkE⟩ := HSIG.out hs0
          obtain ⟨j, hj⟩ : ∃ j, kx.length = j := ⟨_, rfl⟩
          have hmj : mk = j + 1 := by rw [← HMK.out, hks, List.length_append, hj]; rfl
          have hY := HY12.out
          rw [hks] at hY
          obtain ⟨bB, oB, hB, hbB, hcB⟩ := last_cell hY
          subst hB
          rw [hj] at hcB
          have HYK : Hid (Rd V12 V12.heap.size (some ⟨bB, oB, none⟩) kx dy) := by
            have h0 := hY.take j
            rw [← hj, List.take_left' rfl] at h0
            exact h0
          obtain ⟨hu0, hu1, hu2⟩ := how_facts HHW12.out
          have z1 : ((sg : Int) == 0) = false := by simp; omega
          have z2 : ¬ (sg : Int) = 0 := by omega
          have z3 : ¬ (sg : Int) < 0 := by omega
          have z4 : ¬ (sg : Int) > 9 := by omega
          have z5 : ¬ (9 : Int) < (sg : Int) := by omega
          have x0 : ((mk : Int) == 0) = false := by simp; omega
          have x4 : ¬ (mk : Int) = 0 := by omega
          have x5 : ¬ mk = 0 := by omega
          have x1 : (0 : Int) ≤ (j : Int) := by omega
          have x2 : (j : Int) < (mk : Int) := by omega
          have x3 : (mk : Int) - 1 = (j : Int) := by omega
          have hj20 : j ≤ 20000 := Nat.le_of_succ_le (Nat.le_trans (Nat.le_of_eq hmj.symm) HMK2.out)
          have x6 : wrap64 (j : Int) = (j : Int) := wrap_few64 j hj20
          have x8 : IntKind.i64.wrap (j : Int) = (j : Int) := wrap_few j hj20
          have HJ20 := keepd hj20
          have x7 : ((u2.toNat : Int) != (u2.toNat : Int)) = false := by simp
          have hjd : j ≤ dy := by have h0 := hY.1; rw [List.length_append, hj] at h0; simp only [List.length_singleton] at h0; exact Nat.le_of_succ_le h0
          have HSL := keepd (slice_to (some ⟨bB, oB, none⟩) mk dy j hjd)
          have HPL := keepd hplay
          have HKE := keepd hkE
          have HJ := keepd hj
          have HMJ := keepd hmj
          have HS19 : Hid (1 ≤ sg ∧ sg ≤ 9) := ⟨hs1, hs9⟩
          clear hs0 hks hplay hkE hj hmj hY hs1 hs9 hjd hj20 HSIG HY12
          go_upto_region 15 with fail
          go_cut [133] from 107 to 133 (fun s133 wx => s133 = .bool false ∧ ∃ k, V12.drewN k = wx)
          case first =>
            go_quiet (fail)
            go_wp2_with fail
            go_meet
            exact ⟨rfl, _, rfl⟩
          case rest =>
            obtain ⟨rfl, nq, rfl⟩ := hcut
            obtain ⟨V13, hV13⟩ : ∃ V13, V13 = V12.drewN nq := ⟨_, rfl⟩
            have HD13 : Hid (DK V13 w.heap.size X room) := by rw [hV13]; exact HD12.out
            have HHW13 : Hid (SR 36 V13 (w.heap.size + 1) [.int .u8 (u2.toNat : Int), .bool e2, .bool f2]) := by rw [hV13]; exact HHW12.out
            have H813 : Hid (SR 32 V13 (V0.heap.size + 1) [.slice A8 nf c8, .int .i64 (tf : Int), .bool ovf, .bool lif]) := by rw [hV13]; exact H812.out
            have HT13 : Hid (SR 41 V13 b14 [.slice (some ⟨bB, oB, none⟩) mk dy, .int .i64 (sg : Int), .bool bell]) := by rw [hV13]; exact HK14.out
            have HR813 : Hid (Rd V13 V13.heap.size A8 lf c8) := by rw [hV13]; exact HR812.out.drewN nq
            have HYK13 : Hid (Rd V13 V13.heap.size (some ⟨bB, oB, none⟩) kx dy) := by rw [hV13]; exact HYK.out.drewN nq
            have HBV13 : Hid (Below V0.heap.size V0 V13) := by rw [hV13]; exact bDrewN HBV12.out nq
            rw [← hV13]
            clear hV13 HD12 HHW12 H812 HK14 HR812 HYK HBV12 f0 f1 f2' ft hu0 hu1 hu2 hbB hcB z1 z2 z3 z4 z5 x7
            have hj50 : j ≤ 50000 := Nat.le_trans HJ20.out (by decide)
            have CP := keepd fun (W : World) (hb : Below V13.heap.size V13 W) => Fr.play_own X room A8 lf nf c8 tf ovf lif (some ⟨bB, oB, none⟩) kx j dy W HI.out.2.2.1.symm (HR813.out.at_ hb) HTT.out.2.2.1 HTT.out.2.2.2 HJ.out.symm (HYK13.out.at_ hb) hj50 l n t ov li [] 0 0 HPL.out HI.out.2.1 rfl
            clear hj50
            have hsl := HSL.out
            go_upto_region 17 with fail
            go_cut [15, 16, 17] from 134 to 150 (fun s15 s16 s17 wx => ∃ (b : Nat) (Ak : Option Addr) (ck : Nat) (Be : Option Addr) (de : Nat), s15 = .pointer (some ⟨b, 0, none⟩) ∧ s16 = .slice Be 0 de ∧ s17 = .int .i64 ((0 : Nat) : Int) ∧ Hid (MidG V13 b l Ak n ck (t : Int) ov li [] Be 0 de wx))
            case first =>
              refine wp_region_held_drew (S := fun W => rowOf W w.heap.size = (dk X room).toArray ∧ isRow W 27 w.heap.size 63 = true ∧ W.cell? ⟨w.heap.size, 62, none⟩ = some (.int .i64 room) ∧ W.cell? ⟨V0.heap.size + 1, 0, none⟩ = some (.slice A8 nf c8) ∧ W.cell? ⟨V0.heap.size + 1, 1, none⟩ = some (.int .i64 (tf : Int)) ∧ W.cell? ⟨V0.heap.size + 1, 2, none⟩ = some (.bool ovf) ∧ W.cell? ⟨V0.heap.size + 1, 3, none⟩ = some (.bool lif) ∧ W.cell? ⟨b14, 0, none⟩ = some (.slice (some ⟨bB, oB, none⟩) mk dy) ∧ Below V13.heap.size V13 W) (by kernel_rfl) (sSg HD13.out H813.out HT13.out (Below.refl V13.heap.size V13).drew) (fun hHeld => ?_)
              refine wpAnyH_take (i := 0) (oi := { dst := some 135, op := Op.fieldAddr 27 (Operand.tmp 3) 0, type := 0, pos := "law.go:97", after := #[], guard := none }) (v := .pointer (some ⟨w.heap.size, 0, none⟩)) rfl (by kernel_rfl) (by kernel_rfl) (by kernel_rfl) (fun _ _ _ h => h) (Or.inl ⟨by rfl, fun W hW => ?_⟩) hHeld ?_
              · obtain ⟨q0, q1, q2, q3, q4, q5, q6, q7, q8⟩ := hW
                go_simp
              simp only [Act.put, List.setIfInBounds_toArray, List.set_cons_zero, List.set_cons_succ]
              refine wpAnyH_take (i := 1) (oi := { dst := some 136, op := Op.load 25 (Operand.tmp 135), type := 25, pos := "law.go:97", after := #[{ on := 0, ground := Ground.data }], guard := none }) (v := tv X) rfl (by kernel_rfl) (by kernel_rfl) (by kernel_rfl) (fun _ _ _ h => h) (Or.inl ⟨by rfl, fun W hW => ?_⟩) hHeld ?_
              · obtain ⟨q0, q1, q2, q3, q4, q5, q6, q7, q8⟩ := hW
                go_simp
              simp only [Act.put, List.setIfInBounds_toArray, List.set_cons_zero, List.set_cons_succ]
              refine wpAnyH_take (i := 2) (oi := { dst := some 137, op := Op.fieldAddr 27 (Operand.tmp 3) 1, type := 0, pos := "law.go:97", after := #[], guard := none }) (v := .pointer (some ⟨w.heap.size, 62, none⟩)) rfl (by kernel_rfl) (by kernel_rfl) (by kernel_rfl) (fun _ _ _ h => h) (Or.inl ⟨by rfl, fun W hW => ?_⟩) hHeld ?_
              · obtain ⟨q0, q1, q2, q3, q4, q5, q6, q7, q8⟩ := hW
                go_simp
              simp only [Act.put, List.setIfInBounds_toArray, List.set_cons_zero, List.set_cons_succ]
              refine wpAnyH_take (i := 3) (oi := { dst := some 138, op := Op.load 3 (Operand.tmp 137), type := 3, pos := "law.go:97", after := #[{ on := 2, ground := Ground.data }], guard := none }) (v := .int .i64 room) rfl (by kernel_rfl) (by kernel_rfl) (by kernel_rfl) (fun _ _ _ h => h) (Or.inl ⟨by rfl, fun W hW => ?_⟩) hHeld ?_
              · obtain ⟨q0, q1, q2, q3, q4, q5, q6, q7, q8⟩ := hW
                go_simp
              simp only [Act.put, List.setIfInBounds_toArray, List.set_cons_zero, List.set_cons_succ]
              refine wpAnyH_take (i := 4) (oi := { dst := some 139, op := Op.load 32 (Operand.tmp 8), type := 32, pos := "law.go:97", after := #[], guard := none }) (v := .agg #[.slice A8 nf c8, .int .i64 (tf : Int), .bool ovf, .bool lif]) rfl (by kernel_rfl) (by kernel_rfl) (by kernel_rfl) (fun _ _ _ h => h) (Or.inl ⟨by rfl, fun W hW => ?_⟩) hHeld ?_
              · obtain ⟨q0, q1, q2, q3, q4, q5, q6, q7, q8⟩ := hW
                go_simp
              simp only [Act.put, List.setIfInBounds_toArray, List.set_cons_zero, List.set_cons_succ]
              refine wpAnyH_take (i := 5) (oi := { dst := some 140, op := Op.fieldAddr 41 (Operand.tmp 14) 0, type := 0, pos := "law.go:97", after := #[], guard := none }) (v := .pointer (some ⟨b14, 0, none⟩)) rfl (by kernel_rfl) (by kernel_rfl) (by kernel_rfl) (fun _ _ _ h => h) (Or.inl ⟨by rfl, fun W hW => ?_⟩) hHeld ?_
              · obtain ⟨q0, q1, q2, q3, q4, q5, q6, q7, q8⟩ := hW
                go_simp
              simp only [Act.put, List.setIfInBounds_toArray, List.set_cons_zero, List.set_cons_succ]
              refine wpAnyH_take (i := 6) (oi := { dst := some 141, op := Op.load 28 (Operand.tmp 140), type := 28, pos := "law.go:97", after := #[{ on := 5, ground := Ground.data }], guard := none }) (v := .slice (some ⟨bB, oB, none⟩) mk dy) rfl (by kernel_rfl) (by kernel_rfl) (by kernel_rfl) (fun _ _ _ h => h) (Or.inl ⟨by rfl, fun W hW => ?_⟩) hHeld ?_
              · obtain ⟨q0, q1, q2, q3, q4, q5, q6, q7, q8⟩ := hW
                go_simp
              simp only [Act.put, List.setIfInBounds_toArray, List.set_cons_zero, List.set_cons_succ]
              refine wpAnyH_take (i := 7) (oi := { dst := some 142, op := Op.fieldAddr 41 (Operand.tmp 14) 0, type := 0, pos := "law.go:97", after := #[], guard := none }) (v := .pointer (some ⟨b14, 0, none⟩)) rfl (by kernel_rfl) (by kernel_rfl) (by kernel_rfl) (fun _ _ _ h => h) (Or.inl ⟨by rfl, fun W hW => ?_⟩) hHeld ?_
              · obtain ⟨q0, q1, q2, q3, q4, q5, q6, q7, q8⟩ := hW
                go_simp
              simp only [Act.put, List.setIfInBounds_toArray, List.set_cons_zero, List.set_cons_succ]
              refine wpAnyH_take (i := 8) (oi := { dst := some 143, op := Op.load 28 (Operand.tmp 142), type := 28, pos := "law.go:97", after := #[{ on := 7, ground := Ground.data }], guard := none }) (v := .slice (some ⟨bB, oB, none⟩) mk dy) rfl (by kernel_rfl) (by kernel_rfl) (by kernel_rfl) (fun _ _ _ h => h) (Or.inl ⟨by rfl, fun W hW => ?_⟩) hHeld ?_
              · obtain ⟨q0, q1, q2, q3, q4, q5, q6, q7, q8⟩ := hW
                go_simp
              simp only [Act.put, List.setIfInBounds_toArray, List.set_cons_zero, List.set_cons_succ]
              refine wpAnyH_take (i := 9) (oi := { dst := some 144, op := Op.call { callee := Callee.builtin Builtin.len, args := #[Operand.tmp 143], argTypes := #[28] }, type := 3, pos := "law.go:97", after := #[{ on := 8, ground := Ground.data }], guard := none }) (v := .int .i64 (mk : Int)) rfl (by kernel_rfl) (by kernel_rfl) (by kernel_rfl) (fun _ _ _ h => h) (Or.inl ⟨by rfl, fun W hW => ?_⟩) hHeld ?_
              · obtain ⟨q0, q1, q2, q3, q4, q5, q6, q7, q8⟩ := hW
                go_simp
              simp only [Act.put, List.setIfInBounds_toArray, List.set_cons_zero, List.set_cons_succ]
              refine wpAnyH_take (i := 10) (oi := { dst := some 145, op := Op.binOp BinOp.sub 3 (Operand.tmp 144) (Operand.const (Value.int IntKind.i64 1)) 3, type := 3, pos := "law.go:97", after := #[{ on := 9, ground := Ground.data }], guard := none }) (v := .int .i64 (j : Int)) rfl (by kernel_rfl) (by kernel_rfl) (by kernel_rfl) (fun _ _ _ h => h) (Or.inl ⟨by rfl, fun W hW => ?_⟩) hHeld ?_
              · obtain ⟨q0, q1, q2, q3, q4, q5, q6, q7, q8⟩ := hW
                go_simp
                try exact x8
              simp only [Act.put, List.setIfInBounds_toArray, List.set_cons_zero, List.set_cons_succ]
              refine wpAnyH_take (i := 11) (oi := { dst := some 146, op := Op.slice 28 (Operand.tmp 141) none (some (Operand.tmp 145)) none, type := 28, pos := "law.go:97", after := #[{ on := 6, ground := Ground.data }, { on := 10, ground := Ground.data }], guard := none }) (v := .slice (some ⟨bB, oB, none⟩) j dy) rfl (by kernel_rfl) (by kernel_rfl) (by kernel_rfl) (fun _ _ _ h => h) (Or.inl ⟨by rfl, fun W hW => ?_⟩) hHeld ?_
              · obtain ⟨q0, q1, q2, q3, q4, q5, q6, q7, q8⟩ := hW
                go_simp
              simp only [Act.put, List.setIfInBounds_toArray, List.set_cons_zero, List.set_cons_succ]
              refine wpAnyH_ready (rs := [12, 17]) (by kernel_rfl) (by simp) ?_
              refine AllReadyH.cons (o := { dst := some 147, op := Op.call { callee := Callee.value (Operand.func 21), args := #[Operand.tmp 136, Operand.tmp 138, Operand.tmp 139, Operand.tmp 146], argTypes := #[25, 3, 32, 28] }, type := 58, pos := "law.go:97", after := #[{ on := 1, ground := Ground.data }, { on := 3, ground := Ground.data }, { on := 4, ground := Ground.data }, { on := 11, ground := Ground.data }], guard := none }) rfl (fun K hK => ?_) (AllReadyH.cons (o := { dst := some 15, op := Op.alloc 32, type := 0, pos := "law.go:97", after := #[], guard := none }) rfl (fun K hK => ?_) AllReadyH.nil)
              · go_simp
                with_reducible refine (CP.out (V13).drew (Below.refl V13.heap.size V13).drew).mono ?_
                rintro e wz1 ⟨Ak, ck, Be, de, Lk, rfl, e1x, e2x, hxz1, hyz1, hcz1, _, _, _⟩
                have hbz1 : Below V13.heap.size V13 wz1 := bCall (Below.refl V13.heap.size V13).drew hcz1
                go_wp2_with fail
                refine hK.out _ _ (sSg HD13.out H813.out HT13.out hbz1) (fun hHeld2 => ?_)
                clear hK K hHeld
                have hHeld := hHeld2
                clear hHeld2
                try simp only [Act.put, List.setIfInBounds_toArray, List.set_cons_zero, List.set_cons_succ]
                refine wpAnyH_take (i := 13) (oi := { dst := some 134, op := Op.move (Operand.tmp 147), type := 58, pos := "law.go:97", after := #[{ on := 12, ground := Ground.data }], guard := none }) (v := .tuple #[.agg #[.slice Ak n ck, .int .i64 (t : Int), .bool ov, .bool li], .slice Be 0 de, .int .i64 ((0 : Nat) : Int)]) rfl (by kernel_rfl) (by kernel_rfl) (by kernel_rfl) (fun _ _ _ h => h) (Or.inl ⟨by rfl, fun W hW => ?_⟩) hHeld ?_
                · obtain ⟨q0, q1, q2, q3, q4, q5, q6, q7, q8⟩ := hW
                  go_simp
                simp only [Act.put, List.setIfInBounds_toArray, List.set_cons_zero, List.set_cons_succ]
                refine wpAnyH_take (i := 14) (oi := { dst := some 148, op := Op.extract (Operand.tmp 134) 0, type := 32, pos := "law.go:97", after := #[{ on := 13, ground := Ground.data }], guard := none }) (v := .agg #[.slice Ak n ck, .int .i64 (t : Int), .bool ov, .bool li]) rfl (by kernel_rfl) (by kernel_rfl) (by kernel_rfl) (fun _ _ _ h => h) (Or.inl ⟨by rfl, fun W hW => ?_⟩) hHeld ?_
                · obtain ⟨q0, q1, q2, q3, q4, q5, q6, q7, q8⟩ := hW
                  go_simp
                simp only [Act.put, List.setIfInBounds_toArray, List.set_cons_zero, List.set_cons_succ]
                refine wpAnyH_take (i := 15) (oi := { dst := some 149, op := Op.extract (Operand.tmp 134) 1, type := 53, pos := "law.go:97", after := #[{ on := 13, ground := Ground.data }, { on := 18, ground := Ground.gcOnly Departure.lateStores }], guard := none }) (v := .slice Be 0 de) rfl (by kernel_rfl) (by kernel_rfl) (by kernel_rfl) (fun _ _ _ h => h) (Or.inl ⟨by rfl, fun W hW => ?_⟩) hHeld ?_
                · obtain ⟨q0, q1, q2, q3, q4, q5, q6, q7, q8⟩ := hW
                  go_simp
                simp only [Act.put, List.setIfInBounds_toArray, List.set_cons_zero, List.set_cons_succ]
                refine wpAnyH_take (i := 16) (oi := { dst := some 150, op := Op.extract (Operand.tmp 134) 2, type := 3, pos := "law.go:97", after := #[{ on := 13, ground := Ground.data }, { on := 19, ground := Ground.gcOnly Departure.lateStores }], guard := none }) (v := .int .i64 ((0 : Nat) : Int)) rfl (by kernel_rfl) (by kernel_rfl) (by kernel_rfl) (fun _ _ _ h => h) (Or.inl ⟨by rfl, fun W hW => ?_⟩) hHeld ?_
                · obtain ⟨q0, q1, q2, q3, q4, q5, q6, q7, q8⟩ := hW
                  go_simp
                simp only [Act.put, List.setIfInBounds_toArray, List.set_cons_zero, List.set_cons_succ]
                refine wpAnyH_ready (rs := [17]) (by kernel_rfl) (by simp) ?_
                refine AllReadyH.cons (o := { dst := some 15, op := Op.alloc 32, type := 0, pos := "law.go:97", after := #[], guard := none }) rfl (fun K hK => ?_) AllReadyH.nil
                go_simp
                have hbz2 : Below V13.heap.size V13 (wz1.alloc (.cells #[.slice none 0 0, .int .i64 0, .bool false, .bool false] 32)) := bAlloc hbz1 (.cells #[.slice none 0 0, .int .i64 0, .bool false, .bool false] 32)
                have hzz2 : SR 32 (wz1.alloc (.cells #[.slice none 0 0, .int .i64 0, .bool false, .bool false] 32)) (wz1.heap.size) [.slice none 0 0, .int .i64 0, .bool false, .bool false] := SR.new 32 (wz1) [.slice none 0 0, .int .i64 0, .bool false, .bool false]
                have hvz2 : V13.heap.size ≤ wz1.heap.size := by have h0 := Below.size hbz1; exact h0
                have hxz2 := (hxz1).at_ (bAlloc (Below.refl _ _) (.cells #[.slice none 0 0, .int .i64 0, .bool false, .bool false] 32))
                have hyz2 := (hyz1).at_ (bAlloc (Below.refl _ _) (.cells #[.slice none 0 0, .int .i64 0, .bool false, .bool false] 32))
                refine hK.out _ _ (sSg HD13.out H813.out HT13.out hbz2) (fun hHeld2 => ?_)
                clear hK K hHeld
                have hHeld := hHeld2
                clear hHeld2
                try simp only [Act.put, List.setIfInBounds_toArray, List.set_cons_zero, List.set_cons_succ]
                generalize hWz2 : wz1.alloc (.cells #[.slice none 0 0, .int .i64 0, .bool false, .bool false] 32) = Wz2 at *
                clear hWz2
                obtain ⟨y0, y1, y2, y3, y4, y5, y6, y7, y8⟩ := st_facts hzz2
                have hbS : Below V13.heap.size V13 (set4 Wz2 wz1.heap.size (.slice Ak n ck) (.int .i64 (t : Int)) (.bool ov) (.bool li)) := set4_below hbz2 hvz2
                have HM := keepd (midg_b (n := n) (z := (t : Int)) (ov := ov) (li := li) hzz2 hvz2 hbz2 e1x e2x hxz2 hyz2)
                refine wpAnyH_ready (rs := [18]) (by kernel_rfl) (by simp) ?_
                refine AllReadyH.cons (o := { dst := none, op := Op.store 32 (Operand.tmp 15) (Operand.tmp 148), type := 0, pos := "law.go:97", after := #[{ on := 17, ground := Ground.data }, { on := 14, ground := Ground.data }, { on := 12, ground := Ground.chain }, { on := 0, ground := Ground.phase }, { on := 1, ground := Ground.phase }, { on := 2, ground := Ground.phase }, { on := 3, ground := Ground.phase }, { on := 4, ground := Ground.phase }, { on := 5, ground := Ground.phase }, { on := 6, ground := Ground.phase }, { on := 7, ground := Ground.phase }, { on := 8, ground := Ground.phase }, { on := 9, ground := Ground.phase }, { on := 10, ground := Ground.phase }, { on := 11, ground := Ground.phase }, { on := 12, ground := Ground.phase }, { on := 13, ground := Ground.phase }, { on := 14, ground := Ground.phase }, { on := 15, ground := Ground.textOnly Departure.lateStores }, { on := 16, ground := Ground.textOnly Departure.lateStores }, { on := 17, ground := Ground.phase }], guard := none }) rfl (fun K hK => ?_) AllReadyH.nil
                go_simp
                refine hK.out _ (set4 Wz2 wz1.heap.size (.slice Ak n ck) (.int .i64 (t : Int)) (.bool ov) (.bool li)) (sSg HD13.out H813.out HT13.out hbS) (fun hHeld2 => ?_)
                clear hK K hHeld
                have hHeld := hHeld2
                clear hHeld2
                try simp only [Act.put, List.setIfInBounds_toArray, List.set_cons_zero, List.set_cons_succ]
                refine wpAnyH_take (i := 19) (oi := { dst := some 16, op := Op.assign (Operand.tmp 149), type := 53, pos := "law.go:97", after := #[{ on := 15, ground := Ground.data }, { on := 18, ground := Ground.chain }, { on := 0, ground := Ground.phase }, { on := 1, ground := Ground.phase }, { on := 2, ground := Ground.phase }, { on := 3, ground := Ground.phase }, { on := 4, ground := Ground.phase }, { on := 5, ground := Ground.phase }, { on := 6, ground := Ground.phase }, { on := 7, ground := Ground.phase }, { on := 8, ground := Ground.phase }, { on := 9, ground := Ground.phase }, { on := 10, ground := Ground.phase }, { on := 11, ground := Ground.phase }, { on := 12, ground := Ground.phase }, { on := 13, ground := Ground.phase }, { on := 14, ground := Ground.phase }, { on := 15, ground := Ground.phase }, { on := 16, ground := Ground.textOnly Departure.lateStores }, { on := 17, ground := Ground.phase }, { on := 18, ground := Ground.phase }], guard := none }) (v := .slice Be 0 de) rfl (by kernel_rfl) (by kernel_rfl) (by kernel_rfl) (fun _ _ _ h => h) (Or.inl ⟨by rfl, fun W hW => ?_⟩) hHeld ?_
                · obtain ⟨q0, q1, q2, q3, q4, q5, q6, q7, q8⟩ := hW
                  go_simp
                simp only [Act.put, List.setIfInBounds_toArray, List.set_cons_zero, List.set_cons_succ]
                refine wpAnyH_take (i := 20) (oi := { dst := some 17, op := Op.assign (Operand.tmp 150), type := 3, pos := "law.go:97", after := #[{ on := 16, ground := Ground.data }, { on := 19, ground := Ground.chain }, { on := 0, ground := Ground.phase }, { on := 1, ground := Ground.phase }, { on := 2, ground := Ground.phase }, { on := 3, ground := Ground.phase }, { on := 4, ground := Ground.phase }, { on := 5, ground := Ground.phase }, { on := 6, ground := Ground.phase }, { on := 7, ground := Ground.phase }, { on := 8, ground := Ground.phase }, { on := 9, ground := Ground.phase }, { on := 10, ground := Ground.phase }, { on := 11, ground := Ground.phase }, { on := 12, ground := Ground.phase }, { on := 13, ground := Ground.phase }, { on := 14, ground := Ground.phase }, { on := 15, ground := Ground.phase }, { on := 16, ground := Ground.phase }, { on := 17, ground := Ground.phase }, { on := 18, ground := Ground.phase }, { on := 19, ground := Ground.phase }], guard := none }) (v := .int .i64 ((0 : Nat) : Int)) rfl (by kernel_rfl) (by kernel_rfl) (by kernel_rfl) (fun _ _ _ h => h) (Or.inl ⟨by rfl, fun W hW => ?_⟩) hHeld ?_
                · obtain ⟨q0, q1, q2, q3, q4, q5, q6, q7, q8⟩ := hW
                  go_simp
                simp only [Act.put, List.setIfInBounds_toArray, List.set_cons_zero, List.set_cons_succ]
                refine wpAnyH_done (by kernel_rfl) ?_ _
                go_wp2_with fail
                go_meet
                exact ⟨_, _, _, _, _, rfl, rfl, rfl, HM⟩
              · go_simp
                have hbz3 : Below V13.heap.size V13 ((V13.alloc (.cells #[.slice none 0 0, .int .i64 0, .bool false, .bool false] 32)).drew) := bAlloc (Below.refl V13.heap.size V13).drew (.cells #[.slice none 0 0, .int .i64 0, .bool false, .bool false] 32)
                have hzz3 : SR 32 ((V13.alloc (.cells #[.slice none 0 0, .int .i64 0, .bool false, .bool false] 32)).drew) (V13.heap.size) [.slice none 0 0, .int .i64 0, .bool false, .bool false] := SR.new 32 (V13) [.slice none 0 0, .int .i64 0, .bool false, .bool false]
                have hvz3 : V13.heap.size ≤ V13.heap.size := by have h0 := Below.size (Below.refl V13.heap.size V13).drew; exact h0
                refine hK.out _ _ (sSg HD13.out H813.out HT13.out hbz3) (fun hHeld2 => ?_)
                clear hK K hHeld
                have hHeld := hHeld2
                clear hHeld2
                try simp only [Act.put, List.setIfInBounds_toArray, List.set_cons_zero, List.set_cons_succ]
                generalize hWz3 : (V13.alloc (.cells #[.slice none 0 0, .int .i64 0, .bool false, .bool false] 32)).drew = Wz3 at *
                clear hWz3
                refine wpAnyH_ready (rs := [12]) (by kernel_rfl) (by simp) ?_
                refine AllReadyH.cons (o := { dst := some 147, op := Op.call { callee := Callee.value (Operand.func 21), args := #[Operand.tmp 136, Operand.tmp 138, Operand.tmp 139, Operand.tmp 146], argTypes := #[25, 3, 32, 28] }, type := 58, pos := "law.go:97", after := #[{ on := 1, ground := Ground.data }, { on := 3, ground := Ground.data }, { on := 4, ground := Ground.data }, { on := 11, ground := Ground.data }], guard := none }) rfl (fun K hK => ?_) AllReadyH.nil
                go_simp
                with_reducible refine (CP.out Wz3 hbz3).mono ?_
                rintro e wz4 ⟨Ak, ck, Be, de, Lk, rfl, e1x, e2x, hxz4, hyz4, hcz4, _, _, _⟩
                have hbz4 : Below V13.heap.size V13 wz4 := bCall hbz3 hcz4
                have hzz4_17 := SR.call hzz3 hcz4 (hzz3).lt
                go_wp2_with fail
                refine hK.out _ _ (sSg HD13.out H813.out HT13.out hbz4) (fun hHeld2 => ?_)
                clear hK K hHeld
                have hHeld := hHeld2
                clear hHeld2
                try simp only [Act.put, List.setIfInBounds_toArray, List.set_cons_zero, List.set_cons_succ]
                refine wpAnyH_take (i := 13) (oi := { dst := some 134, op := Op.move (Operand.tmp 147), type := 58, pos := "law.go:97", after := #[{ on := 12, ground := Ground.data }], guard := none }) (v := .tuple #[.agg #[.slice Ak n ck, .int .i64 (t : Int), .bool ov, .bool li], .slice Be 0 de, .int .i64 ((0 : Nat) : Int)]) rfl (by kernel_rfl) (by kernel_rfl) (by kernel_rfl) (fun _ _ _ h => h) (Or.inl ⟨by rfl, fun W hW => ?_⟩) hHeld ?_
                · obtain ⟨q0, q1, q2, q3, q4, q5, q6, q7, q8⟩ := hW
                  go_simp
                simp only [Act.put, List.setIfInBounds_toArray, List.set_cons_zero, List.set_cons_succ]
                refine wpAnyH_take (i := 14) (oi := { dst := some 148, op := Op.extract (Operand.tmp 134) 0, type := 32, pos := "law.go:97", after := #[{ on := 13, ground := Ground.data }], guard := none }) (v := .agg #[.slice Ak n ck, .int .i64 (t : Int), .bool ov, .bool li]) rfl (by kernel_rfl) (by kernel_rfl) (by kernel_rfl) (fun _ _ _ h => h) (Or.inl ⟨by rfl, fun W hW => ?_⟩) hHeld ?_
                · obtain ⟨q0, q1, q2, q3, q4, q5, q6, q7, q8⟩ := hW
                  go_simp
                simp only [Act.put, List.setIfInBounds_toArray, List.set_cons_zero, List.set_cons_succ]
                refine wpAnyH_take (i := 15) (oi := { dst := some 149, op := Op.extract (Operand.tmp 134) 1, type := 53, pos := "law.go:97", after := #[{ on := 13, ground := Ground.data }, { on := 18, ground := Ground.gcOnly Departure.lateStores }], guard := none }) (v := .slice Be 0 de) rfl (by kernel_rfl) (by kernel_rfl) (by kernel_rfl) (fun _ _ _ h => h) (Or.inl ⟨by rfl, fun W hW => ?_⟩) hHeld ?_
                · obtain ⟨q0, q1, q2, q3, q4, q5, q6, q7, q8⟩ := hW
                  go_simp
                simp only [Act.put, List.setIfInBounds_toArray, List.set_cons_zero, List.set_cons_succ]
                refine wpAnyH_take (i := 16) (oi := { dst := some 150, op := Op.extract (Operand.tmp 134) 2, type := 3, pos := "law.go:97", after := #[{ on := 13, ground := Ground.data }, { on := 19, ground := Ground.gcOnly Departure.lateStores }], guard := none }) (v := .int .i64 ((0 : Nat) : Int)) rfl (by kernel_rfl) (by kernel_rfl) (by kernel_rfl) (fun _ _ _ h => h) (Or.inl ⟨by rfl, fun W hW => ?_⟩) hHeld ?_
                · obtain ⟨q0, q1, q2, q3, q4, q5, q6, q7, q8⟩ := hW
                  go_simp
                simp only [Act.put, List.setIfInBounds_toArray, List.set_cons_zero, List.set_cons_succ]
                obtain ⟨y0, y1, y2, y3, y4, y5, y6, y7, y8⟩ := st_facts hzz4_17
                have hbS : Below V13.heap.size V13 (set4 wz4 V13.heap.size (.slice Ak n ck) (.int .i64 (t : Int)) (.bool ov) (.bool li)) := set4_below hbz4 hvz3
                have HM := keepd (midg_b (n := n) (z := (t : Int)) (ov := ov) (li := li) hzz4_17 hvz3 hbz4 e1x e2x hxz4 hyz4)
                refine wpAnyH_ready (rs := [18]) (by kernel_rfl) (by simp) ?_
                refine AllReadyH.cons (o := { dst := none, op := Op.store 32 (Operand.tmp 15) (Operand.tmp 148), type := 0, pos := "law.go:97", after := #[{ on := 17, ground := Ground.data }, { on := 14, ground := Ground.data }, { on := 12, ground := Ground.chain }, { on := 0, ground := Ground.phase }, { on := 1, ground := Ground.phase }, { on := 2, ground := Ground.phase }, { on := 3, ground := Ground.phase }, { on := 4, ground := Ground.phase }, { on := 5, ground := Ground.phase }, { on := 6, ground := Ground.phase }, { on := 7, ground := Ground.phase }, { on := 8, ground := Ground.phase }, { on := 9, ground := Ground.phase }, { on := 10, ground := Ground.phase }, { on := 11, ground := Ground.phase }, { on := 12, ground := Ground.phase }, { on := 13, ground := Ground.phase }, { on := 14, ground := Ground.phase }, { on := 15, ground := Ground.textOnly Departure.lateStores }, { on := 16, ground := Ground.textOnly Departure.lateStores }, { on := 17, ground := Ground.phase }], guard := none }) rfl (fun K hK => ?_) AllReadyH.nil
                go_simp
                refine hK.out _ (set4 wz4 V13.heap.size (.slice Ak n ck) (.int .i64 (t : Int)) (.bool ov) (.bool li)) (sSg HD13.out H813.out HT13.out hbS) (fun hHeld2 => ?_)
                clear hK K hHeld
                have hHeld := hHeld2
                clear hHeld2
                try simp only [Act.put, List.setIfInBounds_toArray, List.set_cons_zero, List.set_cons_succ]
                refine wpAnyH_take (i := 19) (oi := { dst := some 16, op := Op.assign (Operand.tmp 149), type := 53, pos := "law.go:97", after := #[{ on := 15, ground := Ground.data }, { on := 18, ground := Ground.chain }, { on := 0, ground := Ground.phase }, { on := 1, ground := Ground.phase }, { on := 2, ground := Ground.phase }, { on := 3, ground := Ground.phase }, { on := 4, ground := Ground.phase }, { on := 5, ground := Ground.phase }, { on := 6, ground := Ground.phase }, { on := 7, ground := Ground.phase }, { on := 8, ground := Ground.phase }, { on := 9, ground := Ground.phase }, { on := 10, ground := Ground.phase }, { on := 11, ground := Ground.phase }, { on := 12, ground := Ground.phase }, { on := 13, ground := Ground.phase }, { on := 14, ground := Ground.phase }, { on := 15, ground := Ground.phase }, { on := 16, ground := Ground.textOnly Departure.lateStores }, { on := 17, ground := Ground.phase }, { on := 18, ground := Ground.phase }], guard := none }) (v := .slice Be 0 de) rfl (by kernel_rfl) (by kernel_rfl) (by kernel_rfl) (fun _ _ _ h => h) (Or.inl ⟨by rfl, fun W hW => ?_⟩) hHeld ?_
                · obtain ⟨q0, q1, q2, q3, q4, q5, q6, q7, q8⟩ := hW
                  go_simp
                simp only [Act.put, List.setIfInBounds_toArray, List.set_cons_zero, List.set_cons_succ]
                refine wpAnyH_take (i := 20) (oi := { dst := some 17, op := Op.assign (Operand.tmp 150), type := 3, pos := "law.go:97", after := #[{ on := 16, ground := Ground.data }, { on := 19, ground := Ground.chain }, { on := 0, ground := Ground.phase }, { on := 1, ground := Ground.phase }, { on := 2, ground := Ground.phase }, { on := 3, ground := Ground.phase }, { on := 4, ground := Ground.phase }, { on := 5, ground := Ground.phase }, { on := 6, ground := Ground.phase }, { on := 7, ground := Ground.phase }, { on := 8, ground := Ground.phase }, { on := 9, ground := Ground.phase }, { on := 10, ground := Ground.phase }, { on := 11, ground := Ground.phase }, { on := 12, ground := Ground.phase }, { on := 13, ground := Ground.phase }, { on := 14, ground := Ground.phase }, { on := 15, ground := Ground.phase }, { on := 16, ground := Ground.phase }, { on := 17, ground := Ground.phase }, { on := 18, ground := Ground.phase }, { on := 19, ground := Ground.phase }], guard := none }) (v := .int .i64 ((0 : Nat) : Int)) rfl (by kernel_rfl) (by kernel_rfl) (by kernel_rfl) (fun _ _ _ h => h) (Or.inl ⟨by rfl, fun W hW => ?_⟩) hHeld ?_
                · obtain ⟨q0, q1, q2, q3, q4, q5, q6, q7, q8⟩ := hW
                  go_simp
                simp only [Act.put, List.setIfInBounds_toArray, List.set_cons_zero, List.set_cons_succ]
                refine wpAnyH_done (by kernel_rfl) ?_ _
                go_wp2_with fail
                go_meet
                exact ⟨_, _, _, _, _, rfl, rfl, rfl, HM⟩
            case rest =>
              obtain ⟨b15, Ak, ck, Be, de, rfl, rfl, rfl, HM⟩ := hcut
              obtain ⟨V14, hV14⟩ : ∃ V14, V14 = wc := ⟨_, rfl⟩
              subst hV14
              obtain ⟨m1, m2, _, m4, m5⟩ := HM.out
              have HBV14 := keepd (bCall HBV13.out m4)
              have HD14 : Hid (DK V14 w.heap.size X room) := SR.call HD13.out m4 (SR.lt HD13.out)
              have HHW14 := keepd (SR.call HHW13.out m4 HHW13.out.lt)
              have HT14 := keepd (SR.call HT13.out m4 HT13.out.lt)
              have HK15 := keepd m1
              have HR15 := keepd m2
              have hke := HKE.out
              rw [HKEY.out] at hke
              unfold sigE at hke
              simp only [Res.mk.injEq] at hke
              obtain ⟨q1, q2, q3⟩ := hke
              have HBL : Hid (bell = false) := by rw [← HBELL.out, q3]; rfl
              have hisg : isSig (sg : Int) = true := by unfold isSig; simp only [decide_eq_true_eq]; have h0 := HS19.out; omega
              have hme : es.length = 1 := by rw [q2]; rfl
              have CK := keepd (Fr.key_own X room Ak l n ck t ov li u2 V14 HI.out.2.1.symm m2 HTT.out.1 HTT.out.2.1 l1 n1 t1 ov1 li1 es 1 be bell HKEY.out HN1.out hme HBELL.out)
              have CS := keepd fun (W : World) (hr : Rd W W.heap.size Ak l ck) => sig_any Ak l n ck t (t : Int) ov li (sg : Int) W HI.out.2.1.symm hr HTT.out.2.1 HTT.out.1 rfl hisg l1 n1 t1 ov1 li1 q1.symm HN1.out
              have HQ2 := keepd q2
              clear m1 m2 m4 m5 HM q1 q2 q3 hisg hme hsl HD13 HHW13 HT13 HBV13 HR813 HYK13 H813 CP
              obtain ⟨⟨p0, p1⟩, p2⟩ := DK.facts HD14.out
              obtain ⟨s0, s1, s2⟩ := how_facts HHW14.out
              obtain ⟨y0, y1, y2, y3, _, _, _, _, yt⟩ := st_facts HK15.out
              go_wp2_with fail
              with_reducible refine CK.out.mono ?_
              rintro e w15 ⟨A9, c9, B9, d9, L9, rfl, e1x, e2x, hr9, hre9, hb15, _, _, _⟩
              clear p0 p1 p2 s0 s1 s2 y0 y1 y2 y3 yt CK
              go_upto_region 19 with fail
              generalize hV : w15.alloc (.cells #[.slice A9 n1 c9, .int .i64 (t1 : Int), .bool ov1, .bool li1] 32) = V18
              obtain ⟨HK18, HB18⟩ := st_new _ _ _ _ _ _ hV
              obtain ⟨b18, hb18⟩ : ∃ b, w15.heap.size = b := ⟨_, rfl⟩
              rw [hb18] at HK18
              rw [hb18]
              have hbx := bCall hb15 HB18.out
              have HBV18 := keepd (bCall HBV14.out hbx)
              have HT18 := keepd (SR.call HT14.out hbx HT14.out.lt)
              have HK1518 := keepd (SR.call HK15.out hbx HK15.out.lt)
              have HR1518 := keepd (HR15.out.at_ hbx)
              have HR918 := keepd (hr9.at_ HB18.out)
              have HE918 := keepd (hre9.at_ HB18.out)
              have HL9 := keepd e1x
              have HL9M := keepd e2x
              clear hV hb18 e1x e2x hr9 hre9 hb15 hbx HB18 HD14 HHW14 HT14 HK15 HR15 HBV14
              obtain ⟨y0, y1, y2, y3, _, _, _, _, yt⟩ := st_facts HK1518.out
              obtain ⟨f0, f1, f2', _, _, _, ft⟩ := ty_facts HT18.out
              have CSp := keepd (CS.out V18 HR1518.out)
              go_wp2_with fail
              with_reducible refine CSp.out.mono ?_
              rintro e w19 ⟨Aa, ca, Ba, da, La, rfl, e1x, e2x, hra, hrea, hb19⟩
              clear y0 y1 y2 y3 yt f0 f1 f2' ft CSp CS
              go_upto_region 20 with fail
              generalize hV : w19.alloc (.cells #[.slice Aa n1 ca, .int .i64 (t1 : Int), .bool ov1, .bool li1] 32) = V20
              obtain ⟨HK21, HB20⟩ := st_new _ _ _ _ _ _ hV
              obtain ⟨b21, hb21⟩ : ∃ b, w19.heap.size = b := ⟨_, rfl⟩
              rw [hb21] at HK21
              rw [hb21]
              have hbx := bCall hb19 HB20.out
              have HBV20 := keepd (bCall HBV18.out hbx)
              have HK1820 := keepd (SR.call HK18.out hbx HK18.out.lt)
              have HR920 := keepd (HR918.out.at_ hbx)
              have HE920 := keepd (HE918.out.at_ hbx)
              have HRA := keepd (hra.at_ HB20.out)
              have HEA := keepd (hrea.at_ HB20.out)
              have HLA := keepd e1x
              have HLAM := keepd e2x
              clear hV hb21 e1x e2x hra hrea hb19 hbx HB20 HK18 HT18 HK1518 HR1518 HR918 HE918 HBV18
              obtain rfl : bell = false := HBL.out
              obtain ⟨y0, y1, y2, y3, _, _, _, _, yt⟩ := st_facts HK1820.out
              obtain ⟨j0, j1, j2, j3, _, _, _, _, jt⟩ := st_facts HK21.out
              have C1 := keepd (esame_any A9 Aa l1 l1 n1 n1 c9 ca (t1 : Int) (t1 : Int) ov1 ov1 li1 li1 true V20 HN1.out.symm HN1.out.symm HR920.out HRA.out (sameS_iff.2 ⟨rfl, rfl, rfl, rfl⟩))
              go_wp2_with fail
              with_reducible refine C1.out.mono ?_
              rintro e w22 ⟨rfl, hb22⟩
              have HBV22 := keepd (bCall HBV20.out hb22)
              have CA := keepd (alike_any B9 Ba L9 La 1 1 d9 da true w22 HL9M.out.symm HLAM.out.symm (HE920.out.at_ hb22) (HEA.out.at_ hb22) (likeE_iff.2 (by rw [HL9.out, HLA.out, HQ2.out])) (by omega))
              clear y0 y1 y2 y3 yt j0 j1 j2 j3 jt hb22 C1
              go_wp2_with fail
              with_reducible refine CA.out.mono ?_
              rintro e w23 ⟨rfl, hb23⟩
              have HBV23 := keepd (bCall HBV22.out hb23)
              have CW := keepd (awake_any w23 (HLD.out.below (bCall HB0.out HBV23.out)))
              clear hb23 CA
              go_wp2_with fail
              with_reducible refine CW.out.mono ?_
              rintro e w24 ⟨rfl, hb24⟩
              have HB24 := keepd (bCall (bCall HB0.out HBV23.out) hb24)
              clear hb24 CW
              go_wp2_with fail
              go_ret
              exact ⟨rfl, HB24.out⟩
    obtain ⟨hlt, hl30⟩ := hgo
    have i0 : (0 : Int) ≤ (i : Int) := by omega
    have i1 : (i : Int) < (nn : Int) := by omega
    have i2 : (i : Int) < 30 := by omega
    have hil : i < L.length := by rw [← HNN.out]; exact hlt
    obtain ⟨bA, oA, hA, hbA, hat⟩ := HR0.out.2.2 (by intro e; rw [e] at hil; simp at hil)
    subst hA
    obtain ⟨⟨u, ed, fw, p⟩, hsp⟩ : ∃ x, L[i]? = some x := ⟨_, List.getElem?_eq_getElem hil⟩
    have hst := hat i _ hsp
    clear hat hsp hil
    have hstV : AtS V bA (oA + i * 4) ⟨u, ed, fw, p⟩ := hst.keep (bCall HB0.out HBV.out) hbA
    obtain ⟨s0, s1, s2, s3⟩ := hstV
    simp only at s0 s1 s2 s3
    obtain ⟨hp, hhp⟩ : ∃ hp, (if p then false else h) = hp := ⟨_, rfl⟩
    obtain ⟨sn, hsn⟩ : ∃ sn, (if p && h then keysL X ⟨l, t, ov, li⟩ else []) = sn := ⟨_, rfl⟩
    obtain ⟨⟨⟨l1, t1, ov1, li1⟩, es, be⟩, hkey⟩ : ∃ r, keyE X room ⟨l, t, ov, li⟩ u = r := ⟨_, rfl⟩
    obtain ⟨n1, hn1⟩ : ∃ n1, l1.length = n1 := ⟨_, rfl⟩
    obtain ⟨me, hme⟩ : ∃ me, es.length = me := ⟨_, rfl⟩
    obtain ⟨bell, hbell⟩ : ∃ bell, decide (0 < be) = bell := ⟨_, rfl⟩
    have hn := HI.out.2.1
    have hok := HI.out.1.ok
    have ht1 : t ≤ n := by have h0 := hok.1; rw [← hn]; exact h0
    have ht2 : n ≤ 4096 := by have h0 := hok.2; rw [← hn]; exact h0
    obtain ⟨h1, ks, sg, htyp⟩ := typeT_ex (k := ⟨⟨l, t, ov, li⟩, hp⟩) ed fw hkey
    obtain ⟨mk, hmk⟩ : ∃ mk, ks.length = mk := ⟨_, rfl⟩
    have hmk2 : mk ≤ 20000 := by have h0 := typeT_ks_le (X := X) (room := room) (k := ⟨⟨l, t, ov, li⟩, hp⟩) hok u ed fw; rw [htyp] at h0; rw [← hmk]; exact h0
    obtain ⟨ms, hms⟩ : ∃ ms, sn.length = ms := ⟨_, rfl⟩
    have hms2 : ms ≤ 20000 := by
      rw [← hms, ← hsn]
      have h0 := (keysL_len X ⟨l, t, ov, li⟩).1
      have h2 := hok.2
      split
      · simp only at h0 h2; omega
      · simp
    have hin1 : Inv X room ⟨l1, t1, ov1, li1⟩ := by have h0 := inv_key HI.out.1 u; rw [hkey] at h0; exact h0
    obtain ⟨b2, hplay⟩ := far_step HX.out HI.out.1 h p u ed fw hkey (by rw [hhp]; exact htyp)
    rw [hsn, HI.out.2.2.2] at hplay
    obtain ⟨⟨lf2, tf2, ovf2, lif2⟩, hfar⟩ : ∃ r, farT ⟨⟨l1, t1, ov1, li1⟩, h1⟩ = r := ⟨_, rfl⟩
    rw [hfar] at hplay
    obtain ⟨nf2, hnf2⟩ : ∃ nf2, lf2.length = nf2 := ⟨_, rfl⟩
    have hfok := farT_ok (h := h) hok
    rw [HI.out.2.2.2] at hfok
    have hf1 : tf ≤ nf := by have h0 := hfok.1; rw [← HI.out.2.2.1]; exact h0
    have hf2 : nf ≤ 4096 := by have h0 := hfok.2; rw [← HI.out.2.2.1]; exact h0
    obtain ⟨kk, hkk⟩ : ∃ kk, (sn ++ ks).length = kk := ⟨_, rfl⟩
    have hkk2 : kk ≤ 50000 := by rw [← hkk, List.length_append, hms, hmk]; omega
    have CT := keepd fun (W : World) (A' : Option Addr) (c' : Nat) (hr : Rd W W.heap.size A' l c') => Fr.type_own X HX.out room A' l n c' t ov li hp u ed fw W hn.symm hr ht1 ht2 l1 n1 t1 ov1 li1 h1 ks mk sg be bell htyp hn1 hmk hbell
    have CPL := keepd fun (W : World) (D : Option Addr) (d : Nat) (hr : Rd W W.heap.size A8 lf c8) (hd : Rd W W.heap.size D (sn ++ ks) d) => Fr.play_own X room A8 lf nf c8 tf ovf lif D (sn ++ ks) kk d W HI.out.2.2.1.symm hr hf1 hf2 hkk.symm hd hkk2 lf2 nf2 tf2 ovf2 lif2 es me b2 hplay hnf2 hme
    have CPS := keepd fun (W : World) (A' : Option Addr) (c' : Nat) (e1 : passH n (t : Int) h = hp) (e2 : passK X l (t : Int) ov li h = sn) (hr : Rd W W.heap.size A' l c') => pass_any X HX.out A' l n c' (t : Int) ov li h W hn.symm hr (by omega) hp e1 sn e2 ms hms
    have HSN : Hid (p = true → passH n (t : Int) h = hp ∧ passK X l (t : Int) ov li h = sn) := by
      intro e
      subst e
      refine ⟨?_, ?_⟩
      · rw [← hhp]; unfold passH; rw [mayV_nat ht2 ht1]; first | done | rfl
      · rw [← hsn]; unfold passK; rw [hn, mayV_nat ht2 ht1]; simp
    have HSF : Hid (p = false → hp = h ∧ sn = []) := by
      intro e
      subst e
      exact ⟨by rw [← hhp]; rfl, by rw [← hsn]; rfl⟩
    have HIN : Hid (Inv X room ⟨l1, t1, ov1, li1⟩ ∧ l1.length = n1 ∧ lf2.length = nf2 ∧ farT ⟨⟨l1, t1, ov1, li1⟩, h1⟩ = ⟨lf2, tf2, ovf2, lif2⟩) := ⟨hin1, hn1, hnf2, hfar⟩
    have HMS := keepd hms
    have HMK := keepd hmk
    have HKK := keepd hkk
    have hlk : sn.length + ks.length ≤ 200000 := by rw [hms, hmk]; omega
    have HLK := keepd hlk
    have HME := keepd hme
    clear hhp hsn hn1 hme hbell hn hok hkey ht1 ht2 htyp hmk hmk2 hms hms2 hin1 hplay hfar hnf2 hfok hf1 hf2 hkk hkk2 hlk HI
    have HDV : Hid (DK V w.heap.size X room) := SR.call HD.out HBV.out (SR.lt HD.out)
    have HV0 : Hid (V0.heap.size < V.heap.size) := SR.lt H5V.out
    obtain ⟨k0, k1, k2, k3, k4, f0, f1, f2', f3, f4, kt⟩ := tk_facts H5V.out
    obtain ⟨⟨p0, p1⟩, p2⟩ := DK.facts HDV.out
    go_upto_if 38 with fail
    go_cut [10] from 39 to 45 (fun s11 wx => ∃ (A1 : Option Addr) (c1 : Nat) (Bs : Option Addr) (ds : Nat), s11 = .slice Bs ms ds ∧ Hid (PS V0 V A1 l n c1 (t : Int) ov li hp Bs ms ds sn wx))
    case first =>
      cases p
      · obtain ⟨e1, e2⟩ := HSF.out rfl
        have e3 := HMS.out
        rw [e2] at e3
        simp only [List.length_nil] at e3
        subst e1 e2 e3
        go_wp2_with fail
        go_meet
        exact ⟨A5, c5, none, 0, rfl, ⟨H5V.out, HR5.out, Own.nil _ _, Nat.le_refl _, fun _ _ _ => rfl, HBV.out⟩⟩
      · obtain ⟨e1, e2⟩ := HSN.out rfl
        have CP := keepd (CPS.out V A5 c5 e1 e2 HR5.out)
        clear s0 s1 s2 s3 CPS
        go_wp2_with fail
        with_reducible refine CP.out.mono ?_
        rintro e w1 ⟨A1, c1, B1, d1, rfl, hr1, ho1, hb1⟩
        have hx5 := SR.call H5V.out hb1 H5V.out.lt
        have HPS : Hid (PS V0 V A1 l n c1 (t : Int) ov li hp B1 ms d1 sn (set5 w1 V0.heap.size (.slice A1 n c1) (.int .i64 (t : Int)) (.bool ov) (.bool li) (.bool hp))) := by
          refine ⟨set5_sr hx5, hr1.setNo hx5 tk_no (by rw [set5_size]; exact Nat.le_refl _) fun _ hk => set5_heap _ _ _ _ _ _ _ hk, set5_own ho1 HV0.out, ?_, fun k hk hne => ?_, set5_below (bCall HBV.out hb1) (Nat.le_refl _)⟩
          · rw [set5_size]; exact hb1.size
          · rw [set5_heap _ _ _ _ _ _ _ hne]; exact hb1.block k hk
        clear k0 k1 k2 k3 k4 f0 f1 f2' f3 f4 kt p0 p1 p2
        obtain ⟨k0, k1, k2, k3, k4, f0, f1, f2', f3, f4, kt⟩ := tk_facts hx5
        clear hr1 ho1 hb1 hx5 CP
        go_wp2_with fail
        go_meet
        exact ⟨A1, c1, B1, d1, rfl, HPS⟩
    case rest =>
      obtain ⟨A1, c1, Bs, ds, rfl, HPS⟩ := hcut
      obtain ⟨V1, hV1⟩ : ∃ V1, V1 = wc := ⟨_, rfl⟩
      subst hV1
      have lV1 := HPS.out.fs
      have HDV1 : Hid (DK V1 w.heap.size X room) := (HPS.out.fh _ (SR.lt HDV.out) (by have h0 := HDV0.out; omega)).trans HDV.out
      have has1 : AtS V1 bA (oA + i * 4) ⟨u, ed, fw, p⟩ := hst.keep (bCall HB0.out HPS.out.bl) hbA
      have HAS1 : Hid (AtS V1 bA (oA + i * 4) ⟨u, ed, fw, p⟩ ∧ bA < V1.heap.size) := ⟨has1, Nat.lt_of_lt_of_le hbA (bCall HB0.out HPS.out.bl).size⟩
      clear k0 k1 k2 k3 k4 f0 f1 f2' f3 f4 kt p0 p1 p2 s0 s1 s2 s3 CPS has1
      go_upto_region 9 with fail
      go_cut [11, 12] from 46 to 72 (fun s11 s12 wx => ∃ (b y : Nat) (Ay : Option Addr) (cy : Nat) (By : Option Addr) (dy : Nat), s11 = .pointer (some ⟨b, 0, none⟩) ∧ s12 = .pointer (some ⟨y, 0, none⟩) ∧ Hid (MidY V1 b y l1 Ay n1 cy (t1 : Int) ov1 li1 h1 ks By mk dy (sg : Int) bell wx) ∧ Fr.Frs V1 Ay)
      case first =>
        refine wp_region_held_drew (S := fun W => rowOf W w.heap.size = (dk X room).toArray ∧ isRow W 27 w.heap.size 63 = true ∧ W.cell? ⟨w.heap.size, 62, none⟩ = some (.int .i64 room) ∧ W.cell? ⟨V0.heap.size, 0, none⟩ = some (.slice A1 n c1) ∧ W.cell? ⟨V0.heap.size, 1, none⟩ = some (.int .i64 (t : Int)) ∧ W.cell? ⟨V0.heap.size, 2, none⟩ = some (.bool ov) ∧ W.cell? ⟨V0.heap.size, 3, none⟩ = some (.bool li) ∧ W.cell? ⟨V0.heap.size, 4, none⟩ = some (.bool hp) ∧ W.cell? ⟨bA, oA + i * 4, none⟩ = some (.int .u8 (u.toNat : Int)) ∧ W.cell? ⟨bA, oA + i * 4 + 1, none⟩ = some (.bool ed) ∧ W.cell? ⟨bA, oA + i * 4 + 2, none⟩ = some (.bool fw) ∧ Below V1.heap.size V1 W) (by kernel_rfl) (sDkS HDV1.out HPS.out.s5 HAS1.out (Below.refl V1.heap.size V1).drew) (fun hHeld => ?_)
        refine wpAnyH_take (i := 0) (oi := { dst := some 47, op := Op.fieldAddr 27 (Operand.tmp 3) 0, type := 0, pos := "law.go:86", after := #[], guard := none }) (v := .pointer (some ⟨w.heap.size, 0, none⟩)) rfl (by kernel_rfl) (by kernel_rfl) (by kernel_rfl) (fun _ _ _ h => h) (Or.inl ⟨by rfl, fun W hW => ?_⟩) hHeld ?_
        · obtain ⟨q0, q1, q2, q3, q4, q5, q6, q7, q8, q9, q10, q11⟩ := hW
          go_simp
        simp only [Act.put, List.setIfInBounds_toArray, List.set_cons_zero, List.set_cons_succ]
        refine wpAnyH_take (i := 1) (oi := { dst := some 48, op := Op.load 25 (Operand.tmp 47), type := 25, pos := "law.go:86", after := #[{ on := 0, ground := Ground.data }], guard := none }) (v := tv X) rfl (by kernel_rfl) (by kernel_rfl) (by kernel_rfl) (fun _ _ _ h => h) (Or.inl ⟨by rfl, fun W hW => ?_⟩) hHeld ?_
        · obtain ⟨q0, q1, q2, q3, q4, q5, q6, q7, q8, q9, q10, q11⟩ := hW
          go_simp
        simp only [Act.put, List.setIfInBounds_toArray, List.set_cons_zero, List.set_cons_succ]
        refine wpAnyH_take (i := 2) (oi := { dst := some 49, op := Op.fieldAddr 27 (Operand.tmp 3) 1, type := 0, pos := "law.go:86", after := #[], guard := none }) (v := .pointer (some ⟨w.heap.size, 62, none⟩)) rfl (by kernel_rfl) (by kernel_rfl) (by kernel_rfl) (fun _ _ _ h => h) (Or.inl ⟨by rfl, fun W hW => ?_⟩) hHeld ?_
        · obtain ⟨q0, q1, q2, q3, q4, q5, q6, q7, q8, q9, q10, q11⟩ := hW
          go_simp
        simp only [Act.put, List.setIfInBounds_toArray, List.set_cons_zero, List.set_cons_succ]
        refine wpAnyH_take (i := 3) (oi := { dst := some 50, op := Op.load 3 (Operand.tmp 49), type := 3, pos := "law.go:86", after := #[{ on := 2, ground := Ground.data }], guard := none }) (v := .int .i64 room) rfl (by kernel_rfl) (by kernel_rfl) (by kernel_rfl) (fun _ _ _ h => h) (Or.inl ⟨by rfl, fun W hW => ?_⟩) hHeld ?_
        · obtain ⟨q0, q1, q2, q3, q4, q5, q6, q7, q8, q9, q10, q11⟩ := hW
          go_simp
        simp only [Act.put, List.setIfInBounds_toArray, List.set_cons_zero, List.set_cons_succ]
        refine wpAnyH_take (i := 4) (oi := { dst := some 51, op := Op.load 34 (Operand.tmp 7), type := 34, pos := "law.go:86", after := #[], guard := none }) (v := .agg #[.slice A1 n c1, .int .i64 (t : Int), .bool ov, .bool li, .bool hp]) rfl (by kernel_rfl) (by kernel_rfl) (by kernel_rfl) (fun _ _ _ h => h) (Or.inl ⟨by rfl, fun W hW => ?_⟩) hHeld ?_
        · obtain ⟨q0, q1, q2, q3, q4, q5, q6, q7, q8, q9, q10, q11⟩ := hW
          go_simp
        simp only [Act.put, List.setIfInBounds_toArray, List.set_cons_zero, List.set_cons_succ]
        refine wpAnyH_take (i := 5) (oi := { dst := some 52, op := Op.move (Operand.tmp 1), type := 52, pos := "law.go:86", after := #[], guard := none }) (v := .slice (some ⟨bA, oA, none⟩) nn c) rfl (by kernel_rfl) (by kernel_rfl) (by kernel_rfl) (fun _ _ _ h => h) (Or.inl ⟨by rfl, fun W hW => ?_⟩) hHeld ?_
        · obtain ⟨q0, q1, q2, q3, q4, q5, q6, q7, q8, q9, q10, q11⟩ := hW
          go_simp
        simp only [Act.put, List.setIfInBounds_toArray, List.set_cons_zero, List.set_cons_succ]
        refine wpAnyH_take (i := 6) (oi := { dst := some 53, op := Op.move (Operand.tmp 9), type := 3, pos := "law.go:86", after := #[], guard := none }) (v := .int .i64 (i : Int)) rfl (by kernel_rfl) (by kernel_rfl) (by kernel_rfl) (fun _ _ _ h => h) (Or.inl ⟨by rfl, fun W hW => ?_⟩) hHeld ?_
        · obtain ⟨q0, q1, q2, q3, q4, q5, q6, q7, q8, q9, q10, q11⟩ := hW
          go_simp
        simp only [Act.put, List.setIfInBounds_toArray, List.set_cons_zero, List.set_cons_succ]
        refine wpAnyH_take (i := 7) (oi := { dst := some 54, op := Op.indexAddr 52 (Operand.tmp 52) (Operand.tmp 53), type := 0, pos := "law.go:86", after := #[{ on := 5, ground := Ground.data }, { on := 6, ground := Ground.data }], guard := none }) (v := .pointer (some ⟨bA, oA + i * 4, none⟩)) rfl (by kernel_rfl) (by kernel_rfl) (by kernel_rfl) (fun _ _ _ h => h) (Or.inl ⟨by rfl, fun W hW => ?_⟩) hHeld ?_
        · obtain ⟨q0, q1, q2, q3, q4, q5, q6, q7, q8, q9, q10, q11⟩ := hW
          go_simp
        simp only [Act.put, List.setIfInBounds_toArray, List.set_cons_zero, List.set_cons_succ]
        refine wpAnyH_take (i := 8) (oi := { dst := some 55, op := Op.fieldAddr 55 (Operand.tmp 54) 0, type := 0, pos := "law.go:86", after := #[{ on := 7, ground := Ground.data }], guard := none }) (v := .pointer (some ⟨bA, oA + i * 4, none⟩)) rfl (by kernel_rfl) (by kernel_rfl) (by kernel_rfl) (fun _ _ _ h => h) (Or.inl ⟨by rfl, fun W hW => ?_⟩) hHeld ?_
        · obtain ⟨q0, q1, q2, q3, q4, q5, q6, q7, q8, q9, q10, q11⟩ := hW
          go_simp
        simp only [Act.put, List.setIfInBounds_toArray, List.set_cons_zero, List.set_cons_succ]
        refine wpAnyH_take (i := 9) (oi := { dst := some 56, op := Op.fieldAddr 36 (Operand.tmp 55) 0, type := 0, pos := "law.go:86", after := #[{ on := 8, ground := Ground.data }], guard := none }) (v := .pointer (some ⟨bA, oA + i * 4, none⟩)) rfl (by kernel_rfl) (by kernel_rfl) (by kernel_rfl) (fun _ _ _ h => h) (Or.inl ⟨by rfl, fun W hW => ?_⟩) hHeld ?_
        · obtain ⟨q0, q1, q2, q3, q4, q5, q6, q7, q8, q9, q10, q11⟩ := hW
          go_simp
        simp only [Act.put, List.setIfInBounds_toArray, List.set_cons_zero, List.set_cons_succ]
        refine wpAnyH_take (i := 10) (oi := { dst := some 57, op := Op.load 5 (Operand.tmp 56), type := 5, pos := "law.go:86", after := #[{ on := 9, ground := Ground.data }], guard := none }) (v := .int .u8 (u.toNat : Int)) rfl (by kernel_rfl) (by kernel_rfl) (by kernel_rfl) (fun _ _ _ h => h) (Or.inl ⟨by rfl, fun W hW => ?_⟩) hHeld ?_
        · obtain ⟨q0, q1, q2, q3, q4, q5, q6, q7, q8, q9, q10, q11⟩ := hW
          go_simp
        simp only [Act.put, List.setIfInBounds_toArray, List.set_cons_zero, List.set_cons_succ]
        refine wpAnyH_take (i := 11) (oi := { dst := some 58, op := Op.move (Operand.tmp 1), type := 52, pos := "law.go:86", after := #[], guard := none }) (v := .slice (some ⟨bA, oA, none⟩) nn c) rfl (by kernel_rfl) (by kernel_rfl) (by kernel_rfl) (fun _ _ _ h => h) (Or.inl ⟨by rfl, fun W hW => ?_⟩) hHeld ?_
        · obtain ⟨q0, q1, q2, q3, q4, q5, q6, q7, q8, q9, q10, q11⟩ := hW
          go_simp
        simp only [Act.put, List.setIfInBounds_toArray, List.set_cons_zero, List.set_cons_succ]
        refine wpAnyH_take (i := 12) (oi := { dst := some 59, op := Op.move (Operand.tmp 9), type := 3, pos := "law.go:86", after := #[], guard := none }) (v := .int .i64 (i : Int)) rfl (by kernel_rfl) (by kernel_rfl) (by kernel_rfl) (fun _ _ _ h => h) (Or.inl ⟨by rfl, fun W hW => ?_⟩) hHeld ?_
        · obtain ⟨q0, q1, q2, q3, q4, q5, q6, q7, q8, q9, q10, q11⟩ := hW
          go_simp
        simp only [Act.put, List.setIfInBounds_toArray, List.set_cons_zero, List.set_cons_succ]
        refine wpAnyH_take (i := 13) (oi := { dst := some 60, op := Op.indexAddr 52 (Operand.tmp 58) (Operand.tmp 59), type := 0, pos := "law.go:86", after := #[{ on := 11, ground := Ground.data }, { on := 12, ground := Ground.data }], guard := none }) (v := .pointer (some ⟨bA, oA + i * 4, none⟩)) rfl (by kernel_rfl) (by kernel_rfl) (by kernel_rfl) (fun _ _ _ h => h) (Or.inl ⟨by rfl, fun W hW => ?_⟩) hHeld ?_
        · obtain ⟨q0, q1, q2, q3, q4, q5, q6, q7, q8, q9, q10, q11⟩ := hW
          go_simp
        simp only [Act.put, List.setIfInBounds_toArray, List.set_cons_zero, List.set_cons_succ]
        refine wpAnyH_take (i := 14) (oi := { dst := some 61, op := Op.fieldAddr 55 (Operand.tmp 60) 0, type := 0, pos := "law.go:86", after := #[{ on := 13, ground := Ground.data }], guard := none }) (v := .pointer (some ⟨bA, oA + i * 4, none⟩)) rfl (by kernel_rfl) (by kernel_rfl) (by kernel_rfl) (fun _ _ _ h => h) (Or.inl ⟨by rfl, fun W hW => ?_⟩) hHeld ?_
        · obtain ⟨q0, q1, q2, q3, q4, q5, q6, q7, q8, q9, q10, q11⟩ := hW
          go_simp
        simp only [Act.put, List.setIfInBounds_toArray, List.set_cons_zero, List.set_cons_succ]
        refine wpAnyH_take (i := 15) (oi := { dst := some 62, op := Op.fieldAddr 36 (Operand.tmp 61) 1, type := 0, pos := "law.go:86", after := #[{ on := 14, ground := Ground.data }], guard := none }) (v := .pointer (some ⟨bA, oA + i * 4 + 1, none⟩)) rfl (by kernel_rfl) (by kernel_rfl) (by kernel_rfl) (fun _ _ _ h => h) (Or.inl ⟨by rfl, fun W hW => ?_⟩) hHeld ?_
        · obtain ⟨q0, q1, q2, q3, q4, q5, q6, q7, q8, q9, q10, q11⟩ := hW
          go_simp
        simp only [Act.put, List.setIfInBounds_toArray, List.set_cons_zero, List.set_cons_succ]
        refine wpAnyH_take (i := 16) (oi := { dst := some 63, op := Op.load 4 (Operand.tmp 62), type := 4, pos := "law.go:86", after := #[{ on := 15, ground := Ground.data }], guard := none }) (v := .bool ed) rfl (by kernel_rfl) (by kernel_rfl) (by kernel_rfl) (fun _ _ _ h => h) (Or.inl ⟨by rfl, fun W hW => ?_⟩) hHeld ?_
        · obtain ⟨q0, q1, q2, q3, q4, q5, q6, q7, q8, q9, q10, q11⟩ := hW
          go_simp
        simp only [Act.put, List.setIfInBounds_toArray, List.set_cons_zero, List.set_cons_succ]
        refine wpAnyH_take (i := 17) (oi := { dst := some 64, op := Op.move (Operand.tmp 1), type := 52, pos := "law.go:86", after := #[], guard := none }) (v := .slice (some ⟨bA, oA, none⟩) nn c) rfl (by kernel_rfl) (by kernel_rfl) (by kernel_rfl) (fun _ _ _ h => h) (Or.inl ⟨by rfl, fun W hW => ?_⟩) hHeld ?_
        · obtain ⟨q0, q1, q2, q3, q4, q5, q6, q7, q8, q9, q10, q11⟩ := hW
          go_simp
        simp only [Act.put, List.setIfInBounds_toArray, List.set_cons_zero, List.set_cons_succ]
        refine wpAnyH_take (i := 18) (oi := { dst := some 65, op := Op.move (Operand.tmp 9), type := 3, pos := "law.go:86", after := #[], guard := none }) (v := .int .i64 (i : Int)) rfl (by kernel_rfl) (by kernel_rfl) (by kernel_rfl) (fun _ _ _ h => h) (Or.inl ⟨by rfl, fun W hW => ?_⟩) hHeld ?_
        · obtain ⟨q0, q1, q2, q3, q4, q5, q6, q7, q8, q9, q10, q11⟩ := hW
          go_simp
        simp only [Act.put, List.setIfInBounds_toArray, List.set_cons_zero, List.set_cons_succ]
        refine wpAnyH_take (i := 19) (oi := { dst := some 66, op := Op.indexAddr 52 (Operand.tmp 64) (Operand.tmp 65), type := 0, pos := "law.go:86", after := #[{ on := 17, ground := Ground.data }, { on := 18, ground := Ground.data }], guard := none }) (v := .pointer (some ⟨bA, oA + i * 4, none⟩)) rfl (by kernel_rfl) (by kernel_rfl) (by kernel_rfl) (fun _ _ _ h => h) (Or.inl ⟨by rfl, fun W hW => ?_⟩) hHeld ?_
        · obtain ⟨q0, q1, q2, q3, q4, q5, q6, q7, q8, q9, q10, q11⟩ := hW
          go_simp
        simp only [Act.put, List.setIfInBounds_toArray, List.set_cons_zero, List.set_cons_succ]
        refine wpAnyH_take (i := 20) (oi := { dst := some 67, op := Op.fieldAddr 55 (Operand.tmp 66) 0, type := 0, pos := "law.go:86", after := #[{ on := 19, ground := Ground.data }], guard := none }) (v := .pointer (some ⟨bA, oA + i * 4, none⟩)) rfl (by kernel_rfl) (by kernel_rfl) (by kernel_rfl) (fun _ _ _ h => h) (Or.inl ⟨by rfl, fun W hW => ?_⟩) hHeld ?_
        · obtain ⟨q0, q1, q2, q3, q4, q5, q6, q7, q8, q9, q10, q11⟩ := hW
          go_simp
        simp only [Act.put, List.setIfInBounds_toArray, List.set_cons_zero, List.set_cons_succ]
        refine wpAnyH_take (i := 21) (oi := { dst := some 68, op := Op.fieldAddr 36 (Operand.tmp 67) 2, type := 0, pos := "law.go:86", after := #[{ on := 20, ground := Ground.data }], guard := none }) (v := .pointer (some ⟨bA, oA + i * 4 + 2, none⟩)) rfl (by kernel_rfl) (by kernel_rfl) (by kernel_rfl) (fun _ _ _ h => h) (Or.inl ⟨by rfl, fun W hW => ?_⟩) hHeld ?_
        · obtain ⟨q0, q1, q2, q3, q4, q5, q6, q7, q8, q9, q10, q11⟩ := hW
          go_simp
        simp only [Act.put, List.setIfInBounds_toArray, List.set_cons_zero, List.set_cons_succ]
        refine wpAnyH_take (i := 22) (oi := { dst := some 69, op := Op.load 4 (Operand.tmp 68), type := 4, pos := "law.go:86", after := #[{ on := 21, ground := Ground.data }], guard := none }) (v := .bool fw) rfl (by kernel_rfl) (by kernel_rfl) (by kernel_rfl) (fun _ _ _ h => h) (Or.inl ⟨by rfl, fun W hW => ?_⟩) hHeld ?_
        · obtain ⟨q0, q1, q2, q3, q4, q5, q6, q7, q8, q9, q10, q11⟩ := hW
          go_simp
        simp only [Act.put, List.setIfInBounds_toArray, List.set_cons_zero, List.set_cons_succ]
        refine wpAnyH_ready (rs := [23, 27, 28]) (by kernel_rfl) (by simp) ?_
        refine AllReadyH.cons (o := { dst := some 70, op := Op.call { callee := Callee.value (Operand.func 11), args := #[Operand.tmp 48, Operand.tmp 50, Operand.tmp 51, Operand.tmp 57, Operand.tmp 63, Operand.tmp 69], argTypes := #[25, 3, 34, 5, 4, 4] }, type := 42, pos := "law.go:86", after := #[{ on := 1, ground := Ground.data }, { on := 3, ground := Ground.data }, { on := 4, ground := Ground.data }, { on := 10, ground := Ground.data }, { on := 16, ground := Ground.data }, { on := 22, ground := Ground.data }], guard := none }) rfl (fun K hK => ?_) (AllReadyH.cons (o := { dst := some 11, op := Op.alloc 34, type := 0, pos := "law.go:86", after := #[], guard := none }) rfl (fun K hK => ?_) (AllReadyH.cons (o := { dst := some 12, op := Op.alloc 41, type := 0, pos := "law.go:86", after := #[], guard := none }) rfl (fun K hK => ?_) AllReadyH.nil))
        · go_simp
          with_reducible refine (CT.out (V1).drew A1 c1 (HPS.out.r5.at_ (Below.refl V1.heap.size V1).drew)).mono ?_
          rintro e wx1 ⟨Ay, cy, By, dy, rfl, hxx1, hsx1, hcx1, hfr0⟩
          have hbx1 : Below V1.heap.size V1 wx1 := bCall (Below.refl V1.heap.size V1).drew hcx1
          have hfr : Fr.Frs V1 Ay := Frs.mono hfr0 (Below.size (Below.refl V1.heap.size V1).drew)
          go_wp2_with fail
          refine hK.out _ _ (sDkS HDV1.out HPS.out.s5 HAS1.out hbx1) (fun hHeld2 => ?_)
          clear hK K hHeld
          have hHeld := hHeld2
          clear hHeld2
          try simp only [Act.put, List.setIfInBounds_toArray, List.set_cons_zero, List.set_cons_succ]
          refine wpAnyH_take (i := 24) (oi := { dst := some 46, op := Op.move (Operand.tmp 70), type := 42, pos := "law.go:86", after := #[{ on := 23, ground := Ground.data }], guard := none }) (v := .tuple #[.agg #[.slice Ay n1 cy, .int .i64 (t1 : Int), .bool ov1, .bool li1, .bool h1], .agg #[.slice By mk dy, .int .i64 (sg : Int), .bool bell]]) rfl (by kernel_rfl) (by kernel_rfl) (by kernel_rfl) (fun _ _ _ h => h) (Or.inl ⟨by rfl, fun W hW => ?_⟩) hHeld ?_
          · obtain ⟨q0, q1, q2, q3, q4, q5, q6, q7, q8, q9, q10, q11⟩ := hW
            go_simp
          simp only [Act.put, List.setIfInBounds_toArray, List.set_cons_zero, List.set_cons_succ]
          refine wpAnyH_take (i := 25) (oi := { dst := some 71, op := Op.extract (Operand.tmp 46) 0, type := 34, pos := "law.go:86", after := #[{ on := 24, ground := Ground.data }], guard := none }) (v := .agg #[.slice Ay n1 cy, .int .i64 (t1 : Int), .bool ov1, .bool li1, .bool h1]) rfl (by kernel_rfl) (by kernel_rfl) (by kernel_rfl) (fun _ _ _ h => h) (Or.inl ⟨by rfl, fun W hW => ?_⟩) hHeld ?_
          · obtain ⟨q0, q1, q2, q3, q4, q5, q6, q7, q8, q9, q10, q11⟩ := hW
            go_simp
          simp only [Act.put, List.setIfInBounds_toArray, List.set_cons_zero, List.set_cons_succ]
          refine wpAnyH_take (i := 26) (oi := { dst := some 72, op := Op.extract (Operand.tmp 46) 1, type := 41, pos := "law.go:86", after := #[{ on := 24, ground := Ground.data }, { on := 29, ground := Ground.gcOnly Departure.lateStores }], guard := none }) (v := .agg #[.slice By mk dy, .int .i64 (sg : Int), .bool bell]) rfl (by kernel_rfl) (by kernel_rfl) (by kernel_rfl) (fun _ _ _ h => h) (Or.inl ⟨by rfl, fun W hW => ?_⟩) hHeld ?_
          · obtain ⟨q0, q1, q2, q3, q4, q5, q6, q7, q8, q9, q10, q11⟩ := hW
            go_simp
          simp only [Act.put, List.setIfInBounds_toArray, List.set_cons_zero, List.set_cons_succ]
          refine wpAnyH_ready (rs := [27, 28]) (by kernel_rfl) (by simp) ?_
          refine AllReadyH.cons (o := { dst := some 11, op := Op.alloc 34, type := 0, pos := "law.go:86", after := #[], guard := none }) rfl (fun K hK => ?_) (AllReadyH.cons (o := { dst := some 12, op := Op.alloc 41, type := 0, pos := "law.go:86", after := #[], guard := none }) rfl (fun K hK => ?_) AllReadyH.nil)
          · go_simp
            have hbx2 : Below V1.heap.size V1 (wx1.alloc (.cells #[.slice none 0 0, .int .i64 0, .bool false, .bool false, .bool false] 34)) := bAlloc hbx1 (.cells #[.slice none 0 0, .int .i64 0, .bool false, .bool false, .bool false] 34)
            have hzx2 : SR 34 (wx1.alloc (.cells #[.slice none 0 0, .int .i64 0, .bool false, .bool false, .bool false] 34)) (wx1.heap.size) [.slice none 0 0, .int .i64 0, .bool false, .bool false, .bool false] := SR.new 34 (wx1) [.slice none 0 0, .int .i64 0, .bool false, .bool false, .bool false]
            have hvx2 : V1.heap.size ≤ wx1.heap.size := by have h0 := Below.size hbx1; exact h0
            have hxx2 := (hxx1).at_ (bAlloc (Below.refl _ _) (.cells #[.slice none 0 0, .int .i64 0, .bool false, .bool false, .bool false] 34))
            have hsx2 := (hsx1).at_ (bAlloc (Below.refl _ _) (.cells #[.slice none 0 0, .int .i64 0, .bool false, .bool false, .bool false] 34))
            refine hK.out _ _ (sDkS HDV1.out HPS.out.s5 HAS1.out hbx2) (fun hHeld2 => ?_)
            clear hK K hHeld
            have hHeld := hHeld2
            clear hHeld2
            try simp only [Act.put, List.setIfInBounds_toArray, List.set_cons_zero, List.set_cons_succ]
            generalize hWx2 : wx1.alloc (.cells #[.slice none 0 0, .int .i64 0, .bool false, .bool false, .bool false] 34) = Wx2 at *
            clear hWx2
            refine wpAnyH_ready (rs := [28]) (by kernel_rfl) (by simp) ?_
            refine AllReadyH.cons (o := { dst := some 12, op := Op.alloc 41, type := 0, pos := "law.go:86", after := #[], guard := none }) rfl (fun K hK => ?_) AllReadyH.nil
            go_simp
            have hbx3 : Below V1.heap.size V1 (Wx2.alloc (.cells #[.slice none 0 0, .int .i64 0, .bool false] 41)) := bAlloc hbx2 (.cells #[.slice none 0 0, .int .i64 0, .bool false] 41)
            have hzx3 : SR 41 (Wx2.alloc (.cells #[.slice none 0 0, .int .i64 0, .bool false] 41)) (Wx2.heap.size) [.slice none 0 0, .int .i64 0, .bool false] := SR.new 41 (Wx2) [.slice none 0 0, .int .i64 0, .bool false]
            have hvx3 : V1.heap.size ≤ Wx2.heap.size := by have h0 := Below.size hbx2; exact h0
            have hzx3_27 := SR.alloc hzx2 (.cells #[.slice none 0 0, .int .i64 0, .bool false] 41)
            have hnx3_27 : wx1.heap.size ≠ Wx2.heap.size := by have h0 := SR.lt hzx2; exact Nat.ne_of_lt h0
            have hxx3 := (hxx2).at_ (bAlloc (Below.refl _ _) (.cells #[.slice none 0 0, .int .i64 0, .bool false] 41))
            have hsx3 := (hsx2).at_ (bAlloc (Below.refl _ _) (.cells #[.slice none 0 0, .int .i64 0, .bool false] 41))
            refine hK.out _ _ (sDkS HDV1.out HPS.out.s5 HAS1.out hbx3) (fun hHeld2 => ?_)
            clear hK K hHeld
            have hHeld := hHeld2
            clear hHeld2
            try simp only [Act.put, List.setIfInBounds_toArray, List.set_cons_zero, List.set_cons_succ]
            generalize hWx3 : Wx2.alloc (.cells #[.slice none 0 0, .int .i64 0, .bool false] 41) = Wx3 at *
            clear hWx3
            have hne9 : wx1.heap.size ≠ Wx2.heap.size := by first | assumption | (apply Ne.symm; assumption)
            have hne8 : ¬ wx1.heap.size = Wx2.heap.size := hne9
            have hne7 : ¬ Wx2.heap.size = wx1.heap.size := fun e => hne9 e.symm
            obtain ⟨j0, j1, j2, j3, j4, r0, r1, r2, r3, r4, jt⟩ := tk_facts hzx3_27
            have HM := keepd (midy (V := V1) hzx3_27 hzx3 hne9 hbx3 hvx2 hvx3 hxx3 hsx3 (l := l1) (n := n1) (A := Ay) (c := cy) (z := (t1 : Int)) (ov := ov1) (li := li1) (h := h1) (ks := ks) (B := By) (m := mk) (d := dy) (sg := (sg : Int)) (bell := bell))
            have hb5S : Below V1.heap.size V1 (set5 Wx3 wx1.heap.size (.slice Ay n1 cy) (.int .i64 (t1 : Int)) (.bool ov1) (.bool li1) (.bool h1)) := set5_below hbx3 hvx2
            have hyS : SR 41 (set5 Wx3 wx1.heap.size (.slice Ay n1 cy) (.int .i64 (t1 : Int)) (.bool ov1) (.bool li1) (.bool h1)) (Wx2.heap.size) [.slice none 0 0, .int .i64 0, .bool false] := set5_far hzx3 hne7
            refine wpAnyH_ready (rs := [29]) (by kernel_rfl) (by simp) ?_
            refine AllReadyH.cons (o := { dst := none, op := Op.store 34 (Operand.tmp 11) (Operand.tmp 71), type := 0, pos := "law.go:86", after := #[{ on := 27, ground := Ground.data }, { on := 25, ground := Ground.data }, { on := 23, ground := Ground.chain }, { on := 0, ground := Ground.phase }, { on := 1, ground := Ground.phase }, { on := 2, ground := Ground.phase }, { on := 3, ground := Ground.phase }, { on := 4, ground := Ground.phase }, { on := 5, ground := Ground.phase }, { on := 6, ground := Ground.phase }, { on := 7, ground := Ground.phase }, { on := 8, ground := Ground.phase }, { on := 9, ground := Ground.phase }, { on := 10, ground := Ground.phase }, { on := 11, ground := Ground.phase }, { on := 12, ground := Ground.phase }, { on := 13, ground := Ground.phase }, { on := 14, ground := Ground.phase }, { on := 15, ground := Ground.phase }, { on := 16, ground := Ground.phase }, { on := 17, ground := Ground.phase }, { on := 18, ground := Ground.phase }, { on := 19, ground := Ground.phase }, { on := 20, ground := Ground.phase }, { on := 21, ground := Ground.phase }, { on := 22, ground := Ground.phase }, { on := 23, ground := Ground.phase }, { on := 24, ground := Ground.phase }, { on := 25, ground := Ground.phase }, { on := 26, ground := Ground.textOnly Departure.lateStores }, { on := 27, ground := Ground.phase }, { on := 28, ground := Ground.phase }], guard := none }) rfl (fun K hK => ?_) AllReadyH.nil
            go_simp
            refine hK.out _ (set5 Wx3 wx1.heap.size (.slice Ay n1 cy) (.int .i64 (t1 : Int)) (.bool ov1) (.bool li1) (.bool h1)) (sDkS HDV1.out HPS.out.s5 HAS1.out hb5S) (fun hHeld2 => ?_)
            clear hK K hHeld
            have hHeld := hHeld2
            clear hHeld2
            try simp only [Act.put, List.setIfInBounds_toArray, List.set_cons_zero, List.set_cons_succ]
            clear j0 j1 j2 j3 j4 r0 r1 r2 r3 r4 jt
            obtain ⟨j0, j1, j2, r0, r1, r2, jt⟩ := ty_facts hyS
            refine wpAnyH_ready (rs := [30]) (by kernel_rfl) (by simp) ?_
            refine AllReadyH.cons (o := { dst := none, op := Op.store 41 (Operand.tmp 12) (Operand.tmp 72), type := 0, pos := "law.go:86", after := #[{ on := 28, ground := Ground.data }, { on := 26, ground := Ground.data }, { on := 29, ground := Ground.chain }, { on := 0, ground := Ground.phase }, { on := 1, ground := Ground.phase }, { on := 2, ground := Ground.phase }, { on := 3, ground := Ground.phase }, { on := 4, ground := Ground.phase }, { on := 5, ground := Ground.phase }, { on := 6, ground := Ground.phase }, { on := 7, ground := Ground.phase }, { on := 8, ground := Ground.phase }, { on := 9, ground := Ground.phase }, { on := 10, ground := Ground.phase }, { on := 11, ground := Ground.phase }, { on := 12, ground := Ground.phase }, { on := 13, ground := Ground.phase }, { on := 14, ground := Ground.phase }, { on := 15, ground := Ground.phase }, { on := 16, ground := Ground.phase }, { on := 17, ground := Ground.phase }, { on := 18, ground := Ground.phase }, { on := 19, ground := Ground.phase }, { on := 20, ground := Ground.phase }, { on := 21, ground := Ground.phase }, { on := 22, ground := Ground.phase }, { on := 23, ground := Ground.phase }, { on := 24, ground := Ground.phase }, { on := 25, ground := Ground.phase }, { on := 26, ground := Ground.phase }, { on := 27, ground := Ground.phase }, { on := 28, ground := Ground.phase }, { on := 29, ground := Ground.phase }], guard := none }) rfl (fun K hK => ?_) AllReadyH.nil
            go_simp
            refine hK.out _ (set3 (set5 Wx3 wx1.heap.size (.slice Ay n1 cy) (.int .i64 (t1 : Int)) (.bool ov1) (.bool li1) (.bool h1)) Wx2.heap.size (.slice By mk dy) (.int .i64 (sg : Int)) (.bool bell)) (sDkS HDV1.out HPS.out.s5 HAS1.out HM.out.2.2.2.2.1) (fun hHeld2 => ?_)
            clear hK K hHeld
            have hHeld := hHeld2
            clear hHeld2
            try simp only [Act.put, List.setIfInBounds_toArray, List.set_cons_zero, List.set_cons_succ]
            refine wpAnyH_done (by kernel_rfl) ?_ _
            go_wp2_with fail
            go_meet
            exact ⟨_, _, _, _, _, _, rfl, rfl, HM, hfr⟩
          · go_simp
            have hbx4 : Below V1.heap.size V1 (wx1.alloc (.cells #[.slice none 0 0, .int .i64 0, .bool false] 41)) := bAlloc hbx1 (.cells #[.slice none 0 0, .int .i64 0, .bool false] 41)
            have hzx4 : SR 41 (wx1.alloc (.cells #[.slice none 0 0, .int .i64 0, .bool false] 41)) (wx1.heap.size) [.slice none 0 0, .int .i64 0, .bool false] := SR.new 41 (wx1) [.slice none 0 0, .int .i64 0, .bool false]
            have hvx4 : V1.heap.size ≤ wx1.heap.size := by have h0 := Below.size hbx1; exact h0
            have hxx4 := (hxx1).at_ (bAlloc (Below.refl _ _) (.cells #[.slice none 0 0, .int .i64 0, .bool false] 41))
            have hsx4 := (hsx1).at_ (bAlloc (Below.refl _ _) (.cells #[.slice none 0 0, .int .i64 0, .bool false] 41))
            refine hK.out _ _ (sDkS HDV1.out HPS.out.s5 HAS1.out hbx4) (fun hHeld2 => ?_)
            clear hK K hHeld
            have hHeld := hHeld2
            clear hHeld2
            try simp only [Act.put, List.setIfInBounds_toArray, List.set_cons_zero, List.set_cons_succ]
            generalize hWx4 : wx1.alloc (.cells #[.slice none 0 0, .int .i64 0, .bool false] 41) = Wx4 at *
            clear hWx4
            refine wpAnyH_ready (rs := [27]) (by kernel_rfl) (by simp) ?_
            refine AllReadyH.cons (o := { dst := some 11, op := Op.alloc 34, type := 0, pos := "law.go:86", after := #[], guard := none }) rfl (fun K hK => ?_) AllReadyH.nil
            go_simp
            have hbx5 : Below V1.heap.size V1 (Wx4.alloc (.cells #[.slice none 0 0, .int .i64 0, .bool false, .bool false, .bool false] 34)) := bAlloc hbx4 (.cells #[.slice none 0 0, .int .i64 0, .bool false, .bool false, .bool false] 34)
            have hzx5 : SR 34 (Wx4.alloc (.cells #[.slice none 0 0, .int .i64 0, .bool false, .bool false, .bool false] 34)) (Wx4.heap.size) [.slice none 0 0, .int .i64 0, .bool false, .bool false, .bool false] := SR.new 34 (Wx4) [.slice none 0 0, .int .i64 0, .bool false, .bool false, .bool false]
            have hvx5 : V1.heap.size ≤ Wx4.heap.size := by have h0 := Below.size hbx4; exact h0
            have hzx5_28 := SR.alloc hzx4 (.cells #[.slice none 0 0, .int .i64 0, .bool false, .bool false, .bool false] 34)
            have hnx5_28 : wx1.heap.size ≠ Wx4.heap.size := by have h0 := SR.lt hzx4; exact Nat.ne_of_lt h0
            have hxx5 := (hxx4).at_ (bAlloc (Below.refl _ _) (.cells #[.slice none 0 0, .int .i64 0, .bool false, .bool false, .bool false] 34))
            have hsx5 := (hsx4).at_ (bAlloc (Below.refl _ _) (.cells #[.slice none 0 0, .int .i64 0, .bool false, .bool false, .bool false] 34))
            refine hK.out _ _ (sDkS HDV1.out HPS.out.s5 HAS1.out hbx5) (fun hHeld2 => ?_)
            clear hK K hHeld
            have hHeld := hHeld2
            clear hHeld2
            try simp only [Act.put, List.setIfInBounds_toArray, List.set_cons_zero, List.set_cons_succ]
            generalize hWx5 : Wx4.alloc (.cells #[.slice none 0 0, .int .i64 0, .bool false, .bool false, .bool false] 34) = Wx5 at *
            clear hWx5
            have hne9 : Wx4.heap.size ≠ wx1.heap.size := by first | assumption | (apply Ne.symm; assumption)
            have hne8 : ¬ Wx4.heap.size = wx1.heap.size := hne9
            have hne7 : ¬ wx1.heap.size = Wx4.heap.size := fun e => hne9 e.symm
            obtain ⟨j0, j1, j2, j3, j4, r0, r1, r2, r3, r4, jt⟩ := tk_facts hzx5
            have HM := keepd (midy (V := V1) hzx5 hzx5_28 hne9 hbx5 hvx5 hvx4 hxx5 hsx5 (l := l1) (n := n1) (A := Ay) (c := cy) (z := (t1 : Int)) (ov := ov1) (li := li1) (h := h1) (ks := ks) (B := By) (m := mk) (d := dy) (sg := (sg : Int)) (bell := bell))
            have hb5S : Below V1.heap.size V1 (set5 Wx5 Wx4.heap.size (.slice Ay n1 cy) (.int .i64 (t1 : Int)) (.bool ov1) (.bool li1) (.bool h1)) := set5_below hbx5 hvx5
            have hyS : SR 41 (set5 Wx5 Wx4.heap.size (.slice Ay n1 cy) (.int .i64 (t1 : Int)) (.bool ov1) (.bool li1) (.bool h1)) (wx1.heap.size) [.slice none 0 0, .int .i64 0, .bool false] := set5_far hzx5_28 hne7
            refine wpAnyH_ready (rs := [29]) (by kernel_rfl) (by simp) ?_
            refine AllReadyH.cons (o := { dst := none, op := Op.store 34 (Operand.tmp 11) (Operand.tmp 71), type := 0, pos := "law.go:86", after := #[{ on := 27, ground := Ground.data }, { on := 25, ground := Ground.data }, { on := 23, ground := Ground.chain }, { on := 0, ground := Ground.phase }, { on := 1, ground := Ground.phase }, { on := 2, ground := Ground.phase }, { on := 3, ground := Ground.phase }, { on := 4, ground := Ground.phase }, { on := 5, ground := Ground.phase }, { on := 6, ground := Ground.phase }, { on := 7, ground := Ground.phase }, { on := 8, ground := Ground.phase }, { on := 9, ground := Ground.phase }, { on := 10, ground := Ground.phase }, { on := 11, ground := Ground.phase }, { on := 12, ground := Ground.phase }, { on := 13, ground := Ground.phase }, { on := 14, ground := Ground.phase }, { on := 15, ground := Ground.phase }, { on := 16, ground := Ground.phase }, { on := 17, ground := Ground.phase }, { on := 18, ground := Ground.phase }, { on := 19, ground := Ground.phase }, { on := 20, ground := Ground.phase }, { on := 21, ground := Ground.phase }, { on := 22, ground := Ground.phase }, { on := 23, ground := Ground.phase }, { on := 24, ground := Ground.phase }, { on := 25, ground := Ground.phase }, { on := 26, ground := Ground.textOnly Departure.lateStores }, { on := 27, ground := Ground.phase }, { on := 28, ground := Ground.phase }], guard := none }) rfl (fun K hK => ?_) AllReadyH.nil
            go_simp
            refine hK.out _ (set5 Wx5 Wx4.heap.size (.slice Ay n1 cy) (.int .i64 (t1 : Int)) (.bool ov1) (.bool li1) (.bool h1)) (sDkS HDV1.out HPS.out.s5 HAS1.out hb5S) (fun hHeld2 => ?_)
            clear hK K hHeld
            have hHeld := hHeld2
            clear hHeld2
            try simp only [Act.put, List.setIfInBounds_toArray, List.set_cons_zero, List.set_cons_succ]
            clear j0 j1 j2 j3 j4 r0 r1 r2 r3 r4 jt
            obtain ⟨j0, j1, j2, r0, r1, r2, jt⟩ := ty_facts hyS
            refine wpAnyH_ready (rs := [30]) (by kernel_rfl) (by simp) ?_
            refine AllReadyH.cons (o := { dst := none, op := Op.store 41 (Operand.tmp 12) (Operand.tmp 72), type := 0, pos := "law.go:86", after := #[{ on := 28, ground := Ground.data }, { on := 26, ground := Ground.data }, { on := 29, ground := Ground.chain }, { on := 0, ground := Ground.phase }, { on := 1, ground := Ground.phase }, { on := 2, ground := Ground.phase }, { on := 3, ground := Ground.phase }, { on := 4, ground := Ground.phase }, { on := 5, ground := Ground.phase }, { on := 6, ground := Ground.phase }, { on := 7, ground := Ground.phase }, { on := 8, ground := Ground.phase }, { on := 9, ground := Ground.phase }, { on := 10, ground := Ground.phase }, { on := 11, ground := Ground.phase }, { on := 12, ground := Ground.phase }, { on := 13, ground := Ground.phase }, { on := 14, ground := Ground.phase }, { on := 15, ground := Ground.phase }, { on := 16, ground := Ground.phase }, { on := 17, ground := Ground.phase }, { on := 18, ground := Ground.phase }, { on := 19, ground := Ground.phase }, { on := 20, ground := Ground.phase }, { on := 21, ground := Ground.phase }, { on := 22, ground := Ground.phase }, { on := 23, ground := Ground.phase }, { on := 24, ground := Ground.phase }, { on := 25, ground := Ground.phase }, { on := 26, ground := Ground.phase }, { on := 27, ground := Ground.phase }, { on := 28, ground := Ground.phase }, { on := 29, ground := Ground.phase }], guard := none }) rfl (fun K hK => ?_) AllReadyH.nil
            go_simp
            refine hK.out _ (set3 (set5 Wx5 Wx4.heap.size (.slice Ay n1 cy) (.int .i64 (t1 : Int)) (.bool ov1) (.bool li1) (.bool h1)) wx1.heap.size (.slice By mk dy) (.int .i64 (sg : Int)) (.bool bell)) (sDkS HDV1.out HPS.out.s5 HAS1.out HM.out.2.2.2.2.1) (fun hHeld2 => ?_)
            clear hK K hHeld
            have hHeld := hHeld2
            clear hHeld2
            try simp only [Act.put, List.setIfInBounds_toArray, List.set_cons_zero, List.set_cons_succ]
            refine wpAnyH_done (by kernel_rfl) ?_ _
            go_wp2_with fail
            go_meet
            exact ⟨_, _, _, _, _, _, rfl, rfl, HM, hfr⟩
        · go_simp
          have hbx6 : Below V1.heap.size V1 ((V1.alloc (.cells #[.slice none 0 0, .int .i64 0, .bool false, .bool false, .bool false] 34)).drew) := bAlloc (Below.refl V1.heap.size V1).drew (.cells #[.slice none 0 0, .int .i64 0, .bool false, .bool false, .bool false] 34)
          have hzx6 : SR 34 ((V1.alloc (.cells #[.slice none 0 0, .int .i64 0, .bool false, .bool false, .bool false] 34)).drew) (V1.heap.size) [.slice none 0 0, .int .i64 0, .bool false, .bool false, .bool false] := SR.new 34 (V1) [.slice none 0 0, .int .i64 0, .bool false, .bool false, .bool false]
          have hvx6 : V1.heap.size ≤ V1.heap.size := by have h0 := Below.size (Below.refl V1.heap.size V1).drew; exact h0
          refine hK.out _ _ (sDkS HDV1.out HPS.out.s5 HAS1.out hbx6) (fun hHeld2 => ?_)
          clear hK K hHeld
          have hHeld := hHeld2
          clear hHeld2
          try simp only [Act.put, List.setIfInBounds_toArray, List.set_cons_zero, List.set_cons_succ]
          generalize hWx6 : (V1.alloc (.cells #[.slice none 0 0, .int .i64 0, .bool false, .bool false, .bool false] 34)).drew = Wx6 at *
          clear hWx6
          refine wpAnyH_ready (rs := [23, 28]) (by kernel_rfl) (by simp) ?_
          refine AllReadyH.cons (o := { dst := some 70, op := Op.call { callee := Callee.value (Operand.func 11), args := #[Operand.tmp 48, Operand.tmp 50, Operand.tmp 51, Operand.tmp 57, Operand.tmp 63, Operand.tmp 69], argTypes := #[25, 3, 34, 5, 4, 4] }, type := 42, pos := "law.go:86", after := #[{ on := 1, ground := Ground.data }, { on := 3, ground := Ground.data }, { on := 4, ground := Ground.data }, { on := 10, ground := Ground.data }, { on := 16, ground := Ground.data }, { on := 22, ground := Ground.data }], guard := none }) rfl (fun K hK => ?_) (AllReadyH.cons (o := { dst := some 12, op := Op.alloc 41, type := 0, pos := "law.go:86", after := #[], guard := none }) rfl (fun K hK => ?_) AllReadyH.nil)
          · go_simp
            with_reducible refine (CT.out Wx6 A1 c1 (HPS.out.r5.at_ hbx6)).mono ?_
            rintro e wx7 ⟨Ay, cy, By, dy, rfl, hxx7, hsx7, hcx7, hfr0⟩
            have hbx7 : Below V1.heap.size V1 wx7 := bCall hbx6 hcx7
            have hzx7_27 := SR.call hzx6 hcx7 (hzx6).lt
            have hfr : Fr.Frs V1 Ay := Frs.mono hfr0 (Below.size hbx6)
            go_wp2_with fail
            refine hK.out _ _ (sDkS HDV1.out HPS.out.s5 HAS1.out hbx7) (fun hHeld2 => ?_)
            clear hK K hHeld
            have hHeld := hHeld2
            clear hHeld2
            try simp only [Act.put, List.setIfInBounds_toArray, List.set_cons_zero, List.set_cons_succ]
            refine wpAnyH_take (i := 24) (oi := { dst := some 46, op := Op.move (Operand.tmp 70), type := 42, pos := "law.go:86", after := #[{ on := 23, ground := Ground.data }], guard := none }) (v := .tuple #[.agg #[.slice Ay n1 cy, .int .i64 (t1 : Int), .bool ov1, .bool li1, .bool h1], .agg #[.slice By mk dy, .int .i64 (sg : Int), .bool bell]]) rfl (by kernel_rfl) (by kernel_rfl) (by kernel_rfl) (fun _ _ _ h => h) (Or.inl ⟨by rfl, fun W hW => ?_⟩) hHeld ?_
            · obtain ⟨q0, q1, q2, q3, q4, q5, q6, q7, q8, q9, q10, q11⟩ := hW
              go_simp
            simp only [Act.put, List.setIfInBounds_toArray, List.set_cons_zero, List.set_cons_succ]
            refine wpAnyH_take (i := 25) (oi := { dst := some 71, op := Op.extract (Operand.tmp 46) 0, type := 34, pos := "law.go:86", after := #[{ on := 24, ground := Ground.data }], guard := none }) (v := .agg #[.slice Ay n1 cy, .int .i64 (t1 : Int), .bool ov1, .bool li1, .bool h1]) rfl (by kernel_rfl) (by kernel_rfl) (by kernel_rfl) (fun _ _ _ h => h) (Or.inl ⟨by rfl, fun W hW => ?_⟩) hHeld ?_
            · obtain ⟨q0, q1, q2, q3, q4, q5, q6, q7, q8, q9, q10, q11⟩ := hW
              go_simp
            simp only [Act.put, List.setIfInBounds_toArray, List.set_cons_zero, List.set_cons_succ]
            refine wpAnyH_take (i := 26) (oi := { dst := some 72, op := Op.extract (Operand.tmp 46) 1, type := 41, pos := "law.go:86", after := #[{ on := 24, ground := Ground.data }, { on := 29, ground := Ground.gcOnly Departure.lateStores }], guard := none }) (v := .agg #[.slice By mk dy, .int .i64 (sg : Int), .bool bell]) rfl (by kernel_rfl) (by kernel_rfl) (by kernel_rfl) (fun _ _ _ h => h) (Or.inl ⟨by rfl, fun W hW => ?_⟩) hHeld ?_
            · obtain ⟨q0, q1, q2, q3, q4, q5, q6, q7, q8, q9, q10, q11⟩ := hW
              go_simp
            simp only [Act.put, List.setIfInBounds_toArray, List.set_cons_zero, List.set_cons_succ]
            refine wpAnyH_ready (rs := [28]) (by kernel_rfl) (by simp) ?_
            refine AllReadyH.cons (o := { dst := some 12, op := Op.alloc 41, type := 0, pos := "law.go:86", after := #[], guard := none }) rfl (fun K hK => ?_) AllReadyH.nil
            go_simp
            have hbx8 : Below V1.heap.size V1 (wx7.alloc (.cells #[.slice none 0 0, .int .i64 0, .bool false] 41)) := bAlloc hbx7 (.cells #[.slice none 0 0, .int .i64 0, .bool false] 41)
            have hzx8 : SR 41 (wx7.alloc (.cells #[.slice none 0 0, .int .i64 0, .bool false] 41)) (wx7.heap.size) [.slice none 0 0, .int .i64 0, .bool false] := SR.new 41 (wx7) [.slice none 0 0, .int .i64 0, .bool false]
            have hvx8 : V1.heap.size ≤ wx7.heap.size := by have h0 := Below.size hbx7; exact h0
            have hzx8_27 := SR.alloc hzx7_27 (.cells #[.slice none 0 0, .int .i64 0, .bool false] 41)
            have hnx8_27 : V1.heap.size ≠ wx7.heap.size := by have h0 := SR.lt hzx7_27; exact Nat.ne_of_lt h0
            have hxx8 := (hxx7).at_ (bAlloc (Below.refl _ _) (.cells #[.slice none 0 0, .int .i64 0, .bool false] 41))
            have hsx8 := (hsx7).at_ (bAlloc (Below.refl _ _) (.cells #[.slice none 0 0, .int .i64 0, .bool false] 41))
            refine hK.out _ _ (sDkS HDV1.out HPS.out.s5 HAS1.out hbx8) (fun hHeld2 => ?_)
            clear hK K hHeld
            have hHeld := hHeld2
            clear hHeld2
            try simp only [Act.put, List.setIfInBounds_toArray, List.set_cons_zero, List.set_cons_succ]
            generalize hWx8 : wx7.alloc (.cells #[.slice none 0 0, .int .i64 0, .bool false] 41) = Wx8 at *
            clear hWx8
            have hne9 : V1.heap.size ≠ wx7.heap.size := by first | assumption | (apply Ne.symm; assumption)
            have hne8 : ¬ V1.heap.size = wx7.heap.size := hne9
            have hne7 : ¬ wx7.heap.size = V1.heap.size := fun e => hne9 e.symm
            obtain ⟨j0, j1, j2, j3, j4, r0, r1, r2, r3, r4, jt⟩ := tk_facts hzx8_27
            have HM := keepd (midy (V := V1) hzx8_27 hzx8 hne9 hbx8 hvx6 hvx8 hxx8 hsx8 (l := l1) (n := n1) (A := Ay) (c := cy) (z := (t1 : Int)) (ov := ov1) (li := li1) (h := h1) (ks := ks) (B := By) (m := mk) (d := dy) (sg := (sg : Int)) (bell := bell))
            have hb5S : Below V1.heap.size V1 (set5 Wx8 V1.heap.size (.slice Ay n1 cy) (.int .i64 (t1 : Int)) (.bool ov1) (.bool li1) (.bool h1)) := set5_below hbx8 hvx6
            have hyS : SR 41 (set5 Wx8 V1.heap.size (.slice Ay n1 cy) (.int .i64 (t1 : Int)) (.bool ov1) (.bool li1) (.bool h1)) (wx7.heap.size) [.slice none 0 0, .int .i64 0, .bool false] := set5_far hzx8 hne7
            refine wpAnyH_ready (rs := [29]) (by kernel_rfl) (by simp) ?_
            refine AllReadyH.cons (o := { dst := none, op := Op.store 34 (Operand.tmp 11) (Operand.tmp 71), type := 0, pos := "law.go:86", after := #[{ on := 27, ground := Ground.data }, { on := 25, ground := Ground.data }, { on := 23, ground := Ground.chain }, { on := 0, ground := Ground.phase }, { on := 1, ground := Ground.phase }, { on := 2, ground := Ground.phase }, { on := 3, ground := Ground.phase }, { on := 4, ground := Ground.phase }, { on := 5, ground := Ground.phase }, { on := 6, ground := Ground.phase }, { on := 7, ground := Ground.phase }, { on := 8, ground := Ground.phase }, { on := 9, ground := Ground.phase }, { on := 10, ground := Ground.phase }, { on := 11, ground := Ground.phase }, { on := 12, ground := Ground.phase }, { on := 13, ground := Ground.phase }, { on := 14, ground := Ground.phase }, { on := 15, ground := Ground.phase }, { on := 16, ground := Ground.phase }, { on := 17, ground := Ground.phase }, { on := 18, ground := Ground.phase }, { on := 19, ground := Ground.phase }, { on := 20, ground := Ground.phase }, { on := 21, ground := Ground.phase }, { on := 22, ground := Ground.phase }, { on := 23, ground := Ground.phase }, { on := 24, ground := Ground.phase }, { on := 25, ground := Ground.phase }, { on := 26, ground := Ground.textOnly Departure.lateStores }, { on := 27, ground := Ground.phase }, { on := 28, ground := Ground.phase }], guard := none }) rfl (fun K hK => ?_) AllReadyH.nil
            go_simp
            refine hK.out _ (set5 Wx8 V1.heap.size (.slice Ay n1 cy) (.int .i64 (t1 : Int)) (.bool ov1) (.bool li1) (.bool h1)) (sDkS HDV1.out HPS.out.s5 HAS1.out hb5S) (fun hHeld2 => ?_)
            clear hK K hHeld
            have hHeld := hHeld2
            clear hHeld2
            try simp only [Act.put, List.setIfInBounds_toArray, List.set_cons_zero, List.set_cons_succ]
            clear j0 j1 j2 j3 j4 r0 r1 r2 r3 r4 jt
            obtain ⟨j0, j1, j2, r0, r1, r2, jt⟩ := ty_facts hyS
            refine wpAnyH_ready (rs := [30]) (by kernel_rfl) (by simp) ?_
            refine AllReadyH.cons (o := { dst := none, op := Op.store 41 (Operand.tmp 12) (Operand.tmp 72), type := 0, pos := "law.go:86", after := #[{ on := 28, ground := Ground.data }, { on := 26, ground := Ground.data }, { on := 29, ground := Ground.chain }, { on := 0, ground := Ground.phase }, { on := 1, ground := Ground.phase }, { on := 2, ground := Ground.phase }, { on := 3, ground := Ground.phase }, { on := 4, ground := Ground.phase }, { on := 5, ground := Ground.phase }, { on := 6, ground := Ground.phase }, { on := 7, ground := Ground.phase }, { on := 8, ground := Ground.phase }, { on := 9, ground := Ground.phase }, { on := 10, ground := Ground.phase }, { on := 11, ground := Ground.phase }, { on := 12, ground := Ground.phase }, { on := 13, ground := Ground.phase }, { on := 14, ground := Ground.phase }, { on := 15, ground := Ground.phase }, { on := 16, ground := Ground.phase }, { on := 17, ground := Ground.phase }, { on := 18, ground := Ground.phase }, { on := 19, ground := Ground.phase }, { on := 20, ground := Ground.phase }, { on := 21, ground := Ground.phase }, { on := 22, ground := Ground.phase }, { on := 23, ground := Ground.phase }, { on := 24, ground := Ground.phase }, { on := 25, ground := Ground.phase }, { on := 26, ground := Ground.phase }, { on := 27, ground := Ground.phase }, { on := 28, ground := Ground.phase }, { on := 29, ground := Ground.phase }], guard := none }) rfl (fun K hK => ?_) AllReadyH.nil
            go_simp
            refine hK.out _ (set3 (set5 Wx8 V1.heap.size (.slice Ay n1 cy) (.int .i64 (t1 : Int)) (.bool ov1) (.bool li1) (.bool h1)) wx7.heap.size (.slice By mk dy) (.int .i64 (sg : Int)) (.bool bell)) (sDkS HDV1.out HPS.out.s5 HAS1.out HM.out.2.2.2.2.1) (fun hHeld2 => ?_)
            clear hK K hHeld
            have hHeld := hHeld2
            clear hHeld2
            try simp only [Act.put, List.setIfInBounds_toArray, List.set_cons_zero, List.set_cons_succ]
            refine wpAnyH_done (by kernel_rfl) ?_ _
            go_wp2_with fail
            go_meet
            exact ⟨_, _, _, _, _, _, rfl, rfl, HM, hfr⟩
          · go_simp
            have hbx9 : Below V1.heap.size V1 (Wx6.alloc (.cells #[.slice none 0 0, .int .i64 0, .bool false] 41)) := bAlloc hbx6 (.cells #[.slice none 0 0, .int .i64 0, .bool false] 41)
            have hzx9 : SR 41 (Wx6.alloc (.cells #[.slice none 0 0, .int .i64 0, .bool false] 41)) (Wx6.heap.size) [.slice none 0 0, .int .i64 0, .bool false] := SR.new 41 (Wx6) [.slice none 0 0, .int .i64 0, .bool false]
            have hvx9 : V1.heap.size ≤ Wx6.heap.size := by have h0 := Below.size hbx6; exact h0
            have hzx9_27 := SR.alloc hzx6 (.cells #[.slice none 0 0, .int .i64 0, .bool false] 41)
            have hnx9_27 : V1.heap.size ≠ Wx6.heap.size := by have h0 := SR.lt hzx6; exact Nat.ne_of_lt h0
            refine hK.out _ _ (sDkS HDV1.out HPS.out.s5 HAS1.out hbx9) (fun hHeld2 => ?_)
            clear hK K hHeld
            have hHeld := hHeld2
            clear hHeld2
            try simp only [Act.put, List.setIfInBounds_toArray, List.set_cons_zero, List.set_cons_succ]
            generalize hWx9 : Wx6.alloc (.cells #[.slice none 0 0, .int .i64 0, .bool false] 41) = Wx9 at *
            clear hWx9
            refine wpAnyH_ready (rs := [23]) (by kernel_rfl) (by simp) ?_
            refine AllReadyH.cons (o := { dst := some 70, op := Op.call { callee := Callee.value (Operand.func 11), args := #[Operand.tmp 48, Operand.tmp 50, Operand.tmp 51, Operand.tmp 57, Operand.tmp 63, Operand.tmp 69], argTypes := #[25, 3, 34, 5, 4, 4] }, type := 42, pos := "law.go:86", after := #[{ on := 1, ground := Ground.data }, { on := 3, ground := Ground.data }, { on := 4, ground := Ground.data }, { on := 10, ground := Ground.data }, { on := 16, ground := Ground.data }, { on := 22, ground := Ground.data }], guard := none }) rfl (fun K hK => ?_) AllReadyH.nil
            go_simp
            with_reducible refine (CT.out Wx9 A1 c1 (HPS.out.r5.at_ hbx9)).mono ?_
            rintro e wx10 ⟨Ay, cy, By, dy, rfl, hxx10, hsx10, hcx10, hfr0⟩
            have hbx10 : Below V1.heap.size V1 wx10 := bCall hbx9 hcx10
            have hzx10_27 := SR.call hzx9_27 hcx10 (hzx9_27).lt
            have hzx10_28 := SR.call hzx9 hcx10 (hzx9).lt
            have hfr : Fr.Frs V1 Ay := Frs.mono hfr0 (Below.size hbx9)
            go_wp2_with fail
            refine hK.out _ _ (sDkS HDV1.out HPS.out.s5 HAS1.out hbx10) (fun hHeld2 => ?_)
            clear hK K hHeld
            have hHeld := hHeld2
            clear hHeld2
            try simp only [Act.put, List.setIfInBounds_toArray, List.set_cons_zero, List.set_cons_succ]
            refine wpAnyH_take (i := 24) (oi := { dst := some 46, op := Op.move (Operand.tmp 70), type := 42, pos := "law.go:86", after := #[{ on := 23, ground := Ground.data }], guard := none }) (v := .tuple #[.agg #[.slice Ay n1 cy, .int .i64 (t1 : Int), .bool ov1, .bool li1, .bool h1], .agg #[.slice By mk dy, .int .i64 (sg : Int), .bool bell]]) rfl (by kernel_rfl) (by kernel_rfl) (by kernel_rfl) (fun _ _ _ h => h) (Or.inl ⟨by rfl, fun W hW => ?_⟩) hHeld ?_
            · obtain ⟨q0, q1, q2, q3, q4, q5, q6, q7, q8, q9, q10, q11⟩ := hW
              go_simp
            simp only [Act.put, List.setIfInBounds_toArray, List.set_cons_zero, List.set_cons_succ]
            refine wpAnyH_take (i := 25) (oi := { dst := some 71, op := Op.extract (Operand.tmp 46) 0, type := 34, pos := "law.go:86", after := #[{ on := 24, ground := Ground.data }], guard := none }) (v := .agg #[.slice Ay n1 cy, .int .i64 (t1 : Int), .bool ov1, .bool li1, .bool h1]) rfl (by kernel_rfl) (by kernel_rfl) (by kernel_rfl) (fun _ _ _ h => h) (Or.inl ⟨by rfl, fun W hW => ?_⟩) hHeld ?_
            · obtain ⟨q0, q1, q2, q3, q4, q5, q6, q7, q8, q9, q10, q11⟩ := hW
              go_simp
            simp only [Act.put, List.setIfInBounds_toArray, List.set_cons_zero, List.set_cons_succ]
            refine wpAnyH_take (i := 26) (oi := { dst := some 72, op := Op.extract (Operand.tmp 46) 1, type := 41, pos := "law.go:86", after := #[{ on := 24, ground := Ground.data }, { on := 29, ground := Ground.gcOnly Departure.lateStores }], guard := none }) (v := .agg #[.slice By mk dy, .int .i64 (sg : Int), .bool bell]) rfl (by kernel_rfl) (by kernel_rfl) (by kernel_rfl) (fun _ _ _ h => h) (Or.inl ⟨by rfl, fun W hW => ?_⟩) hHeld ?_
            · obtain ⟨q0, q1, q2, q3, q4, q5, q6, q7, q8, q9, q10, q11⟩ := hW
              go_simp
            simp only [Act.put, List.setIfInBounds_toArray, List.set_cons_zero, List.set_cons_succ]
            have hne9 : V1.heap.size ≠ Wx6.heap.size := by first | assumption | (apply Ne.symm; assumption)
            have hne8 : ¬ V1.heap.size = Wx6.heap.size := hne9
            have hne7 : ¬ Wx6.heap.size = V1.heap.size := fun e => hne9 e.symm
            obtain ⟨j0, j1, j2, j3, j4, r0, r1, r2, r3, r4, jt⟩ := tk_facts hzx10_27
            have HM := keepd (midy (V := V1) hzx10_27 hzx10_28 hne9 hbx10 hvx6 hvx9 hxx10 hsx10 (l := l1) (n := n1) (A := Ay) (c := cy) (z := (t1 : Int)) (ov := ov1) (li := li1) (h := h1) (ks := ks) (B := By) (m := mk) (d := dy) (sg := (sg : Int)) (bell := bell))
            have hb5S : Below V1.heap.size V1 (set5 wx10 V1.heap.size (.slice Ay n1 cy) (.int .i64 (t1 : Int)) (.bool ov1) (.bool li1) (.bool h1)) := set5_below hbx10 hvx6
            have hyS : SR 41 (set5 wx10 V1.heap.size (.slice Ay n1 cy) (.int .i64 (t1 : Int)) (.bool ov1) (.bool li1) (.bool h1)) (Wx6.heap.size) [.slice none 0 0, .int .i64 0, .bool false] := set5_far hzx10_28 hne7
            refine wpAnyH_ready (rs := [29]) (by kernel_rfl) (by simp) ?_
            refine AllReadyH.cons (o := { dst := none, op := Op.store 34 (Operand.tmp 11) (Operand.tmp 71), type := 0, pos := "law.go:86", after := #[{ on := 27, ground := Ground.data }, { on := 25, ground := Ground.data }, { on := 23, ground := Ground.chain }, { on := 0, ground := Ground.phase }, { on := 1, ground := Ground.phase }, { on := 2, ground := Ground.phase }, { on := 3, ground := Ground.phase }, { on := 4, ground := Ground.phase }, { on := 5, ground := Ground.phase }, { on := 6, ground := Ground.phase }, { on := 7, ground := Ground.phase }, { on := 8, ground := Ground.phase }, { on := 9, ground := Ground.phase }, { on := 10, ground := Ground.phase }, { on := 11, ground := Ground.phase }, { on := 12, ground := Ground.phase }, { on := 13, ground := Ground.phase }, { on := 14, ground := Ground.phase }, { on := 15, ground := Ground.phase }, { on := 16, ground := Ground.phase }, { on := 17, ground := Ground.phase }, { on := 18, ground := Ground.phase }, { on := 19, ground := Ground.phase }, { on := 20, ground := Ground.phase }, { on := 21, ground := Ground.phase }, { on := 22, ground := Ground.phase }, { on := 23, ground := Ground.phase }, { on := 24, ground := Ground.phase }, { on := 25, ground := Ground.phase }, { on := 26, ground := Ground.textOnly Departure.lateStores }, { on := 27, ground := Ground.phase }, { on := 28, ground := Ground.phase }], guard := none }) rfl (fun K hK => ?_) AllReadyH.nil
            go_simp
            refine hK.out _ (set5 wx10 V1.heap.size (.slice Ay n1 cy) (.int .i64 (t1 : Int)) (.bool ov1) (.bool li1) (.bool h1)) (sDkS HDV1.out HPS.out.s5 HAS1.out hb5S) (fun hHeld2 => ?_)
            clear hK K hHeld
            have hHeld := hHeld2
            clear hHeld2
            try simp only [Act.put, List.setIfInBounds_toArray, List.set_cons_zero, List.set_cons_succ]
            clear j0 j1 j2 j3 j4 r0 r1 r2 r3 r4 jt
            obtain ⟨j0, j1, j2, r0, r1, r2, jt⟩ := ty_facts hyS
            refine wpAnyH_ready (rs := [30]) (by kernel_rfl) (by simp) ?_
            refine AllReadyH.cons (o := { dst := none, op := Op.store 41 (Operand.tmp 12) (Operand.tmp 72), type := 0, pos := "law.go:86", after := #[{ on := 28, ground := Ground.data }, { on := 26, ground := Ground.data }, { on := 29, ground := Ground.chain }, { on := 0, ground := Ground.phase }, { on := 1, ground := Ground.phase }, { on := 2, ground := Ground.phase }, { on := 3, ground := Ground.phase }, { on := 4, ground := Ground.phase }, { on := 5, ground := Ground.phase }, { on := 6, ground := Ground.phase }, { on := 7, ground := Ground.phase }, { on := 8, ground := Ground.phase }, { on := 9, ground := Ground.phase }, { on := 10, ground := Ground.phase }, { on := 11, ground := Ground.phase }, { on := 12, ground := Ground.phase }, { on := 13, ground := Ground.phase }, { on := 14, ground := Ground.phase }, { on := 15, ground := Ground.phase }, { on := 16, ground := Ground.phase }, { on := 17, ground := Ground.phase }, { on := 18, ground := Ground.phase }, { on := 19, ground := Ground.phase }, { on := 20, ground := Ground.phase }, { on := 21, ground := Ground.phase }, { on := 22, ground := Ground.phase }, { on := 23, ground := Ground.phase }, { on := 24, ground := Ground.phase }, { on := 25, ground := Ground.phase }, { on := 26, ground := Ground.phase }, { on := 27, ground := Ground.phase }, { on := 28, ground := Ground.phase }, { on := 29, ground := Ground.phase }], guard := none }) rfl (fun K hK => ?_) AllReadyH.nil
            go_simp
            refine hK.out _ (set3 (set5 wx10 V1.heap.size (.slice Ay n1 cy) (.int .i64 (t1 : Int)) (.bool ov1) (.bool li1) (.bool h1)) Wx6.heap.size (.slice By mk dy) (.int .i64 (sg : Int)) (.bool bell)) (sDkS HDV1.out HPS.out.s5 HAS1.out HM.out.2.2.2.2.1) (fun hHeld2 => ?_)
            clear hK K hHeld
            have hHeld := hHeld2
            clear hHeld2
            try simp only [Act.put, List.setIfInBounds_toArray, List.set_cons_zero, List.set_cons_succ]
            refine wpAnyH_done (by kernel_rfl) ?_ _
            go_wp2_with fail
            go_meet
            exact ⟨_, _, _, _, _, _, rfl, rfl, HM, hfr⟩
        · go_simp
          have hbx11 : Below V1.heap.size V1 ((V1.alloc (.cells #[.slice none 0 0, .int .i64 0, .bool false] 41)).drew) := bAlloc (Below.refl V1.heap.size V1).drew (.cells #[.slice none 0 0, .int .i64 0, .bool false] 41)
          have hzx11 : SR 41 ((V1.alloc (.cells #[.slice none 0 0, .int .i64 0, .bool false] 41)).drew) (V1.heap.size) [.slice none 0 0, .int .i64 0, .bool false] := SR.new 41 (V1) [.slice none 0 0, .int .i64 0, .bool false]
          have hvx11 : V1.heap.size ≤ V1.heap.size := by have h0 := Below.size (Below.refl V1.heap.size V1).drew; exact h0
          refine hK.out _ _ (sDkS HDV1.out HPS.out.s5 HAS1.out hbx11) (fun hHeld2 => ?_)
          clear hK K hHeld
          have hHeld := hHeld2
          clear hHeld2
          try simp only [Act.put, List.setIfInBounds_toArray, List.set_cons_zero, List.set_cons_succ]
          generalize hWx11 : (V1.alloc (.cells #[.slice none 0 0, .int .i64 0, .bool false] 41)).drew = Wx11 at *
          clear hWx11
          refine wpAnyH_ready (rs := [23, 27]) (by kernel_rfl) (by simp) ?_
          refine AllReadyH.cons (o := { dst := some 70, op := Op.call { callee := Callee.value (Operand.func 11), args := #[Operand.tmp 48, Operand.tmp 50, Operand.tmp 51, Operand.tmp 57, Operand.tmp 63, Operand.tmp 69], argTypes := #[25, 3, 34, 5, 4, 4] }, type := 42, pos := "law.go:86", after := #[{ on := 1, ground := Ground.data }, { on := 3, ground := Ground.data }, { on := 4, ground := Ground.data }, { on := 10, ground := Ground.data }, { on := 16, ground := Ground.data }, { on := 22, ground := Ground.data }], guard := none }) rfl (fun K hK => ?_) (AllReadyH.cons (o := { dst := some 11, op := Op.alloc 34, type := 0, pos := "law.go:86", after := #[], guard := none }) rfl (fun K hK => ?_) AllReadyH.nil)
          · go_simp
            with_reducible refine (CT.out Wx11 A1 c1 (HPS.out.r5.at_ hbx11)).mono ?_
            rintro e wx12 ⟨Ay, cy, By, dy, rfl, hxx12, hsx12, hcx12, hfr0⟩
            have hbx12 : Below V1.heap.size V1 wx12 := bCall hbx11 hcx12
            have hzx12_28 := SR.call hzx11 hcx12 (hzx11).lt
            have hfr : Fr.Frs V1 Ay := Frs.mono hfr0 (Below.size hbx11)
            go_wp2_with fail
            refine hK.out _ _ (sDkS HDV1.out HPS.out.s5 HAS1.out hbx12) (fun hHeld2 => ?_)
            clear hK K hHeld
            have hHeld := hHeld2
            clear hHeld2
            try simp only [Act.put, List.setIfInBounds_toArray, List.set_cons_zero, List.set_cons_succ]
            refine wpAnyH_take (i := 24) (oi := { dst := some 46, op := Op.move (Operand.tmp 70), type := 42, pos := "law.go:86", after := #[{ on := 23, ground := Ground.data }], guard := none }) (v := .tuple #[.agg #[.slice Ay n1 cy, .int .i64 (t1 : Int), .bool ov1, .bool li1, .bool h1], .agg #[.slice By mk dy, .int .i64 (sg : Int), .bool bell]]) rfl (by kernel_rfl) (by kernel_rfl) (by kernel_rfl) (fun _ _ _ h => h) (Or.inl ⟨by rfl, fun W hW => ?_⟩) hHeld ?_
            · obtain ⟨q0, q1, q2, q3, q4, q5, q6, q7, q8, q9, q10, q11⟩ := hW
              go_simp
            simp only [Act.put, List.setIfInBounds_toArray, List.set_cons_zero, List.set_cons_succ]
            refine wpAnyH_take (i := 25) (oi := { dst := some 71, op := Op.extract (Operand.tmp 46) 0, type := 34, pos := "law.go:86", after := #[{ on := 24, ground := Ground.data }], guard := none }) (v := .agg #[.slice Ay n1 cy, .int .i64 (t1 : Int), .bool ov1, .bool li1, .bool h1]) rfl (by kernel_rfl) (by kernel_rfl) (by kernel_rfl) (fun _ _ _ h => h) (Or.inl ⟨by rfl, fun W hW => ?_⟩) hHeld ?_
            · obtain ⟨q0, q1, q2, q3, q4, q5, q6, q7, q8, q9, q10, q11⟩ := hW
              go_simp
            simp only [Act.put, List.setIfInBounds_toArray, List.set_cons_zero, List.set_cons_succ]
            refine wpAnyH_take (i := 26) (oi := { dst := some 72, op := Op.extract (Operand.tmp 46) 1, type := 41, pos := "law.go:86", after := #[{ on := 24, ground := Ground.data }, { on := 29, ground := Ground.gcOnly Departure.lateStores }], guard := none }) (v := .agg #[.slice By mk dy, .int .i64 (sg : Int), .bool bell]) rfl (by kernel_rfl) (by kernel_rfl) (by kernel_rfl) (fun _ _ _ h => h) (Or.inl ⟨by rfl, fun W hW => ?_⟩) hHeld ?_
            · obtain ⟨q0, q1, q2, q3, q4, q5, q6, q7, q8, q9, q10, q11⟩ := hW
              go_simp
            simp only [Act.put, List.setIfInBounds_toArray, List.set_cons_zero, List.set_cons_succ]
            refine wpAnyH_ready (rs := [27]) (by kernel_rfl) (by simp) ?_
            refine AllReadyH.cons (o := { dst := some 11, op := Op.alloc 34, type := 0, pos := "law.go:86", after := #[], guard := none }) rfl (fun K hK => ?_) AllReadyH.nil
            go_simp
            have hbx13 : Below V1.heap.size V1 (wx12.alloc (.cells #[.slice none 0 0, .int .i64 0, .bool false, .bool false, .bool false] 34)) := bAlloc hbx12 (.cells #[.slice none 0 0, .int .i64 0, .bool false, .bool false, .bool false] 34)
            have hzx13 : SR 34 (wx12.alloc (.cells #[.slice none 0 0, .int .i64 0, .bool false, .bool false, .bool false] 34)) (wx12.heap.size) [.slice none 0 0, .int .i64 0, .bool false, .bool false, .bool false] := SR.new 34 (wx12) [.slice none 0 0, .int .i64 0, .bool false, .bool false, .bool false]
            have hvx13 : V1.heap.size ≤ wx12.heap.size := by have h0 := Below.size hbx12; exact h0
            have hzx13_28 := SR.alloc hzx12_28 (.cells #[.slice none 0 0, .int .i64 0, .bool false, .bool false, .bool false] 34)
            have hnx13_28 : V1.heap.size ≠ wx12.heap.size := by have h0 := SR.lt hzx12_28; exact Nat.ne_of_lt h0
            have hxx13 := (hxx12).at_ (bAlloc (Below.refl _ _) (.cells #[.slice none 0 0, .int .i64 0, .bool false, .bool false, .bool false] 34))
            have hsx13 := (hsx12).at_ (bAlloc (Below.refl _ _) (.cells #[.slice none 0 0, .int .i64 0, .bool false, .bool false, .bool false] 34))
            refine hK.out _ _ (sDkS HDV1.out HPS.out.s5 HAS1.out hbx13) (fun hHeld2 => ?_)
            clear hK K hHeld
            have hHeld := hHeld2
            clear hHeld2
            try simp only [Act.put, List.setIfInBounds_toArray, List.set_cons_zero, List.set_cons_succ]
            generalize hWx13 : wx12.alloc (.cells #[.slice none 0 0, .int .i64 0, .bool false, .bool false, .bool false] 34) = Wx13 at *
            clear hWx13
            have hne9 : wx12.heap.size ≠ V1.heap.size := by first | assumption | (apply Ne.symm; assumption)
            have hne8 : ¬ wx12.heap.size = V1.heap.size := hne9
            have hne7 : ¬ V1.heap.size = wx12.heap.size := fun e => hne9 e.symm
            obtain ⟨j0, j1, j2, j3, j4, r0, r1, r2, r3, r4, jt⟩ := tk_facts hzx13
            have HM := keepd (midy (V := V1) hzx13 hzx13_28 hne9 hbx13 hvx13 hvx11 hxx13 hsx13 (l := l1) (n := n1) (A := Ay) (c := cy) (z := (t1 : Int)) (ov := ov1) (li := li1) (h := h1) (ks := ks) (B := By) (m := mk) (d := dy) (sg := (sg : Int)) (bell := bell))
            have hb5S : Below V1.heap.size V1 (set5 Wx13 wx12.heap.size (.slice Ay n1 cy) (.int .i64 (t1 : Int)) (.bool ov1) (.bool li1) (.bool h1)) := set5_below hbx13 hvx13
            have hyS : SR 41 (set5 Wx13 wx12.heap.size (.slice Ay n1 cy) (.int .i64 (t1 : Int)) (.bool ov1) (.bool li1) (.bool h1)) (V1.heap.size) [.slice none 0 0, .int .i64 0, .bool false] := set5_far hzx13_28 hne7
            refine wpAnyH_ready (rs := [29]) (by kernel_rfl) (by simp) ?_
            refine AllReadyH.cons (o := { dst := none, op := Op.store 34 (Operand.tmp 11) (Operand.tmp 71), type := 0, pos := "law.go:86", after := #[{ on := 27, ground := Ground.data }, { on := 25, ground := Ground.data }, { on := 23, ground := Ground.chain }, { on := 0, ground := Ground.phase }, { on := 1, ground := Ground.phase }, { on := 2, ground := Ground.phase }, { on := 3, ground := Ground.phase }, { on := 4, ground := Ground.phase }, { on := 5, ground := Ground.phase }, { on := 6, ground := Ground.phase }, { on := 7, ground := Ground.phase }, { on := 8, ground := Ground.phase }, { on := 9, ground := Ground.phase }, { on := 10, ground := Ground.phase }, { on := 11, ground := Ground.phase }, { on := 12, ground := Ground.phase }, { on := 13, ground := Ground.phase }, { on := 14, ground := Ground.phase }, { on := 15, ground := Ground.phase }, { on := 16, ground := Ground.phase }, { on := 17, ground := Ground.phase }, { on := 18, ground := Ground.phase }, { on := 19, ground := Ground.phase }, { on := 20, ground := Ground.phase }, { on := 21, ground := Ground.phase }, { on := 22, ground := Ground.phase }, { on := 23, ground := Ground.phase }, { on := 24, ground := Ground.phase }, { on := 25, ground := Ground.phase }, { on := 26, ground := Ground.textOnly Departure.lateStores }, { on := 27, ground := Ground.phase }, { on := 28, ground := Ground.phase }], guard := none }) rfl (fun K hK => ?_) AllReadyH.nil
            go_simp
            refine hK.out _ (set5 Wx13 wx12.heap.size (.slice Ay n1 cy) (.int .i64 (t1 : Int)) (.bool ov1) (.bool li1) (.bool h1)) (sDkS HDV1.out HPS.out.s5 HAS1.out hb5S) (fun hHeld2 => ?_)
            clear hK K hHeld
            have hHeld := hHeld2
            clear hHeld2
            try simp only [Act.put, List.setIfInBounds_toArray, List.set_cons_zero, List.set_cons_succ]
            clear j0 j1 j2 j3 j4 r0 r1 r2 r3 r4 jt
            obtain ⟨j0, j1, j2, r0, r1, r2, jt⟩ := ty_facts hyS
            refine wpAnyH_ready (rs := [30]) (by kernel_rfl) (by simp) ?_
            refine AllReadyH.cons (o := { dst := none, op := Op.store 41 (Operand.tmp 12) (Operand.tmp 72), type := 0, pos := "law.go:86", after := #[{ on := 28, ground := Ground.data }, { on := 26, ground := Ground.data }, { on := 29, ground := Ground.chain }, { on := 0, ground := Ground.phase }, { on := 1, ground := Ground.phase }, { on := 2, ground := Ground.phase }, { on := 3, ground := Ground.phase }, { on := 4, ground := Ground.phase }, { on := 5, ground := Ground.phase }, { on := 6, ground := Ground.phase }, { on := 7, ground := Ground.phase }, { on := 8, ground := Ground.phase }, { on := 9, ground := Ground.phase }, { on := 10, ground := Ground.phase }, { on := 11, ground := Ground.phase }, { on := 12, ground := Ground.phase }, { on := 13, ground := Ground.phase }, { on := 14, ground := Ground.phase }, { on := 15, ground := Ground.phase }, { on := 16, ground := Ground.phase }, { on := 17, ground := Ground.phase }, { on := 18, ground := Ground.phase }, { on := 19, ground := Ground.phase }, { on := 20, ground := Ground.phase }, { on := 21, ground := Ground.phase }, { on := 22, ground := Ground.phase }, { on := 23, ground := Ground.phase }, { on := 24, ground := Ground.phase }, { on := 25, ground := Ground.phase }, { on := 26, ground := Ground.phase }, { on := 27, ground := Ground.phase }, { on := 28, ground := Ground.phase }, { on := 29, ground := Ground.phase }], guard := none }) rfl (fun K hK => ?_) AllReadyH.nil
            go_simp
            refine hK.out _ (set3 (set5 Wx13 wx12.heap.size (.slice Ay n1 cy) (.int .i64 (t1 : Int)) (.bool ov1) (.bool li1) (.bool h1)) V1.heap.size (.slice By mk dy) (.int .i64 (sg : Int)) (.bool bell)) (sDkS HDV1.out HPS.out.s5 HAS1.out HM.out.2.2.2.2.1) (fun hHeld2 => ?_)
            clear hK K hHeld
            have hHeld := hHeld2
            clear hHeld2
            try simp only [Act.put, List.setIfInBounds_toArray, List.set_cons_zero, List.set_cons_succ]
            refine wpAnyH_done (by kernel_rfl) ?_ _
            go_wp2_with fail
            go_meet
            exact ⟨_, _, _, _, _, _, rfl, rfl, HM, hfr⟩
          · go_simp
            have hbx14 : Below V1.heap.size V1 (Wx11.alloc (.cells #[.slice none 0 0, .int .i64 0, .bool false, .bool false, .bool false] 34)) := bAlloc hbx11 (.cells #[.slice none 0 0, .int .i64 0, .bool false, .bool false, .bool false] 34)
            have hzx14 : SR 34 (Wx11.alloc (.cells #[.slice none 0 0, .int .i64 0, .bool false, .bool false, .bool false] 34)) (Wx11.heap.size) [.slice none 0 0, .int .i64 0, .bool false, .bool false, .bool false] := SR.new 34 (Wx11) [.slice none 0 0, .int .i64 0, .bool false, .bool false, .bool false]
            have hvx14 : V1.heap.size ≤ Wx11.heap.size := by have h0 := Below.size hbx11; exact h0
            have hzx14_28 := SR.alloc hzx11 (.cells #[.slice none 0 0, .int .i64 0, .bool false, .bool false, .bool false] 34)
            have hnx14_28 : V1.heap.size ≠ Wx11.heap.size := by have h0 := SR.lt hzx11; exact Nat.ne_of_lt h0
            refine hK.out _ _ (sDkS HDV1.out HPS.out.s5 HAS1.out hbx14) (fun hHeld2 => ?_)
            clear hK K hHeld
            have hHeld := hHeld2
            clear hHeld2
            try simp only [Act.put, List.setIfInBounds_toArray, List.set_cons_zero, List.set_cons_succ]
            generalize hWx14 : Wx11.alloc (.cells #[.slice none 0 0, .int .i64 0, .bool false, .bool false, .bool false] 34) = Wx14 at *
            clear hWx14
            refine wpAnyH_ready (rs := [23]) (by kernel_rfl) (by simp) ?_
            refine AllReadyH.cons (o := { dst := some 70, op := Op.call { callee := Callee.value (Operand.func 11), args := #[Operand.tmp 48, Operand.tmp 50, Operand.tmp 51, Operand.tmp 57, Operand.tmp 63, Operand.tmp 69], argTypes := #[25, 3, 34, 5, 4, 4] }, type := 42, pos := "law.go:86", after := #[{ on := 1, ground := Ground.data }, { on := 3, ground := Ground.data }, { on := 4, ground := Ground.data }, { on := 10, ground := Ground.data }, { on := 16, ground := Ground.data }, { on := 22, ground := Ground.data }], guard := none }) rfl (fun K hK => ?_) AllReadyH.nil
            go_simp
            with_reducible refine (CT.out Wx14 A1 c1 (HPS.out.r5.at_ hbx14)).mono ?_
            rintro e wx15 ⟨Ay, cy, By, dy, rfl, hxx15, hsx15, hcx15, hfr0⟩
            have hbx15 : Below V1.heap.size V1 wx15 := bCall hbx14 hcx15
            have hzx15_28 := SR.call hzx14_28 hcx15 (hzx14_28).lt
            have hzx15_27 := SR.call hzx14 hcx15 (hzx14).lt
            have hfr : Fr.Frs V1 Ay := Frs.mono hfr0 (Below.size hbx14)
            go_wp2_with fail
            refine hK.out _ _ (sDkS HDV1.out HPS.out.s5 HAS1.out hbx15) (fun hHeld2 => ?_)
            clear hK K hHeld
            have hHeld := hHeld2
            clear hHeld2
            try simp only [Act.put, List.setIfInBounds_toArray, List.set_cons_zero, List.set_cons_succ]
            refine wpAnyH_take (i := 24) (oi := { dst := some 46, op := Op.move (Operand.tmp 70), type := 42, pos := "law.go:86", after := #[{ on := 23, ground := Ground.data }], guard := none }) (v := .tuple #[.agg #[.slice Ay n1 cy, .int .i64 (t1 : Int), .bool ov1, .bool li1, .bool h1], .agg #[.slice By mk dy, .int .i64 (sg : Int), .bool bell]]) rfl (by kernel_rfl) (by kernel_rfl) (by kernel_rfl) (fun _ _ _ h => h) (Or.inl ⟨by rfl, fun W hW => ?_⟩) hHeld ?_
            · obtain ⟨q0, q1, q2, q3, q4, q5, q6, q7, q8, q9, q10, q11⟩ := hW
              go_simp
            simp only [Act.put, List.setIfInBounds_toArray, List.set_cons_zero, List.set_cons_succ]
            refine wpAnyH_take (i := 25) (oi := { dst := some 71, op := Op.extract (Operand.tmp 46) 0, type := 34, pos := "law.go:86", after := #[{ on := 24, ground := Ground.data }], guard := none }) (v := .agg #[.slice Ay n1 cy, .int .i64 (t1 : Int), .bool ov1, .bool li1, .bool h1]) rfl (by kernel_rfl) (by kernel_rfl) (by kernel_rfl) (fun _ _ _ h => h) (Or.inl ⟨by rfl, fun W hW => ?_⟩) hHeld ?_
            · obtain ⟨q0, q1, q2, q3, q4, q5, q6, q7, q8, q9, q10, q11⟩ := hW
              go_simp
            simp only [Act.put, List.setIfInBounds_toArray, List.set_cons_zero, List.set_cons_succ]
            refine wpAnyH_take (i := 26) (oi := { dst := some 72, op := Op.extract (Operand.tmp 46) 1, type := 41, pos := "law.go:86", after := #[{ on := 24, ground := Ground.data }, { on := 29, ground := Ground.gcOnly Departure.lateStores }], guard := none }) (v := .agg #[.slice By mk dy, .int .i64 (sg : Int), .bool bell]) rfl (by kernel_rfl) (by kernel_rfl) (by kernel_rfl) (fun _ _ _ h => h) (Or.inl ⟨by rfl, fun W hW => ?_⟩) hHeld ?_
            · obtain ⟨q0, q1, q2, q3, q4, q5, q6, q7, q8, q9, q10, q11⟩ := hW
              go_simp
            simp only [Act.put, List.setIfInBounds_toArray, List.set_cons_zero, List.set_cons_succ]
            have hne9 : Wx11.heap.size ≠ V1.heap.size := by first | assumption | (apply Ne.symm; assumption)
            have hne8 : ¬ Wx11.heap.size = V1.heap.size := hne9
            have hne7 : ¬ V1.heap.size = Wx11.heap.size := fun e => hne9 e.symm
            obtain ⟨j0, j1, j2, j3, j4, r0, r1, r2, r3, r4, jt⟩ := tk_facts hzx15_27
            have HM := keepd (midy (V := V1) hzx15_27 hzx15_28 hne9 hbx15 hvx14 hvx11 hxx15 hsx15 (l := l1) (n := n1) (A := Ay) (c := cy) (z := (t1 : Int)) (ov := ov1) (li := li1) (h := h1) (ks := ks) (B := By) (m := mk) (d := dy) (sg := (sg : Int)) (bell := bell))
            have hb5S : Below V1.heap.size V1 (set5 wx15 Wx11.heap.size (.slice Ay n1 cy) (.int .i64 (t1 : Int)) (.bool ov1) (.bool li1) (.bool h1)) := set5_below hbx15 hvx14
            have hyS : SR 41 (set5 wx15 Wx11.heap.size (.slice Ay n1 cy) (.int .i64 (t1 : Int)) (.bool ov1) (.bool li1) (.bool h1)) (V1.heap.size) [.slice none 0 0, .int .i64 0, .bool false] := set5_far hzx15_28 hne7
            refine wpAnyH_ready (rs := [29]) (by kernel_rfl) (by simp) ?_
            refine AllReadyH.cons (o := { dst := none, op := Op.store 34 (Operand.tmp 11) (Operand.tmp 71), type := 0, pos := "law.go:86", after := #[{ on := 27, ground := Ground.data }, { on := 25, ground := Ground.data }, { on := 23, ground := Ground.chain }, { on := 0, ground := Ground.phase }, { on := 1, ground := Ground.phase }, { on := 2, ground := Ground.phase }, { on := 3, ground := Ground.phase }, { on := 4, ground := Ground.phase }, { on := 5, ground := Ground.phase }, { on := 6, ground := Ground.phase }, { on := 7, ground := Ground.phase }, { on := 8, ground := Ground.phase }, { on := 9, ground := Ground.phase }, { on := 10, ground := Ground.phase }, { on := 11, ground := Ground.phase }, { on := 12, ground := Ground.phase }, { on := 13, ground := Ground.phase }, { on := 14, ground := Ground.phase }, { on := 15, ground := Ground.phase }, { on := 16, ground := Ground.phase }, { on := 17, ground := Ground.phase }, { on := 18, ground := Ground.phase }, { on := 19, ground := Ground.phase }, { on := 20, ground := Ground.phase }, { on := 21, ground := Ground.phase }, { on := 22, ground := Ground.phase }, { on := 23, ground := Ground.phase }, { on := 24, ground := Ground.phase }, { on := 25, ground := Ground.phase }, { on := 26, ground := Ground.textOnly Departure.lateStores }, { on := 27, ground := Ground.phase }, { on := 28, ground := Ground.phase }], guard := none }) rfl (fun K hK => ?_) AllReadyH.nil
            go_simp
            refine hK.out _ (set5 wx15 Wx11.heap.size (.slice Ay n1 cy) (.int .i64 (t1 : Int)) (.bool ov1) (.bool li1) (.bool h1)) (sDkS HDV1.out HPS.out.s5 HAS1.out hb5S) (fun hHeld2 => ?_)
            clear hK K hHeld
            have hHeld := hHeld2
            clear hHeld2
            try simp only [Act.put, List.setIfInBounds_toArray, List.set_cons_zero, List.set_cons_succ]
            clear j0 j1 j2 j3 j4 r0 r1 r2 r3 r4 jt
            obtain ⟨j0, j1, j2, r0, r1, r2, jt⟩ := ty_facts hyS
            refine wpAnyH_ready (rs := [30]) (by kernel_rfl) (by simp) ?_
            refine AllReadyH.cons (o := { dst := none, op := Op.store 41 (Operand.tmp 12) (Operand.tmp 72), type := 0, pos := "law.go:86", after := #[{ on := 28, ground := Ground.data }, { on := 26, ground := Ground.data }, { on := 29, ground := Ground.chain }, { on := 0, ground := Ground.phase }, { on := 1, ground := Ground.phase }, { on := 2, ground := Ground.phase }, { on := 3, ground := Ground.phase }, { on := 4, ground := Ground.phase }, { on := 5, ground := Ground.phase }, { on := 6, ground := Ground.phase }, { on := 7, ground := Ground.phase }, { on := 8, ground := Ground.phase }, { on := 9, ground := Ground.phase }, { on := 10, ground := Ground.phase }, { on := 11, ground := Ground.phase }, { on := 12, ground := Ground.phase }, { on := 13, ground := Ground.phase }, { on := 14, ground := Ground.phase }, { on := 15, ground := Ground.phase }, { on := 16, ground := Ground.phase }, { on := 17, ground := Ground.phase }, { on := 18, ground := Ground.phase }, { on := 19, ground := Ground.phase }, { on := 20, ground := Ground.phase }, { on := 21, ground := Ground.phase }, { on := 22, ground := Ground.phase }, { on := 23, ground := Ground.phase }, { on := 24, ground := Ground.phase }, { on := 25, ground := Ground.phase }, { on := 26, ground := Ground.phase }, { on := 27, ground := Ground.phase }, { on := 28, ground := Ground.phase }, { on := 29, ground := Ground.phase }], guard := none }) rfl (fun K hK => ?_) AllReadyH.nil
            go_simp
            refine hK.out _ (set3 (set5 wx15 Wx11.heap.size (.slice Ay n1 cy) (.int .i64 (t1 : Int)) (.bool ov1) (.bool li1) (.bool h1)) V1.heap.size (.slice By mk dy) (.int .i64 (sg : Int)) (.bool bell)) (sDkS HDV1.out HPS.out.s5 HAS1.out HM.out.2.2.2.2.1) (fun hHeld2 => ?_)
            clear hK K hHeld
            have hHeld := hHeld2
            clear hHeld2
            try simp only [Act.put, List.setIfInBounds_toArray, List.set_cons_zero, List.set_cons_succ]
            refine wpAnyH_done (by kernel_rfl) ?_ _
            go_wp2_with fail
            go_meet
            exact ⟨_, _, _, _, _, _, rfl, rfl, HM, hfr⟩
      case rest =>
        obtain ⟨b13, b14, An, cn, Bk, dq, rfl, rfl, HM, hfn⟩ := hcut
        obtain ⟨V9, hV9⟩ : ∃ V9, V9 = wc := ⟨_, rfl⟩
        subst hV9
        obtain ⟨m1, m2, m3, m4, m5, m6, m7⟩ := HM.out
        have h5x := SR.call HPS.out.s5 m5 HPS.out.s5.lt
        have hv0 : V0.heap.size < V.heap.size := HV0.out
        obtain ⟨k0, k1, k2, k3, k4, f0, f1, f2', f3, f4, kt⟩ := tk_facts h5x
        obtain ⟨j0, j1, j2, j3, j4, _, _, _, _, _, jt⟩ := tk_facts m1
        go_upto_region 11 with fail
        generalize hV : (((((V9.setCell ⟨V0.heap.size, 0, none⟩ (.slice An n1 cn)).setCell ⟨V0.heap.size, 1, none⟩ (.int .i64 (t1 : Int))).setCell ⟨V0.heap.size, 2, none⟩ (.bool ov1)).setCell ⟨V0.heap.size, 3, none⟩ (.bool li1)).setCell ⟨V0.heap.size, 4, none⟩ (.bool h1)) = V11
        have e11 : set5 V9 V0.heap.size (.slice An n1 cn) (.int .i64 (t1 : Int)) (.bool ov1) (.bool li1) (.bool h1) = V11 := hV
        have hcd : CD V0 V V1 b14 An Bk l1 n1 cn (t1 : Int) ov1 li1 h1 mk dq (sg : Int) bell V11 ∧ Own V11 V.heap.size (.slice Bs ms ds) sn ∧ Rd V11 V11.heap.size Bk ks dq := by
          rw [← e11]
          have hle : V9.heap.size ≤ (set5 V9 V0.heap.size (.slice An n1 cn) (.int .i64 (t1 : Int)) (.bool ov1) (.bool li1) (.bool h1)).heap.size := by rw [set5_size]; exact Nat.le_refl _
          have hh : ∀ k, k ≠ V0.heap.size → (set5 V9 V0.heap.size (.slice An n1 cn) (.int .i64 (t1 : Int)) (.bool ov1) (.bool li1) (.bool h1)).heap[k]? = V9.heap[k]? := fun k hk => set5_heap _ _ _ _ _ _ _ hk
          refine ⟨?_, set5_own (Own.below (w := V1) HPS.out.ow m5) hv0, m4.setNo h5x tk_no hle hh⟩
          exact {
            fs := Nat.le_trans lV1 (Nat.le_trans m5.size hle)
            fh := fun k hk hne => ((hh k hne).trans (m5.block k (by omega))).trans (HPS.out.fh k hk hne)
            s5 := set5_sr h5x
            s14 := set5_far m2 (by omega)
            rn := m3.setNo h5x tk_no hle hh
            bl := set5_below (bCall HPS.out.bl m5) (Nat.le_refl _)
            fn := hfn
            p14 := m7
            v0 := hv0 }
        have HCD := keepd hcd.1
        have HOS := keepd hcd.2.1
        have HRK := keepd hcd.2.2
        have HVP2 := keepd lV1
        have hlt2 : ∀ g, (Value.slice Bs ms ds).ownBlock = some g → g < V1.heap.size := fun g hg => (HPS.out.ow.ge g hg).2
        have HLT := keepd hlt2
        clear hV e11 hcd hlt2 k0 k1 k2 k3 k4 f0 f1 f2' f3 f4 kt j0 j1 j2 j3 j4 jt m1 m2 m3 m4 m5 m6 m7 h5x hfn HM HPS HDV1 HAS1 CT
        refine wp_region_held_drew (S := fun W => rowOf W w.heap.size = (dk X room).toArray ∧ isRow W 27 w.heap.size 63 = true ∧ W.cell? ⟨w.heap.size, 62, none⟩ = some (.int .i64 room) ∧ W.cell? ⟨b14, 0, none⟩ = some (.slice Bk mk dq)) (by kernel_rfl) (sSig HDV.out (CD.drew HCD.out) (by have h0 := HDV0.out; omega)) (fun hHeld => ?_)
        refine wpAnyH_take (i := 0) (oi := { dst := some 75, op := Op.fieldAddr 27 (Operand.tmp 3) 0, type := 0, pos := "law.go:88", after := #[], guard := none }) (v := .pointer (some ⟨w.heap.size, 0, none⟩)) rfl (by kernel_rfl) (by kernel_rfl) (by kernel_rfl) (fun _ _ _ h => h) (Or.inl ⟨by rfl, fun W hW => ?_⟩) hHeld ?_
        · obtain ⟨q0, q1, q2, q3⟩ := hW
          go_simp
        simp only [Act.put, List.setIfInBounds_toArray, List.set_cons_zero, List.set_cons_succ]
        refine wpAnyH_take (i := 1) (oi := { dst := some 76, op := Op.load 25 (Operand.tmp 75), type := 25, pos := "law.go:88", after := #[{ on := 0, ground := Ground.data }], guard := none }) (v := tv X) rfl (by kernel_rfl) (by kernel_rfl) (by kernel_rfl) (fun _ _ _ h => h) (Or.inl ⟨by rfl, fun W hW => ?_⟩) hHeld ?_
        · obtain ⟨q0, q1, q2, q3⟩ := hW
          go_simp
        simp only [Act.put, List.setIfInBounds_toArray, List.set_cons_zero, List.set_cons_succ]
        refine wpAnyH_take (i := 2) (oi := { dst := some 77, op := Op.fieldAddr 27 (Operand.tmp 3) 1, type := 0, pos := "law.go:88", after := #[], guard := none }) (v := .pointer (some ⟨w.heap.size, 62, none⟩)) rfl (by kernel_rfl) (by kernel_rfl) (by kernel_rfl) (fun _ _ _ h => h) (Or.inl ⟨by rfl, fun W hW => ?_⟩) hHeld ?_
        · obtain ⟨q0, q1, q2, q3⟩ := hW
          go_simp
        simp only [Act.put, List.setIfInBounds_toArray, List.set_cons_zero, List.set_cons_succ]
        refine wpAnyH_take (i := 3) (oi := { dst := some 78, op := Op.load 3 (Operand.tmp 77), type := 3, pos := "law.go:88", after := #[{ on := 2, ground := Ground.data }], guard := none }) (v := .int .i64 room) rfl (by kernel_rfl) (by kernel_rfl) (by kernel_rfl) (fun _ _ _ h => h) (Or.inl ⟨by rfl, fun W hW => ?_⟩) hHeld ?_
        · obtain ⟨q0, q1, q2, q3⟩ := hW
          go_simp
        simp only [Act.put, List.setIfInBounds_toArray, List.set_cons_zero, List.set_cons_succ]
        refine wpAnyH_take (i := 5) (oi := { dst := some 80, op := Op.move (Operand.tmp 10), type := 28, pos := "law.go:88", after := #[], guard := none }) (v := .slice Bs ms ds) rfl (by kernel_rfl) (by kernel_rfl) (by kernel_rfl) (fun _ _ _ h => h) (Or.inl ⟨by rfl, fun W hW => ?_⟩) hHeld ?_
        · obtain ⟨q0, q1, q2, q3⟩ := hW
          go_simp
        simp only [Act.put, List.setIfInBounds_toArray, List.set_cons_zero, List.set_cons_succ]
        refine wpAnyH_take (i := 6) (oi := { dst := some 81, op := Op.fieldAddr 41 (Operand.tmp 12) 0, type := 0, pos := "law.go:88", after := #[], guard := none }) (v := .pointer (some ⟨b14, 0, none⟩)) rfl (by kernel_rfl) (by kernel_rfl) (by kernel_rfl) (fun _ _ _ h => h) (Or.inl ⟨by rfl, fun W hW => ?_⟩) hHeld ?_
        · obtain ⟨q0, q1, q2, q3⟩ := hW
          go_simp
        simp only [Act.put, List.setIfInBounds_toArray, List.set_cons_zero, List.set_cons_succ]
        refine wpAnyH_take (i := 7) (oi := { dst := some 82, op := Op.load 28 (Operand.tmp 81), type := 28, pos := "law.go:88", after := #[{ on := 6, ground := Ground.data }], guard := none }) (v := .slice Bk mk dq) rfl (by kernel_rfl) (by kernel_rfl) (by kernel_rfl) (fun _ _ _ h => h) (Or.inl ⟨by rfl, fun W hW => ?_⟩) hHeld ?_
        · obtain ⟨q0, q1, q2, q3⟩ := hW
          go_simp
        simp only [Act.put, List.setIfInBounds_toArray, List.set_cons_zero, List.set_cons_succ]
        refine wpAnyH_ready (rs := [4, 8]) (by kernel_rfl) (by simp) ?_
        refine AllReadyH.cons (o := { dst := some 79, op := Op.load 32 (Operand.tmp 8), type := 32, pos := "law.go:88", after := #[], guard := none }) rfl (fun K hK => ?_) (AllReadyH.cons (o := { dst := some 83, op := Op.call { callee := Callee.builtin Builtin.append, args := #[Operand.tmp 80, Operand.tmp 82], argTypes := #[28, 28] }, type := 28, pos := "law.go:88", after := #[{ on := 5, ground := Ground.data }, { on := 7, ground := Ground.data }], guard := none }) rfl (fun K hK => ?_) AllReadyH.nil)
        · obtain ⟨y0, y1, y2, y3, _, _, _, _, y8⟩ := st_facts (((CD.fh (CD.drew HCD.out)) _ H8V.out.lt (by omega)).trans H8V.out : SR 32 (V11.drew) (V0.heap.size + 1) [.slice A8 nf c8, .int .i64 (tf : Int), .bool ovf, .bool lif])
          go_simp
          refine hK.out _ _ (sSig HDV.out (CD.drew HCD.out) (by have h0 := HDV0.out; omega)) (fun hHeld2 => ?_)
          clear hK K hHeld
          have hHeld := hHeld2
          clear hHeld2
          try simp only [Act.put, List.setIfInBounds_toArray, List.set_cons_zero, List.set_cons_succ]
          clear y0 y1 y2 y3 y8
          refine wpAnyH_ready (rs := [8]) (by kernel_rfl) (by simp) ?_
          refine AllReadyH.cons (o := { dst := some 83, op := Op.call { callee := Callee.builtin Builtin.append, args := #[Operand.tmp 80, Operand.tmp 82], argTypes := #[28, 28] }, type := 28, pos := "law.go:88", after := #[{ on := 5, ground := Ground.data }, { on := 7, ground := Ground.data }], guard := none }) rfl (fun K hK => ?_) AllReadyH.nil
          refine step_app _ rfl (.tmp 80) (.tmp 82) rfl V.heap.size (.slice Bs ms ds) sn rfl HOS.out _ Bk mk dq ks rfl HMK.out.symm HRK.out ?_ (CD.fs (CD.drew HCD.out)) ?_
          · exact Nat.le_trans HLK.out (by omega)
          intro vx2 wx2 hox2 hgx2 hatx2
          have hbx2 := CD.grow (CD.drew HCD.out) HOS.out HLT.out hgx2
          obtain ⟨Dx2, dx2, hvx2e, hrx2⟩ := hox2.rd
          rw [show (sn ++ ks).length = kk from HKK.out] at hvx2e
          subst hvx2e
          clear hox2 hgx2 hatx2
          refine hK.out _ _ (sSig HDV.out hbx2 (by have h0 := HDV0.out; omega)) (fun hHeld2 => ?_)
          clear hK K hHeld
          have hHeld := hHeld2
          clear hHeld2
          try simp only [Act.put, List.setIfInBounds_toArray, List.set_cons_zero, List.set_cons_succ]
          refine wpAnyH_ready (rs := [9]) (by kernel_rfl) (by simp) ?_
          refine AllReadyH.cons (o := { dst := some 84, op := Op.call { callee := Callee.value (Operand.func 21), args := #[Operand.tmp 76, Operand.tmp 78, Operand.tmp 79, Operand.tmp 83], argTypes := #[25, 3, 32, 28] }, type := 58, pos := "law.go:88", after := #[{ on := 1, ground := Ground.data }, { on := 3, ground := Ground.data }, { on := 4, ground := Ground.data }, { on := 8, ground := Ground.data }, { on := 8, ground := Ground.chain }], guard := none }) rfl (fun K hK => ?_) AllReadyH.nil
          go_simp
          with_reducible refine (CPL.out wx2 Dx2 dx2 (r7_sig H5V.out HR8.out hbx2) hrx2).mono ?_
          rintro e wx3 ⟨Af, cf, Bb, db, Lb, rfl, hlx3, hmx3, hrx3, hex3, hcx3, hfx3, _, _⟩
          have hbx3 := CD.call hbx2 hcx3
          have hsx3 := hbx2.fs
          have hfbx3 : ∀ g, (Value.slice Bb me db).ownBlock = some g → V.heap.size ≤ g := fun g hg => Nat.le_trans hsx3 (hfx3 g hg)
          go_wp2_with fail
          refine hK.out _ _ (sSig HDV.out hbx3 (by have h0 := HDV0.out; omega)) (fun hHeld2 => ?_)
          clear hK K hHeld
          have hHeld := hHeld2
          clear hHeld2
          try simp only [Act.put, List.setIfInBounds_toArray, List.set_cons_zero, List.set_cons_succ]
          refine wpAnyH_take (i := 10) (oi := { dst := some 74, op := Op.move (Operand.tmp 84), type := 58, pos := "law.go:88", after := #[{ on := 9, ground := Ground.data }], guard := none }) (v := .tuple #[.agg #[.slice Af nf2 cf, .int .i64 (tf2 : Int), .bool ovf2, .bool lif2], .slice Bb me db, .int .i64 (b2 : Int)]) rfl (by kernel_rfl) (by kernel_rfl) (by kernel_rfl) (fun _ _ _ h => h) (Or.inl ⟨by rfl, fun W hW => ?_⟩) hHeld ?_
          · obtain ⟨q0, q1, q2, q3⟩ := hW
            go_simp
          simp only [Act.put, List.setIfInBounds_toArray, List.set_cons_zero, List.set_cons_succ]
          refine wpAnyH_take (i := 11) (oi := { dst := some 85, op := Op.extract (Operand.tmp 74) 0, type := 32, pos := "law.go:88", after := #[{ on := 10, ground := Ground.data }], guard := none }) (v := .agg #[.slice Af nf2 cf, .int .i64 (tf2 : Int), .bool ovf2, .bool lif2]) rfl (by kernel_rfl) (by kernel_rfl) (by kernel_rfl) (fun _ _ _ h => h) (Or.inl ⟨by rfl, fun W hW => ?_⟩) hHeld ?_
          · obtain ⟨q0, q1, q2, q3⟩ := hW
            go_simp
          simp only [Act.put, List.setIfInBounds_toArray, List.set_cons_zero, List.set_cons_succ]
          refine wpAnyH_take (i := 12) (oi := { dst := some 86, op := Op.extract (Operand.tmp 74) 1, type := 53, pos := "law.go:88", after := #[{ on := 10, ground := Ground.data }, { on := 14, ground := Ground.gcOnly Departure.lateStores }], guard := none }) (v := .slice Bb me db) rfl (by kernel_rfl) (by kernel_rfl) (by kernel_rfl) (fun _ _ _ h => h) (Or.inl ⟨by rfl, fun W hW => ?_⟩) hHeld ?_
          · obtain ⟨q0, q1, q2, q3⟩ := hW
            go_simp
          simp only [Act.put, List.setIfInBounds_toArray, List.set_cons_zero, List.set_cons_succ]
          refine wpAnyH_take (i := 13) (oi := { dst := some 87, op := Op.extract (Operand.tmp 74) 2, type := 3, pos := "law.go:88", after := #[{ on := 10, ground := Ground.data }, { on := 14, ground := Ground.gcOnly Departure.lateStores }], guard := none }) (v := .int .i64 (b2 : Int)) rfl (by kernel_rfl) (by kernel_rfl) (by kernel_rfl) (fun _ _ _ h => h) (Or.inl ⟨by rfl, fun W hW => ?_⟩) hHeld ?_
          · obtain ⟨q0, q1, q2, q3⟩ := hW
            go_simp
          simp only [Act.put, List.setIfInBounds_toArray, List.set_cons_zero, List.set_cons_succ]
          have k8 : SR 32 wx3 (V0.heap.size + 1) [.slice A8 nf c8, .int .i64 (tf : Int), .bool ovf, .bool lif] := ((CD.fh hbx3) _ H8V.out.lt (by omega)).trans H8V.out
          obtain ⟨y0, y1, y2, y3, y4, y5, y6, y7, y8⟩ := st_facts k8
          obtain ⟨hz1, HN1⟩ := sig_end hbx3 HVP2.out k8 H8V.out.lt HDV.out HDV0.out hrx3 (zf2 := (tf2 : Int)) (ovf2 := ovf2) (lif2 := lif2) (nf2 := nf2)
          have HN := keepd HN1
          clear HN1 k8
          refine wpAnyH_ready (rs := [14]) (by kernel_rfl) (by simp) ?_
          refine AllReadyH.cons (o := { dst := none, op := Op.store 32 (Operand.tmp 8) (Operand.tmp 85), type := 0, pos := "law.go:88", after := #[{ on := 11, ground := Ground.data }, { on := 9, ground := Ground.chain }, { on := 0, ground := Ground.phase }, { on := 1, ground := Ground.phase }, { on := 2, ground := Ground.phase }, { on := 3, ground := Ground.phase }, { on := 4, ground := Ground.phase }, { on := 5, ground := Ground.phase }, { on := 6, ground := Ground.phase }, { on := 7, ground := Ground.phase }, { on := 8, ground := Ground.phase }, { on := 9, ground := Ground.phase }, { on := 10, ground := Ground.phase }, { on := 11, ground := Ground.phase }, { on := 12, ground := Ground.textOnly Departure.lateStores }, { on := 13, ground := Ground.textOnly Departure.lateStores }], guard := none }) rfl (fun K hK => ?_) AllReadyH.nil
          go_simp
          refine hK.out _ (set4 wx3 (V0.heap.size + 1) (.slice Af nf2 cf) (.int .i64 (tf2 : Int)) (.bool ovf2) (.bool lif2)) hz1 (fun hHeld2 => ?_)
          clear hK K hHeld
          have hHeld := hHeld2
          clear hHeld2 y0 y1 y2 y3 y4 y5 y6 y7 y8
          try simp only [Act.put, List.setIfInBounds_toArray, List.set_cons_zero, List.set_cons_succ]
          refine wpAnyH_done (by kernel_rfl) ?_ _
          clear hHeld hz1
          generalize hWz : (set4 wx3 (V0.heap.size + 1) (.slice Af nf2 cf) (.int .i64 (tf2 : Int)) (.bool ovf2) (.bool lif2)) = Vz at *
          clear hWz
          have i3 : (i : Int) + 1 ≤ (nn : Int) := by omega
          go_wp2_with fail
          go_roundw
          case rel => exact ⟨i + 1, l1, lf2, n1, t1, nf2, tf2, ov1, li1, h1, ovf2, lif2, An, Af, cn, cf, by omega, by omega, by go_num, HIN, HN⟩
          case measure => simp [intOf]; omega
        · refine step_app _ rfl (.tmp 80) (.tmp 82) rfl V.heap.size (.slice Bs ms ds) sn rfl HOS.out _ Bk mk dq ks rfl HMK.out.symm HRK.out ?_ (CD.fs (CD.drew HCD.out)) ?_
          · exact Nat.le_trans HLK.out (by omega)
          intro vx4 wx4 hox4 hgx4 hatx4
          have hbx4 := CD.grow (CD.drew HCD.out) HOS.out HLT.out hgx4
          obtain ⟨Dx4, dx4, hvx4e, hrx4⟩ := hox4.rd
          rw [show (sn ++ ks).length = kk from HKK.out] at hvx4e
          subst hvx4e
          clear hox4 hgx4 hatx4
          refine hK.out _ _ (sSig HDV.out hbx4 (by have h0 := HDV0.out; omega)) (fun hHeld2 => ?_)
          clear hK K hHeld
          have hHeld := hHeld2
          clear hHeld2
          try simp only [Act.put, List.setIfInBounds_toArray, List.set_cons_zero, List.set_cons_succ]
          refine wpAnyH_ready (rs := [4]) (by kernel_rfl) (by simp) ?_
          refine AllReadyH.cons (o := { dst := some 79, op := Op.load 32 (Operand.tmp 8), type := 32, pos := "law.go:88", after := #[], guard := none }) rfl (fun K hK => ?_) AllReadyH.nil
          obtain ⟨y0, y1, y2, y3, _, _, _, _, y8⟩ := st_facts (((CD.fh hbx4) _ H8V.out.lt (by omega)).trans H8V.out : SR 32 (wx4) (V0.heap.size + 1) [.slice A8 nf c8, .int .i64 (tf : Int), .bool ovf, .bool lif])
          go_simp
          refine hK.out _ _ (sSig HDV.out hbx4 (by have h0 := HDV0.out; omega)) (fun hHeld2 => ?_)
          clear hK K hHeld
          have hHeld := hHeld2
          clear hHeld2
          try simp only [Act.put, List.setIfInBounds_toArray, List.set_cons_zero, List.set_cons_succ]
          clear y0 y1 y2 y3 y8
          refine wpAnyH_ready (rs := [9]) (by kernel_rfl) (by simp) ?_
          refine AllReadyH.cons (o := { dst := some 84, op := Op.call { callee := Callee.value (Operand.func 21), args := #[Operand.tmp 76, Operand.tmp 78, Operand.tmp 79, Operand.tmp 83], argTypes := #[25, 3, 32, 28] }, type := 58, pos := "law.go:88", after := #[{ on := 1, ground := Ground.data }, { on := 3, ground := Ground.data }, { on := 4, ground := Ground.data }, { on := 8, ground := Ground.data }, { on := 8, ground := Ground.chain }], guard := none }) rfl (fun K hK => ?_) AllReadyH.nil
          go_simp
          with_reducible refine (CPL.out wx4 Dx4 dx4 (r7_sig H5V.out HR8.out hbx4) hrx4).mono ?_
          rintro e wx6 ⟨Af, cf, Bb, db, Lb, rfl, hlx6, hmx6, hrx6, hex6, hcx6, hfx6, _, _⟩
          have hbx6 := CD.call hbx4 hcx6
          have hsx6 := hbx4.fs
          have hfbx6 : ∀ g, (Value.slice Bb me db).ownBlock = some g → V.heap.size ≤ g := fun g hg => Nat.le_trans hsx6 (hfx6 g hg)
          go_wp2_with fail
          refine hK.out _ _ (sSig HDV.out hbx6 (by have h0 := HDV0.out; omega)) (fun hHeld2 => ?_)
          clear hK K hHeld
          have hHeld := hHeld2
          clear hHeld2
          try simp only [Act.put, List.setIfInBounds_toArray, List.set_cons_zero, List.set_cons_succ]
          refine wpAnyH_take (i := 10) (oi := { dst := some 74, op := Op.move (Operand.tmp 84), type := 58, pos := "law.go:88", after := #[{ on := 9, ground := Ground.data }], guard := none }) (v := .tuple #[.agg #[.slice Af nf2 cf, .int .i64 (tf2 : Int), .bool ovf2, .bool lif2], .slice Bb me db, .int .i64 (b2 : Int)]) rfl (by kernel_rfl) (by kernel_rfl) (by kernel_rfl) (fun _ _ _ h => h) (Or.inl ⟨by rfl, fun W hW => ?_⟩) hHeld ?_
          · obtain ⟨q0, q1, q2, q3⟩ := hW
            go_simp
          simp only [Act.put, List.setIfInBounds_toArray, List.set_cons_zero, List.set_cons_succ]
          refine wpAnyH_take (i := 11) (oi := { dst := some 85, op := Op.extract (Operand.tmp 74) 0, type := 32, pos := "law.go:88", after := #[{ on := 10, ground := Ground.data }], guard := none }) (v := .agg #[.slice Af nf2 cf, .int .i64 (tf2 : Int), .bool ovf2, .bool lif2]) rfl (by kernel_rfl) (by kernel_rfl) (by kernel_rfl) (fun _ _ _ h => h) (Or.inl ⟨by rfl, fun W hW => ?_⟩) hHeld ?_
          · obtain ⟨q0, q1, q2, q3⟩ := hW
            go_simp
          simp only [Act.put, List.setIfInBounds_toArray, List.set_cons_zero, List.set_cons_succ]
          refine wpAnyH_take (i := 12) (oi := { dst := some 86, op := Op.extract (Operand.tmp 74) 1, type := 53, pos := "law.go:88", after := #[{ on := 10, ground := Ground.data }, { on := 14, ground := Ground.gcOnly Departure.lateStores }], guard := none }) (v := .slice Bb me db) rfl (by kernel_rfl) (by kernel_rfl) (by kernel_rfl) (fun _ _ _ h => h) (Or.inl ⟨by rfl, fun W hW => ?_⟩) hHeld ?_
          · obtain ⟨q0, q1, q2, q3⟩ := hW
            go_simp
          simp only [Act.put, List.setIfInBounds_toArray, List.set_cons_zero, List.set_cons_succ]
          refine wpAnyH_take (i := 13) (oi := { dst := some 87, op := Op.extract (Operand.tmp 74) 2, type := 3, pos := "law.go:88", after := #[{ on := 10, ground := Ground.data }, { on := 14, ground := Ground.gcOnly Departure.lateStores }], guard := none }) (v := .int .i64 (b2 : Int)) rfl (by kernel_rfl) (by kernel_rfl) (by kernel_rfl) (fun _ _ _ h => h) (Or.inl ⟨by rfl, fun W hW => ?_⟩) hHeld ?_
          · obtain ⟨q0, q1, q2, q3⟩ := hW
            go_simp
          simp only [Act.put, List.setIfInBounds_toArray, List.set_cons_zero, List.set_cons_succ]
          have k8 : SR 32 wx6 (V0.heap.size + 1) [.slice A8 nf c8, .int .i64 (tf : Int), .bool ovf, .bool lif] := ((CD.fh hbx6) _ H8V.out.lt (by omega)).trans H8V.out
          obtain ⟨y0, y1, y2, y3, y4, y5, y6, y7, y8⟩ := st_facts k8
          obtain ⟨hz1, HN1⟩ := sig_end hbx6 HVP2.out k8 H8V.out.lt HDV.out HDV0.out hrx6 (zf2 := (tf2 : Int)) (ovf2 := ovf2) (lif2 := lif2) (nf2 := nf2)
          have HN := keepd HN1
          clear HN1 k8
          refine wpAnyH_ready (rs := [14]) (by kernel_rfl) (by simp) ?_
          refine AllReadyH.cons (o := { dst := none, op := Op.store 32 (Operand.tmp 8) (Operand.tmp 85), type := 0, pos := "law.go:88", after := #[{ on := 11, ground := Ground.data }, { on := 9, ground := Ground.chain }, { on := 0, ground := Ground.phase }, { on := 1, ground := Ground.phase }, { on := 2, ground := Ground.phase }, { on := 3, ground := Ground.phase }, { on := 4, ground := Ground.phase }, { on := 5, ground := Ground.phase }, { on := 6, ground := Ground.phase }, { on := 7, ground := Ground.phase }, { on := 8, ground := Ground.phase }, { on := 9, ground := Ground.phase }, { on := 10, ground := Ground.phase }, { on := 11, ground := Ground.phase }, { on := 12, ground := Ground.textOnly Departure.lateStores }, { on := 13, ground := Ground.textOnly Departure.lateStores }], guard := none }) rfl (fun K hK => ?_) AllReadyH.nil
          go_simp
          refine hK.out _ (set4 wx6 (V0.heap.size + 1) (.slice Af nf2 cf) (.int .i64 (tf2 : Int)) (.bool ovf2) (.bool lif2)) hz1 (fun hHeld2 => ?_)
          clear hK K hHeld
          have hHeld := hHeld2
          clear hHeld2 y0 y1 y2 y3 y4 y5 y6 y7 y8
          try simp only [Act.put, List.setIfInBounds_toArray, List.set_cons_zero, List.set_cons_succ]
          refine wpAnyH_done (by kernel_rfl) ?_ _
          clear hHeld hz1
          generalize hWz : (set4 wx6 (V0.heap.size + 1) (.slice Af nf2 cf) (.int .i64 (tf2 : Int)) (.bool ovf2) (.bool lif2)) = Vz at *
          clear hWz
          have i3 : (i : Int) + 1 ≤ (nn : Int) := by omega
          go_wp2_with fail
          go_roundw
          case rel => exact ⟨i + 1, l1, lf2, n1, t1, nf2, tf2, ov1, li1, h1, ovf2, lif2, An, Af, cn, cf, by omega, by omega, by go_num, HIN, HN⟩
          case measure => simp [intOf]; omega

end Go.Proofs.YtlfmbfecajhffaaDoor
