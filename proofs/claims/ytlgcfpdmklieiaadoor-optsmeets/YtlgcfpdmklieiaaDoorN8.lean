/-
  OptsMeets: rounds of the second loop.
-/
import Derived.Test.YtlgcfpdmklieiaaDoorM10
import Derived.Deep.WholeRow
namespace Go.Proofs.YtlgcfpdmklieiaaDoor
open Go.RowKit

attribute [local go_sem ↓] ex_ld25b ex_st25b ex_ld25 ex_st25
attribute [local go_sem] rowOf_dr isRow_dr ptrO_at ptrC_at ptrB_at okPtr_at okPtr2_0 okPtr2_1 aggC_at agg16 get2_0 get2_1 put2_0 put2_1 isRow_new World.setRow_alloc_new

set_option maxRecDepth 100000 in
set_option maxHeartbeats 4000000 in
theorem dr0 (bO bT n c asked said : Nat) (ma mb mc md : Four Bool) (AL : Option Addr) (A B : O) (v0 v1 : Value) (m : Nat) (v q : Int) (s t : List (Int × Int)) (w wr : World) (hL0 : LaidA w) (hJ : MJ w (pairC ma mb mc md AL n c) bO bT A B v0 v1 ((v, q) :: s) t wr) (hM : Meets A B ((v, q) :: s) t said asked) (hak : asked ≤ 60) (hst : s.length + 1 + t.length + m ≤ said)
    (X : O) (L : List (Int × Int)) (e : Int) (hz : gotF A v q = (X, L, e))
    (K KX : Act → World → Prop) (Post : Ending → World → Prop) (hK : ∀ a' w', MetD w (pairC ma mb mc md AL n c) (m + 1) a' w' → K a' w')
    (u0 u2 u7 u8 u9 u10 u11 u13 u14 u15 u16 u17 u18 u19 u20 u21 u22 u23 u24 u25 u26 u27 u28 u29 u30 u31 u32 u33 u34 u35 u36 u37 u38 u39 u40 u41 u42 u43 u44 u45 u46 u47 u48 u49 u50 u51 u52 u53 u54 u55 u56 u57 u58 u59 u60 u61 u62 u63 u64 u65 u66 u67 u68 u69 u70 u71 u72 u73 u74 u75 u76 u77 u78 u79 u80 u81 u82 u83 u84 u85 u86 u87 u88 u89 u90 u91 u92 u93 u94 u95 u96 u97 u98 u99 u100 u101 u102 u103 u104 u105 u106 u107 u108 u109 u110 u111 u112 u113 u114 u115 u116 u117 u118 u119 u120 u121 u122 u123 u124 u125 u126 u127 u128 u129 u130 u131 u132 u133 u134 u135 u136 u137 u138 u139 u140 u141 u142 u143 u144 u145 u146 u147 u148 u149 u150 u151 u152 u153 u154 u155 u156 u157 u158 u159 u160 u161 u162 u163 u164 u165 u166 u167 u168 u169 u170 u171 u172 u173 u174 u175 u176 u177 u178 u179 u180 u181 u182 u183 u184 u185 u186 u187 u188 u189 u190 u191 u192 u193 u194 u195 u196 u197 u198 u199 u200 u201 u202 u203 u204 u205 u206 u207 u208 u209 u210 u211 u212 u213 u214 u215 u216 u217 u218 u219 u220 u221 u222 u223 u224 u225 u226 u227 u228 u229 u230 u231 u232 u233 u234 u235 u236 u237 u238 u239 u240 u241 u242 u243 u244 u245 u246 u247 u248 u249 u250 u251 u252 u253 u254 u255 u256 u257 u258 u259 : Value) :
    Code.wp Tryd.prog metBody2 (Exit.then K (Exit.inBlock 2 (Exit.then KX (bodyPost Tryd.prog Tryd.f5 Post)))) ⟨#[u0, .pointer (some ⟨w.heap.size, 0, none⟩), u2, .pointer (some ⟨bO, 0, none⟩), .pointer (some ⟨bT, 0, none⟩), .int .i64 asked, .int .i64 said, u7, u8, u9, u10, u11, .int .i64 m, u13, u14, u15, u16, u17, u18, u19, u20, u21, u22, u23, u24, u25, u26, u27, u28, u29, u30, u31, u32, u33, u34, u35, u36, u37, u38, u39, u40, u41, u42, u43, u44, u45, u46, u47, u48, u49, u50, u51, u52, u53, u54, u55, u56, u57, u58, u59, u60, u61, u62, u63, u64, u65, u66, u67, u68, u69, u70, u71, u72, u73, u74, u75, u76, u77, u78, u79, u80, u81, u82, u83, u84, u85, u86, u87, u88, u89, u90, u91, u92, u93, u94, u95, u96, u97, u98, u99, u100, u101, u102, u103, u104, u105, u106, u107, u108, u109, u110, u111, u112, u113, u114, u115, u116, u117, u118, u119, u120, u121, u122, u123, u124, u125, u126, u127, u128, u129, u130, u131, u132, u133, u134, u135, u136, u137, u138, u139, u140, u141, u142, u143, u144, u145, u146, u147, u148, u149, u150, u151, u152, u153, u154, u155, u156, u157, u158, u159, u160, u161, u162, u163, u164, u165, u166, u167, u168, u169, u170, u171, u172, u173, u174, u175, u176, u177, u178, u179, u180, u181, u182, u183, u184, u185, u186, u187, u188, u189, u190, u191, u192, u193, u194, u195, u196, u197, u198, u199, u200, u201, u202, u203, u204, u205, u206, u207, u208, u209, u210, u211, u212, u213, u214, u215, u216, u217, u218, u219, u220, u221, u222, u223, u224, u225, u226, u227, u228, u229, u230, u231, u232, u233, u234, u235, u236, u237, u238, u239, u240, u241, u242, u243, u244, u245, u246, u247, u248, u249, u250, u251, u252, u253, u254, u255, u256, u257, u258, u259], []⟩ wr := by
  have HK := keepd hK
  have HM := keepd hM
  have hsa := hM.said_le
  have i1 : decide ((m : Int) < 400) = true := by simp; omega
  have i2 : decide ((0 : Int) < ((s.length + 1 : Nat) : Int) + (t.length : Int)) = true := decide_eq_true (by omega)
  have i3 : decide ((0 : Int) < (s.length : Int) + 1 + (t.length : Int)) = true := decide_eq_true (by omega)
  have HJ := keepd hJ
  obtain ⟨AP, cP, rfl, hP, _⟩ := hJ.len1
  obtain ⟨gb, go, c0, rfl, hn0, hm0, ⟨y0, y1, y2, y3⟩, A', c', hA', hc', hgb, hJ2⟩ := hJ.pop0
  have hsl := sl1 (some ⟨gb, go, none⟩) (s.length + 1) c0 (by omega)
  rw [hA', hc', Nat.add_sub_cancel] at hsl
  obtain ⟨⟨t0, t1⟩, f0, f1⟩ := hJ.ft
  have hlt := hJ.tw.lt
  have _hx := hlt
  have HJ2 := keepd hJ2
  clear hK hM hJ hJ2
  conv => arg 2; whnf
  go_wp2_with fail
  have HJ3 := keepd (HJ2.out.call (bAlloc (Below.refl _ _) (.cells #[.int .i64 3, .int .i64 v, .int .i64 q, .slice none 0 0] 51)))
  have z1 : ((wr.setCell ⟨bT, 0, none⟩ (.slice A' s.length c')).alloc (.cells #[.int .i64 3, .int .i64 v, .int .i64 q, .slice none 0 0] 51)).cell? ⟨wr.heap.size, 1, none⟩ = some (.int .i64 v) := by go_simp
  have z2 : ((wr.setCell ⟨bT, 0, none⟩ (.slice A' s.length c')).alloc (.cells #[.int .i64 3, .int .i64 v, .int .i64 q, .slice none 0 0] 51)).cell? ⟨wr.heap.size, 2, none⟩ = some (.int .i64 q) := by go_simp
  generalize (wr.setCell ⟨bT, 0, none⟩ (.slice A' s.length c')).alloc (.cells #[.int .i64 3, .int .i64 v, .int .i64 q, .slice none 0 0] 51) = W2 at *
  clear HJ2 HJ t0 t1 f0 f1 y0 y1 y2 y3 hsl hA' hc'
  have HL2 := keepd (show Laid W2.drew from (hL0.below HJ3.out.bel.drew).1)
  obtain ⟨f0, f1⟩ := HJ3.out.f2
  have HG := keepd (fun W hL => gotO_any A v q W hL)
  rw [hz] at HG
  go_cut [15, 16, 17] (fun s15 s16 s17 wx => s17 = .int .i64 e ∧ ∃ b, s15 = .pointer (some ⟨b, 0, none⟩) ∧ Hid (MQ w (pairC ma mb mc md AL n c) bO bT A B (.slice A' s.length c') (.slice AP t.length cP) s t b X s16 L wx))
  case first =>
    have hsz : wr.heap.size < W2.heap.size := World.block_lt_of_cell? W2 _ z1
    refine wp_region_held_drew (S := fun W => W.cell? ⟨wr.heap.size, 1, none⟩ = some (.int .i64 v) ∧ W.cell? ⟨wr.heap.size, 2, none⟩ = some (.int .i64 q) ∧ rowOf W bO = two A B ∧ isRow W 56 bO 32 = true) (by kernel_rfl) ⟨z1, z2, f0, f1⟩ (fun hHeld => ?_)
    refine wpAnyH_take (i := 0) (oi := { dst := some 170, op := Op.move (Operand.tmp 13), type := 3, pos := "law.go:130", after := #[], guard := none }) (v := .int .i64 0) rfl (by kernel_rfl) (by kernel_rfl) (by kernel_rfl) (fun _ _ _ h => h) (Or.inl ⟨by rfl, fun W hW => ?_⟩) hHeld ?_
    · obtain ⟨s0, s1, s2, s3⟩ := hW
      go_simp
    simp only [Act.put, List.setIfInBounds_toArray, List.set_cons_zero, List.set_cons_succ]
    refine wpAnyH_take (i := 1) (oi := { dst := some 171, op := Op.indexAddr 56 (Operand.tmp 3) (Operand.tmp 170), type := 0, pos := "law.go:130", after := #[{ on := 0, ground := Ground.data }], guard := none }) (v := .pointer (some ⟨bO, 0, none⟩)) rfl (by kernel_rfl) (by kernel_rfl) (by kernel_rfl) (fun _ _ _ h => h) (Or.inl ⟨by rfl, fun W hW => ?_⟩) hHeld ?_
    · obtain ⟨s0, s1, s2, s3⟩ := hW
      go_simp
    simp only [Act.put, List.setIfInBounds_toArray, List.set_cons_zero, List.set_cons_succ]
    refine wpAnyH_take (i := 2) (oi := { dst := some 172, op := Op.load 25 (Operand.tmp 171), type := 25, pos := "law.go:130", after := #[{ on := 1, ground := Ground.data }], guard := none }) (v := A.v) rfl (by kernel_rfl) (by kernel_rfl) (by kernel_rfl) (fun _ _ _ h => h) (Or.inl ⟨by rfl, fun W hW => ?_⟩) hHeld ?_
    · obtain ⟨s0, s1, s2, s3⟩ := hW
      go_simp
    simp only [Act.put, List.setIfInBounds_toArray, List.set_cons_zero, List.set_cons_succ]
    refine wpAnyH_take (i := 3) (oi := { dst := some 173, op := Op.fieldAddr 51 (Operand.tmp 14) 1, type := 0, pos := "law.go:130", after := #[], guard := none }) (v := .pointer (some ⟨wr.heap.size, 1, none⟩)) rfl (by kernel_rfl) (by kernel_rfl) (by kernel_rfl) (fun _ _ _ h => h) (Or.inl ⟨by rfl, fun W hW => ?_⟩) hHeld ?_
    · obtain ⟨s0, s1, s2, s3⟩ := hW
      go_simp
    simp only [Act.put, List.setIfInBounds_toArray, List.set_cons_zero, List.set_cons_succ]
    refine wpAnyH_take (i := 4) (oi := { dst := some 174, op := Op.load 3 (Operand.tmp 173), type := 3, pos := "law.go:130", after := #[{ on := 3, ground := Ground.data }], guard := none }) (v := .int .i64 v) rfl (by kernel_rfl) (by kernel_rfl) (by kernel_rfl) (fun _ _ _ h => h) (Or.inl ⟨by rfl, fun W hW => ?_⟩) hHeld ?_
    · obtain ⟨s0, s1, s2, s3⟩ := hW
      go_simp
    simp only [Act.put, List.setIfInBounds_toArray, List.set_cons_zero, List.set_cons_succ]
    refine wpAnyH_take (i := 5) (oi := { dst := some 175, op := Op.fieldAddr 51 (Operand.tmp 14) 2, type := 0, pos := "law.go:130", after := #[], guard := none }) (v := .pointer (some ⟨wr.heap.size, 2, none⟩)) rfl (by kernel_rfl) (by kernel_rfl) (by kernel_rfl) (fun _ _ _ h => h) (Or.inl ⟨by rfl, fun W hW => ?_⟩) hHeld ?_
    · obtain ⟨s0, s1, s2, s3⟩ := hW
      go_simp
    simp only [Act.put, List.setIfInBounds_toArray, List.set_cons_zero, List.set_cons_succ]
    refine wpAnyH_take (i := 6) (oi := { dst := some 176, op := Op.load 3 (Operand.tmp 175), type := 3, pos := "law.go:130", after := #[{ on := 5, ground := Ground.data }], guard := none }) (v := .int .i64 q) rfl (by kernel_rfl) (by kernel_rfl) (by kernel_rfl) (fun _ _ _ h => h) (Or.inl ⟨by rfl, fun W hW => ?_⟩) hHeld ?_
    · obtain ⟨s0, s1, s2, s3⟩ := hW
      go_simp
    simp only [Act.put, List.setIfInBounds_toArray, List.set_cons_zero, List.set_cons_succ]
    refine wpAnyH_ready (rs := [7, 12]) (by kernel_rfl) (by simp) ?_
    refine AllReadyH.cons (o := { dst := some 177, op := Op.call { callee := Callee.value (Operand.func 14), args := #[Operand.tmp 172, Operand.tmp 174, Operand.tmp 176], argTypes := #[25, 3, 3] }, type := 39, pos := "law.go:130", after := #[{ on := 2, ground := Ground.data }, { on := 4, ground := Ground.data }, { on := 6, ground := Ground.data }], guard := none }) rfl (fun K hK => ?_) (AllReadyH.cons (o := { dst := some 15, op := Op.alloc 25, type := 0, pos := "law.go:130", after := #[], guard := none }) rfl (fun K hK => ?_) AllReadyH.nil)
    focus
      go_simp
      with_reducible refine (HG.out _ HL2.out).mono ?_
      rintro en w1 ⟨sl, rfl, ho, hb1⟩
      have HQ := keepd (MQ.last HJ3.out.drew hb1 ho X)
      have HMJ := keepd (HJ3.out.drew.call hb1)
      have x1 := (hb1.cell (p := ⟨wr.heap.size, 1, none⟩) hsz).trans z1
      have x2 := (hb1.cell (p := ⟨wr.heap.size, 2, none⟩) hsz).trans z2
      obtain ⟨r0, r1⟩ := HMJ.out.f2
      have hs1 : wr.heap.size < w1.heap.size := Nat.lt_of_lt_of_le hsz hb1.size
      clear hb1 ho
      go_wp2_with fail
      refine hK.out _ _ ⟨x1, x2, r0, r1⟩ (fun hHeld2 => ?_)
      clear hK K hHeld
      rename (_ ∧ _) => hHeld
      try simp only [Act.put, List.setIfInBounds_toArray, List.set_cons_zero, List.set_cons_succ]
      refine wpAnyH_take (i := 8) (oi := { dst := some 169, op := Op.move (Operand.tmp 177), type := 39, pos := "law.go:130", after := #[{ on := 7, ground := Ground.data }], guard := none }) (v := .tuple #[X.v, sl, .int .i64 e]) rfl (by kernel_rfl) (by kernel_rfl) (by kernel_rfl) (fun _ _ _ h => h) (Or.inl ⟨by rfl, fun W hW => ?_⟩) hHeld ?_
      · obtain ⟨s0, s1, s2, s3⟩ := hW
        go_simp
      simp only [Act.put, List.setIfInBounds_toArray, List.set_cons_zero, List.set_cons_succ]
      refine wpAnyH_take (i := 9) (oi := { dst := some 178, op := Op.extract (Operand.tmp 169) 0, type := 25, pos := "law.go:130", after := #[{ on := 8, ground := Ground.data }], guard := none }) (v := X.v) rfl (by kernel_rfl) (by kernel_rfl) (by kernel_rfl) (fun _ _ _ h => h) (Or.inl ⟨by rfl, fun W hW => ?_⟩) hHeld ?_
      · obtain ⟨s0, s1, s2, s3⟩ := hW
        go_simp
      simp only [Act.put, List.setIfInBounds_toArray, List.set_cons_zero, List.set_cons_succ]
      refine wpAnyH_take (i := 10) (oi := { dst := some 179, op := Op.extract (Operand.tmp 169) 1, type := 38, pos := "law.go:130", after := #[{ on := 8, ground := Ground.data }, { on := 13, ground := Ground.gcOnly Departure.lateStores }], guard := none }) (v := sl) rfl (by kernel_rfl) (by kernel_rfl) (by kernel_rfl) (fun _ _ _ h => h) (Or.inl ⟨by rfl, fun W hW => ?_⟩) hHeld ?_
      · obtain ⟨s0, s1, s2, s3⟩ := hW
        go_simp
      simp only [Act.put, List.setIfInBounds_toArray, List.set_cons_zero, List.set_cons_succ]
      refine wpAnyH_take (i := 11) (oi := { dst := some 180, op := Op.extract (Operand.tmp 169) 2, type := 33, pos := "law.go:130", after := #[{ on := 8, ground := Ground.data }, { on := 14, ground := Ground.gcOnly Departure.lateStores }], guard := none }) (v := .int .i64 e) rfl (by kernel_rfl) (by kernel_rfl) (by kernel_rfl) (fun _ _ _ h => h) (Or.inl ⟨by rfl, fun W hW => ?_⟩) hHeld ?_
      · obtain ⟨s0, s1, s2, s3⟩ := hW
        go_simp
      simp only [Act.put, List.setIfInBounds_toArray, List.set_cons_zero, List.set_cons_succ]
      refine wpAnyH_ready (rs := [12]) (by kernel_rfl) (by simp) ?_
      refine AllReadyH.cons (o := { dst := some 15, op := Op.alloc 25, type := 0, pos := "law.go:130", after := #[], guard := none }) rfl (fun K hK => ?_) AllReadyH.nil
      go_simp
      refine hK.out _ _ ⟨((bAlloc (Below.refl _ _) _).cell (p := ⟨wr.heap.size, 1, none⟩) hs1).trans x1, ((bAlloc (Below.refl _ _) _).cell (p := ⟨wr.heap.size, 2, none⟩) hs1).trans x2, (HMJ.out.call (bAlloc (Below.refl _ _) _)).f2.1, (HMJ.out.call (bAlloc (Below.refl _ _) _)).f2.2⟩ (fun hHeld2 => ?_)
      clear hK K hHeld
      rename (_ ∧ _) => hHeld
      try simp only [Act.put, List.setIfInBounds_toArray, List.set_cons_zero, List.set_cons_succ]
      refine wpAnyH_ready (rs := [13]) (by kernel_rfl) (by simp) ?_
      refine AllReadyH.cons (o := { dst := none, op := Op.store 25 (Operand.tmp 15) (Operand.tmp 178), type := 0, pos := "law.go:130", after := #[{ on := 12, ground := Ground.data }, { on := 9, ground := Ground.data }, { on := 7, ground := Ground.chain }, { on := 0, ground := Ground.phase }, { on := 1, ground := Ground.phase }, { on := 2, ground := Ground.phase }, { on := 3, ground := Ground.phase }, { on := 4, ground := Ground.phase }, { on := 5, ground := Ground.phase }, { on := 6, ground := Ground.phase }, { on := 7, ground := Ground.phase }, { on := 8, ground := Ground.phase }, { on := 9, ground := Ground.phase }, { on := 10, ground := Ground.textOnly Departure.lateStores }, { on := 11, ground := Ground.textOnly Departure.lateStores }, { on := 12, ground := Ground.phase }], guard := none }) rfl (fun K hK => ?_) AllReadyH.nil
      go_simp
      refine hK.out _ _ ⟨((bAlloc (Below.refl _ _) _).cell (p := ⟨wr.heap.size, 1, none⟩) hs1).trans x1, ((bAlloc (Below.refl _ _) _).cell (p := ⟨wr.heap.size, 2, none⟩) hs1).trans x2, HQ.out.ms.j.f2.1, HQ.out.ms.j.f2.2⟩ (fun hHeld2 => ?_)
      clear hK K hHeld
      rename (_ ∧ _) => hHeld
      try simp only [Act.put, List.setIfInBounds_toArray, List.set_cons_zero, List.set_cons_succ]
      refine wpAnyH_take (i := 14) (oi := { dst := some 16, op := Op.assign (Operand.tmp 179), type := 38, pos := "law.go:130", after := #[{ on := 10, ground := Ground.data }, { on := 13, ground := Ground.chain }, { on := 0, ground := Ground.phase }, { on := 1, ground := Ground.phase }, { on := 2, ground := Ground.phase }, { on := 3, ground := Ground.phase }, { on := 4, ground := Ground.phase }, { on := 5, ground := Ground.phase }, { on := 6, ground := Ground.phase }, { on := 7, ground := Ground.phase }, { on := 8, ground := Ground.phase }, { on := 9, ground := Ground.phase }, { on := 10, ground := Ground.phase }, { on := 11, ground := Ground.textOnly Departure.lateStores }, { on := 12, ground := Ground.phase }, { on := 13, ground := Ground.phase }], guard := none }) (v := sl) rfl (by kernel_rfl) (by kernel_rfl) (by kernel_rfl) (fun _ _ _ h => h) (Or.inl ⟨by rfl, fun W hW => ?_⟩) hHeld ?_
      · obtain ⟨s0, s1, s2, s3⟩ := hW
        go_simp
      simp only [Act.put, List.setIfInBounds_toArray, List.set_cons_zero, List.set_cons_succ]
      refine wpAnyH_take (i := 15) (oi := { dst := some 17, op := Op.assign (Operand.tmp 180), type := 33, pos := "law.go:130", after := #[{ on := 11, ground := Ground.data }, { on := 14, ground := Ground.chain }, { on := 0, ground := Ground.phase }, { on := 1, ground := Ground.phase }, { on := 2, ground := Ground.phase }, { on := 3, ground := Ground.phase }, { on := 4, ground := Ground.phase }, { on := 5, ground := Ground.phase }, { on := 6, ground := Ground.phase }, { on := 7, ground := Ground.phase }, { on := 8, ground := Ground.phase }, { on := 9, ground := Ground.phase }, { on := 10, ground := Ground.phase }, { on := 11, ground := Ground.phase }, { on := 12, ground := Ground.phase }, { on := 13, ground := Ground.phase }, { on := 14, ground := Ground.phase }], guard := none }) (v := .int .i64 e) rfl (by kernel_rfl) (by kernel_rfl) (by kernel_rfl) (fun _ _ _ h => h) (Or.inl ⟨by rfl, fun W hW => ?_⟩) hHeld ?_
      · obtain ⟨s0, s1, s2, s3⟩ := hW
        go_simp
      simp only [Act.put, List.setIfInBounds_toArray, List.set_cons_zero, List.set_cons_succ]
      refine wpAnyH_done (by kernel_rfl) ?_ _
      go_wp2_with fail
      go_meet
      exact ⟨rfl, _, rfl, HQ⟩
    focus
      go_simp
      have HJ4 := keepd (MJ.drew (HJ3.out.call (bAlloc (Below.refl _ _) (.cells (List.toArray [.int .i64 0, .int .i64 0, .int .i64 0, .int .i64 0, .int .i64 0, .int .i64 0, .int .i64 0, .int .i64 0, .bool false, .bool false, .bool false, .bool false, .bool false, .bool false, .bool false, .bool false]) 25))))
      have hsz2 : wr.heap.size < W2.heap.size := hsz
      obtain ⟨g0, g1⟩ := HJ4.out.f2
      have k1 : (W2.alloc (.cells (List.toArray [.int .i64 0, .int .i64 0, .int .i64 0, .int .i64 0, .int .i64 0, .int .i64 0, .int .i64 0, .int .i64 0, .bool false, .bool false, .bool false, .bool false, .bool false, .bool false, .bool false, .bool false]) 25)).drew.cell? ⟨wr.heap.size, 1, none⟩ = some (.int .i64 v) := ((bAlloc (Below.refl _ _) _).cell (p := ⟨wr.heap.size, 1, none⟩) hsz).trans z1
      have k2 : (W2.alloc (.cells (List.toArray [.int .i64 0, .int .i64 0, .int .i64 0, .int .i64 0, .int .i64 0, .int .i64 0, .int .i64 0, .int .i64 0, .bool false, .bool false, .bool false, .bool false, .bool false, .bool false, .bool false, .bool false]) 25)).drew.cell? ⟨wr.heap.size, 2, none⟩ = some (.int .i64 q) := ((bAlloc (Below.refl _ _) _).cell (p := ⟨wr.heap.size, 2, none⟩) hsz).trans z2
      refine hK.out _ _ ⟨k1, k2, g0, g1⟩ (fun hHeld2 => ?_)
      clear hK K hHeld
      rename (_ ∧ _) => hHeld
      try simp only [Act.put, List.setIfInBounds_toArray, List.set_cons_zero, List.set_cons_succ]
      refine wpAnyH_ready (rs := [7]) (by kernel_rfl) (by simp) ?_
      refine AllReadyH.cons (o := { dst := some 177, op := Op.call { callee := Callee.value (Operand.func 14), args := #[Operand.tmp 172, Operand.tmp 174, Operand.tmp 176], argTypes := #[25, 3, 3] }, type := 39, pos := "law.go:130", after := #[{ on := 2, ground := Ground.data }, { on := 4, ground := Ground.data }, { on := 6, ground := Ground.data }], guard := none }) rfl (fun K hK => ?_) AllReadyH.nil
      go_simp
      have HL4 := keepd (show Laid _ from (hL0.below HJ4.out.bel).1)
      with_reducible refine (HG.out _ HL4.out).mono ?_
      rintro en w1 ⟨sl, rfl, ho, hb1⟩
      have HQ := keepd (MQ.first (W := W2.drew) HJ3.out.drew [.int .i64 0, .int .i64 0, .int .i64 0, .int .i64 0, .int .i64 0, .int .i64 0, .int .i64 0, .int .i64 0, .bool false, .bool false, .bool false, .bool false, .bool false, .bool false, .bool false, .bool false] hb1 ho X)
      have hsa1 : wr.heap.size < (W2.alloc (.cells (List.toArray [.int .i64 0, .int .i64 0, .int .i64 0, .int .i64 0, .int .i64 0, .int .i64 0, .int .i64 0, .int .i64 0, .bool false, .bool false, .bool false, .bool false, .bool false, .bool false, .bool false, .bool false]) 25)).drew.heap.size := World.block_lt_of_cell? _ _ k1
      have x1 := (hb1.cell (p := ⟨wr.heap.size, 1, none⟩) hsa1).trans k1
      have x2 := (hb1.cell (p := ⟨wr.heap.size, 2, none⟩) hsa1).trans k2
      obtain ⟨r0, r1⟩ := (HJ4.out.call hb1).f2
      have h25 : isRow w1 25 W2.heap.size 16 = true := (((SR.new 25 W2.drew [.int .i64 0, .int .i64 0, .int .i64 0, .int .i64 0, .int .i64 0, .int .i64 0, .int .i64 0, .int .i64 0, .bool false, .bool false, .bool false, .bool false, .bool false, .bool false, .bool false, .bool false]).call hb1 (SR.new 25 W2.drew [.int .i64 0, .int .i64 0, .int .i64 0, .int .i64 0, .int .i64 0, .int .i64 0, .int .i64 0, .int .i64 0, .bool false, .bool false, .bool false, .bool false, .bool false, .bool false, .bool false, .bool false]).lt).facts 16 rfl).2
      clear hb1 ho k1 k2 g0 g1
      go_wp2_with fail
      refine hK.out _ _ ⟨x1, x2, r0, r1⟩ (fun hHeld2 => ?_)
      clear hK K hHeld
      rename (_ ∧ _) => hHeld
      try simp only [Act.put, List.setIfInBounds_toArray, List.set_cons_zero, List.set_cons_succ]
      refine wpAnyH_take (i := 8) (oi := { dst := some 169, op := Op.move (Operand.tmp 177), type := 39, pos := "law.go:130", after := #[{ on := 7, ground := Ground.data }], guard := none }) (v := .tuple #[X.v, sl, .int .i64 e]) rfl (by kernel_rfl) (by kernel_rfl) (by kernel_rfl) (fun _ _ _ h => h) (Or.inl ⟨by rfl, fun W hW => ?_⟩) hHeld ?_
      · obtain ⟨s0, s1, s2, s3⟩ := hW
        go_simp
      simp only [Act.put, List.setIfInBounds_toArray, List.set_cons_zero, List.set_cons_succ]
      refine wpAnyH_take (i := 9) (oi := { dst := some 178, op := Op.extract (Operand.tmp 169) 0, type := 25, pos := "law.go:130", after := #[{ on := 8, ground := Ground.data }], guard := none }) (v := X.v) rfl (by kernel_rfl) (by kernel_rfl) (by kernel_rfl) (fun _ _ _ h => h) (Or.inl ⟨by rfl, fun W hW => ?_⟩) hHeld ?_
      · obtain ⟨s0, s1, s2, s3⟩ := hW
        go_simp
      simp only [Act.put, List.setIfInBounds_toArray, List.set_cons_zero, List.set_cons_succ]
      refine wpAnyH_take (i := 10) (oi := { dst := some 179, op := Op.extract (Operand.tmp 169) 1, type := 38, pos := "law.go:130", after := #[{ on := 8, ground := Ground.data }, { on := 13, ground := Ground.gcOnly Departure.lateStores }], guard := none }) (v := sl) rfl (by kernel_rfl) (by kernel_rfl) (by kernel_rfl) (fun _ _ _ h => h) (Or.inl ⟨by rfl, fun W hW => ?_⟩) hHeld ?_
      · obtain ⟨s0, s1, s2, s3⟩ := hW
        go_simp
      simp only [Act.put, List.setIfInBounds_toArray, List.set_cons_zero, List.set_cons_succ]
      refine wpAnyH_take (i := 11) (oi := { dst := some 180, op := Op.extract (Operand.tmp 169) 2, type := 33, pos := "law.go:130", after := #[{ on := 8, ground := Ground.data }, { on := 14, ground := Ground.gcOnly Departure.lateStores }], guard := none }) (v := .int .i64 e) rfl (by kernel_rfl) (by kernel_rfl) (by kernel_rfl) (fun _ _ _ h => h) (Or.inl ⟨by rfl, fun W hW => ?_⟩) hHeld ?_
      · obtain ⟨s0, s1, s2, s3⟩ := hW
        go_simp
      simp only [Act.put, List.setIfInBounds_toArray, List.set_cons_zero, List.set_cons_succ]
      refine wpAnyH_ready (rs := [13]) (by kernel_rfl) (by simp) ?_
      refine AllReadyH.cons (o := { dst := none, op := Op.store 25 (Operand.tmp 15) (Operand.tmp 178), type := 0, pos := "law.go:130", after := #[{ on := 12, ground := Ground.data }, { on := 9, ground := Ground.data }, { on := 7, ground := Ground.chain }, { on := 0, ground := Ground.phase }, { on := 1, ground := Ground.phase }, { on := 2, ground := Ground.phase }, { on := 3, ground := Ground.phase }, { on := 4, ground := Ground.phase }, { on := 5, ground := Ground.phase }, { on := 6, ground := Ground.phase }, { on := 7, ground := Ground.phase }, { on := 8, ground := Ground.phase }, { on := 9, ground := Ground.phase }, { on := 10, ground := Ground.textOnly Departure.lateStores }, { on := 11, ground := Ground.textOnly Departure.lateStores }, { on := 12, ground := Ground.phase }], guard := none }) rfl (fun K hK => ?_) AllReadyH.nil
      go_simp
      have hne : W2.heap.size ≠ wr.heap.size := by omega
      refine hK.out _ _ ⟨(cell_row_ne w1 _ hne _).trans x1, (cell_row_ne w1 _ hne _).trans x2, HQ.out.ms.j.f2.1, HQ.out.ms.j.f2.2⟩ (fun hHeld2 => ?_)
      clear hK K hHeld
      rename (_ ∧ _) => hHeld
      try simp only [Act.put, List.setIfInBounds_toArray, List.set_cons_zero, List.set_cons_succ]
      refine wpAnyH_take (i := 14) (oi := { dst := some 16, op := Op.assign (Operand.tmp 179), type := 38, pos := "law.go:130", after := #[{ on := 10, ground := Ground.data }, { on := 13, ground := Ground.chain }, { on := 0, ground := Ground.phase }, { on := 1, ground := Ground.phase }, { on := 2, ground := Ground.phase }, { on := 3, ground := Ground.phase }, { on := 4, ground := Ground.phase }, { on := 5, ground := Ground.phase }, { on := 6, ground := Ground.phase }, { on := 7, ground := Ground.phase }, { on := 8, ground := Ground.phase }, { on := 9, ground := Ground.phase }, { on := 10, ground := Ground.phase }, { on := 11, ground := Ground.textOnly Departure.lateStores }, { on := 12, ground := Ground.phase }, { on := 13, ground := Ground.phase }], guard := none }) (v := sl) rfl (by kernel_rfl) (by kernel_rfl) (by kernel_rfl) (fun _ _ _ h => h) (Or.inl ⟨by rfl, fun W hW => ?_⟩) hHeld ?_
      · obtain ⟨s0, s1, s2, s3⟩ := hW
        go_simp
      simp only [Act.put, List.setIfInBounds_toArray, List.set_cons_zero, List.set_cons_succ]
      refine wpAnyH_take (i := 15) (oi := { dst := some 17, op := Op.assign (Operand.tmp 180), type := 33, pos := "law.go:130", after := #[{ on := 11, ground := Ground.data }, { on := 14, ground := Ground.chain }, { on := 0, ground := Ground.phase }, { on := 1, ground := Ground.phase }, { on := 2, ground := Ground.phase }, { on := 3, ground := Ground.phase }, { on := 4, ground := Ground.phase }, { on := 5, ground := Ground.phase }, { on := 6, ground := Ground.phase }, { on := 7, ground := Ground.phase }, { on := 8, ground := Ground.phase }, { on := 9, ground := Ground.phase }, { on := 10, ground := Ground.phase }, { on := 11, ground := Ground.phase }, { on := 12, ground := Ground.phase }, { on := 13, ground := Ground.phase }, { on := 14, ground := Ground.phase }], guard := none }) (v := .int .i64 e) rfl (by kernel_rfl) (by kernel_rfl) (by kernel_rfl) (fun _ _ _ h => h) (Or.inl ⟨by rfl, fun W hW => ?_⟩) hHeld ?_
      · obtain ⟨s0, s1, s2, s3⟩ := hW
        go_simp
      simp only [Act.put, List.setIfInBounds_toArray, List.set_cons_zero, List.set_cons_succ]
      refine wpAnyH_done (by kernel_rfl) ?_ _
      go_wp2_with fail
      go_meet
      exact ⟨rfl, _, rfl, HQ⟩
  case rest =>
  obtain ⟨rfl, bx, rfl, HQ⟩ := hcut
  clear z1 z2 f0 f1 HG HL2 HJ3
  obtain ⟨rfl, hM'⟩ := HM.out.come0 hz
  have HM' := keepd hM'
  have hsa' := hM'.said_le
  clear HM hM' hz
  obtain ⟨r0, r1⟩ := HQ.out.ms.j.f2
  obtain ⟨r2, r3⟩ := HQ.out.x.xf
  have HS := keepd (HQ.out.ms.set2 X B)
  clear HQ
  rcases HS.out.one with ⟨rfl, rfl⟩ | ⟨b, y, d, rfl, rfl, hb1, hb2⟩
  · have HJ := keepd HS.out.j
    obtain ⟨⟨t0, t1⟩, f0, f1⟩ := HJ.out.ft
    clear HS
    go_wp2_with (at_builtin; refine wpList_put0 _ rfl (.tmp 191) (.tmp 192) rfl AP t.length cP hP rfl rfl ?_)
    go_wp2
    exact HK.out _ _ ⟨bO, bT, asked, said, _, _, _, _, s, t, ⟨rfl, rfl, rfl, rfl, rfl, rfl, by simp⟩, rfl, hak, by omega, HJ.out.same1, by simpa using HM'.out⟩
  · have HJ := keepd HS.out.j
    obtain ⟨⟨t0, t1⟩, f0, f1⟩ := HJ.out.ft
    clear HS
    have hoL : t.length ≤ 1000000 := by omega
    go_wp2_with (at_builtin; refine wpList_put _ rfl (.tmp 191) (.tmp 192) rfl (bT + 1) _ t rfl HJ.out.own1 ⟨b, 0, none⟩ 1 (y, d) rfl (fun j u hu => by rw [Addr.add_lit, Nat.zero_add]; exact (hb2.cell j).trans hu) hoL HJ.out.tw.lt ?_; intro v2 w2 h2 h3 h4; obtain ⟨A2, c2, e2, _, _⟩ := h2.slice; rw [List.length_append, List.length_singleton] at e2; subst e2; have HJ5 := keepd (HJ.out.setT1 h3 h2 (hw_of h4)); have tw := HJ.out.tw_1 h3; have g0 := tw.frozen 1; have g1 := tw.cell 1; simp only [List.getElem?_cons_zero, List.getElem?_cons_succ] at g1; clear h2 h3 h4 tw)
    go_wp2
    exact HK.out _ _ ⟨bO, bT, asked, said + 1, _, _, _, _, s, t ++ [(y, d)], ⟨rfl, rfl, rfl, rfl, rfl, rfl, by simp⟩, rfl, hak, by simp; omega, HJ5.out, by simpa using HM'.out⟩

end Go.Proofs.YtlgcfpdmklieiaaDoor
