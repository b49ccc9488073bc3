/-
  OptsMeets: rounds of the first loop in which something comes.
-/
import Derived.Test.YtlgcfpdmklieiaaDoorM9
namespace Go.Proofs.YtlgcfpdmklieiaaDoor
open Go.RowKit

attribute [local go_sem ↓] ex_ld25b ex_st25b
attribute [local go_sem] rowOf_dr isRow_dr ptrO_at ptrC_at okPtr2_0 okPtr2_1 aggC_at agg16 get2_0 get2_1 put2_0 put2_1

set_option maxRecDepth 100000 in
set_option maxHeartbeats 4000000 in
theorem met_come0 (bO bT n c asked said : Nat) (ma mb mc md : Four Bool) (A B : O) (v0 v1 : Value) (k : Nat) (v q : Int) (s t : List (Int × Int)) (w wr : World) (bk off : Nat) (_hc : n ≤ c) (_hm : c ≤ 9223372036854775807) (hlt : k < n) (h60 : k < 60) (hak : asked ≤ k) (hbl : bk < w.heap.size) (who : Int) (d0 : w.cell? ⟨bk, off + k * 5, none⟩ = some (.int .u8 who)) (d1 : w.cell? ⟨bk, off + k * 5 + 1, none⟩ = some (.bool true)) (_hw0 : 0 ≤ who) (_hw1 : who ≤ 255) (hw : who % 2 = 0) (hL0 : LaidA w) (hJ : MJ w (pairC ma mb mc md (some ⟨bk, off, none⟩) n c) bO bT A B v0 v1 ((v, q) :: s) t wr) (hM : Meets A B ((v, q) :: s) t said asked) (hst : s.length + t.length + 1 ≤ said)
    (X : O) (L : List (Int × Int)) (e : Int) (hz : gotF A v q = (X, L, e))
    (K KX : Act → World → Prop) (Post : Ending → World → Prop) (hK : ∀ a' w', MetI w (pairC ma mb mc md (some ⟨bk, off, none⟩) n c) n (k + 1) a' w' → K a' w')
    (u0 u2 u8 u9 u10 u11 u12 u13 u14 u15 u16 u17 u18 u19 u20 u21 u22 u23 u24 u25 u26 u27 u28 u29 u30 u31 u32 u33 u34 u35 u36 u37 u38 u39 u40 u41 u42 u43 u44 u45 u46 u47 u48 u49 u50 u51 u52 u53 u54 u55 u56 u57 u58 u59 u60 u61 u62 u63 u64 u65 u66 u67 u68 u69 u70 u71 u72 u73 u74 u75 u76 u77 u78 u79 u80 u81 u82 u83 u84 u85 u86 u87 u88 u89 u90 u91 u92 u93 u94 u95 u96 u97 u98 u99 u100 u101 u102 u103 u104 u105 u106 u107 u108 u109 u110 u111 u112 u113 u114 u115 u116 u117 u118 u119 u120 u121 u122 u123 u124 u125 u126 u127 u128 u129 u130 u131 u132 u133 u134 u135 u136 u137 u138 u139 u140 u141 u142 u143 u144 u145 u146 u147 u148 u149 u150 u151 u152 u153 u154 u155 u156 u157 u158 u159 u160 u161 u162 u163 u164 u165 u166 u167 u168 u169 u170 u171 u172 u173 u174 u175 u176 u177 u178 u179 u180 u181 u182 u183 u184 u185 u186 u187 u188 u189 u190 u191 u192 u193 u194 u195 u196 u197 u198 u199 u200 u201 u202 u203 u204 u205 u206 u207 u208 u209 u210 u211 u212 u213 u214 u215 u216 u217 u218 u219 u220 u221 u222 u223 u224 u225 u226 u227 u228 u229 u230 u231 u232 u233 u234 u235 u236 u237 u238 u239 u240 u241 u242 u243 u244 u245 u246 u247 u248 u249 u250 u251 u252 u253 u254 u255 u256 u257 u258 u259 : Value) :
    Code.wp Tryd.prog metBody1 (Exit.then K (Exit.inBlock 0 (Exit.then KX (bodyPost Tryd.prog Tryd.f5 Post)))) ⟨#[u0, .pointer (some ⟨w.heap.size, 0, none⟩), u2, .pointer (some ⟨bO, 0, none⟩), .pointer (some ⟨bT, 0, none⟩), .int .i64 asked, .int .i64 said, .int .i64 k, u8, u9, u10, u11, u12, u13, u14, u15, u16, u17, u18, u19, u20, u21, u22, u23, u24, u25, u26, u27, u28, u29, u30, u31, u32, u33, u34, u35, u36, u37, u38, u39, u40, u41, u42, u43, u44, u45, u46, u47, u48, u49, u50, u51, u52, u53, u54, u55, u56, u57, u58, u59, u60, u61, u62, u63, u64, u65, u66, u67, u68, u69, u70, u71, u72, u73, u74, u75, u76, u77, u78, u79, u80, u81, u82, u83, u84, u85, u86, u87, u88, u89, u90, u91, u92, u93, u94, u95, u96, u97, u98, u99, u100, u101, u102, u103, u104, u105, u106, u107, u108, u109, u110, u111, u112, u113, u114, u115, u116, u117, u118, u119, u120, u121, u122, u123, u124, u125, u126, u127, u128, u129, u130, u131, u132, u133, u134, u135, u136, u137, u138, u139, u140, u141, u142, u143, u144, u145, u146, u147, u148, u149, u150, u151, u152, u153, u154, u155, u156, u157, u158, u159, u160, u161, u162, u163, u164, u165, u166, u167, u168, u169, u170, u171, u172, u173, u174, u175, u176, u177, u178, u179, u180, u181, u182, u183, u184, u185, u186, u187, u188, u189, u190, u191, u192, u193, u194, u195, u196, u197, u198, u199, u200, u201, u202, u203, u204, u205, u206, u207, u208, u209, u210, u211, u212, u213, u214, u215, u216, u217, u218, u219, u220, u221, u222, u223, u224, u225, u226, u227, u228, u229, u230, u231, u232, u233, u234, u235, u236, u237, u238, u239, u240, u241, u242, u243, u244, u245, u246, u247, u248, u249, u250, u251, u252, u253, u254, u255, u256, u257, u258, u259], []⟩ wr := by
  have HK := keepd hK
  have HM := keepd hM
  have hsa := hM.said_le
  have p2 : wr.cell? ⟨w.heap.size, 16, none⟩ = some (.slice (some ⟨bk, off, none⟩) n c) := hJ.pr.cell 16
  have e0 := (hJ.bel.cell (p := ⟨bk, off + k * 5, none⟩) hbl).trans d0
  have e1 := (hJ.bel.cell (p := ⟨bk, off + k * 5 + 1, none⟩) hbl).trans d1
  have i1 : decide ((k : Int) < (n : Int)) = true := by simp; omega
  have i2 : decide ((k : Int) < 60) = true := by simp; omega
  have i0 : (0 : Int) ≤ (k : Int) := by omega
  have i3 : (k : Int) < (n : Int) := by omega
  have HJ := keepd hJ
  obtain ⟨gb, go, c0, rfl, hn0, hm0, ⟨y0, y1, y2, y3⟩, A', c', hA', hc', hgb, hJ2⟩ := hJ.pop0
  have hsl := sl1 (some ⟨gb, go, none⟩) (s.length + 1) c0 (by omega)
  rw [hA', hc', Nat.add_sub_cancel] at hsl
  obtain ⟨⟨t0, t1⟩, f0, f1⟩ := hJ.ft
  have hlt := hJ.tw.lt
  have HJ2 := keepd hJ2
  clear hK hM hJ d0 d1 hJ2
  conv => arg 2; whnf
  go_wp2_with fail
  have HJ3 := keepd (HJ2.out.call (bAlloc (Below.refl _ _) (.cells #[.int .i64 3, .int .i64 v, .int .i64 q, .slice none 0 0] 51)))
  have z1 : ((wr.setCell ⟨bT, 0, none⟩ (.slice A' s.length c')).alloc (.cells #[.int .i64 3, .int .i64 v, .int .i64 q, .slice none 0 0] 51)).cell? ⟨wr.heap.size, 1, none⟩ = some (.int .i64 v) := by go_simp
  have z2 : ((wr.setCell ⟨bT, 0, none⟩ (.slice A' s.length c')).alloc (.cells #[.int .i64 3, .int .i64 v, .int .i64 q, .slice none 0 0] 51)).cell? ⟨wr.heap.size, 2, none⟩ = some (.int .i64 q) := by go_simp
  generalize (wr.setCell ⟨bT, 0, none⟩ (.slice A' s.length c')).alloc (.cells #[.int .i64 3, .int .i64 v, .int .i64 q, .slice none 0 0] 51) = W2 at *
  have hbo : bO ≠ wr.heap.size := by have := HJ.out.lt2; omega
  clear HJ2 HJ t0 t1 f0 f1 e0 e1 y0 y1 y2 y3 hsl hA' hc' p2
  have HL2 := keepd (show Laid W2.drew from (hL0.below HJ3.out.bel.drew).1)
  obtain ⟨f0, f1⟩ := HJ3.out.f2
  have HG := keepd (fun W hL => gotO_any A v q W hL)
  rw [hz] at HG
  go_cut [9, 10] (fun s9 s10 wx => s10 = .int .i64 e ∧ Hid (MS w (pairC ma mb mc md (some ⟨bk, off, none⟩) n c) bO bT X B (.slice A' s.length c') v1 s t s9 L wx))
  case first =>
    have hsz : wr.heap.size < W2.heap.size := World.block_lt_of_cell? W2 _ z1
    refine wp_region_held_drew (S := fun W => W.cell? ⟨wr.heap.size, 1, none⟩ = some (.int .i64 v) ∧ W.cell? ⟨wr.heap.size, 2, none⟩ = some (.int .i64 q)) (by kernel_rfl) ⟨z1, z2⟩ (fun hHeld => ?_)
    refine wpAnyH_take (i := 0) (oi := { dst := some 76, op := Op.move (Operand.tmp 8), type := 3, pos := "law.go:110", after := #[], guard := none }) (v := .int .i64 0) rfl (by kernel_rfl) (by kernel_rfl) (by kernel_rfl) (fun _ _ _ h => h) (Or.inl ⟨by rfl, fun W hW => ?_⟩) hHeld ?_
    · obtain ⟨s0, s1⟩ := hW
      go_simp
    simp only [Act.put, List.setIfInBounds_toArray, List.set_cons_zero, List.set_cons_succ]
    refine wpAnyH_take (i := 1) (oi := { dst := some 77, op := Op.move (Operand.tmp 8), type := 3, pos := "law.go:110", after := #[], guard := none }) (v := .int .i64 0) rfl (by kernel_rfl) (by kernel_rfl) (by kernel_rfl) (fun _ _ _ h => h) (Or.inl ⟨by rfl, fun W hW => ?_⟩) hHeld ?_
    · obtain ⟨s0, s1⟩ := hW
      go_simp
    simp only [Act.put, List.setIfInBounds_toArray, List.set_cons_zero, List.set_cons_succ]
    refine wpAnyH_take (i := 2) (oi := { dst := some 78, op := Op.indexAddr 56 (Operand.tmp 3) (Operand.tmp 77), type := 0, pos := "law.go:110", after := #[{ on := 1, ground := Ground.data }], guard := none }) (v := .pointer (some ⟨bO, 0, none⟩)) rfl (by kernel_rfl) (by kernel_rfl) (by kernel_rfl) (fun _ _ _ h => h) (Or.inl ⟨by rfl, fun W hW => ?_⟩) hHeld ?_
    · obtain ⟨s0, s1⟩ := hW
      go_simp
    simp only [Act.put, List.setIfInBounds_toArray, List.set_cons_zero, List.set_cons_succ]
    refine wpAnyH_take (i := 4) (oi := { dst := some 80, op := Op.fieldAddr 51 (Operand.tmp 11) 1, type := 0, pos := "law.go:110", after := #[], guard := none }) (v := .pointer (some ⟨wr.heap.size, 1, none⟩)) rfl (by kernel_rfl) (by kernel_rfl) (by kernel_rfl) (fun _ _ _ h => h) (Or.inl ⟨by rfl, fun W hW => ?_⟩) hHeld ?_
    · obtain ⟨s0, s1⟩ := hW
      go_simp
    simp only [Act.put, List.setIfInBounds_toArray, List.set_cons_zero, List.set_cons_succ]
    refine wpAnyH_take (i := 5) (oi := { dst := some 81, op := Op.load 3 (Operand.tmp 80), type := 3, pos := "law.go:110", after := #[{ on := 4, ground := Ground.data }], guard := none }) (v := .int .i64 v) rfl (by kernel_rfl) (by kernel_rfl) (by kernel_rfl) (fun _ _ _ h => h) (Or.inl ⟨by rfl, fun W hW => ?_⟩) hHeld ?_
    · obtain ⟨s0, s1⟩ := hW
      go_simp
    simp only [Act.put, List.setIfInBounds_toArray, List.set_cons_zero, List.set_cons_succ]
    refine wpAnyH_take (i := 6) (oi := { dst := some 82, op := Op.fieldAddr 51 (Operand.tmp 11) 2, type := 0, pos := "law.go:110", after := #[], guard := none }) (v := .pointer (some ⟨wr.heap.size, 2, none⟩)) rfl (by kernel_rfl) (by kernel_rfl) (by kernel_rfl) (fun _ _ _ h => h) (Or.inl ⟨by rfl, fun W hW => ?_⟩) hHeld ?_
    · obtain ⟨s0, s1⟩ := hW
      go_simp
    simp only [Act.put, List.setIfInBounds_toArray, List.set_cons_zero, List.set_cons_succ]
    refine wpAnyH_take (i := 7) (oi := { dst := some 83, op := Op.load 3 (Operand.tmp 82), type := 3, pos := "law.go:110", after := #[{ on := 6, ground := Ground.data }], guard := none }) (v := .int .i64 q) rfl (by kernel_rfl) (by kernel_rfl) (by kernel_rfl) (fun _ _ _ h => h) (Or.inl ⟨by rfl, fun W hW => ?_⟩) hHeld ?_
    · obtain ⟨s0, s1⟩ := hW
      go_simp
    simp only [Act.put, List.setIfInBounds_toArray, List.set_cons_zero, List.set_cons_succ]
    refine wpAnyH_ready (rs := [3]) (by kernel_rfl) (by simp) ?_
    refine AllReadyH.cons (o := { dst := some 79, op := Op.load 25 (Operand.tmp 78), type := 25, pos := "law.go:110", after := #[{ on := 2, ground := Ground.data }], guard := none }) rfl (fun K hK => ?_) AllReadyH.nil
    go_simp
    refine hK.out _ _ ⟨z1, z2⟩ (fun hHeld2 => ?_)
    clear hK K hHeld
    rename (_ ∧ _) => hHeld
    try simp only [Act.put, List.setIfInBounds_toArray, List.set_cons_zero, List.set_cons_succ]
    refine wpAnyH_ready (rs := [8]) (by kernel_rfl) (by simp) ?_
    refine AllReadyH.cons (o := { dst := some 84, op := Op.call { callee := Callee.value (Operand.func 14), args := #[Operand.tmp 79, Operand.tmp 81, Operand.tmp 83], argTypes := #[25, 3, 3] }, type := 39, pos := "law.go:110", after := #[{ on := 3, ground := Ground.data }, { on := 5, ground := Ground.data }, { on := 7, ground := Ground.data }], guard := none }) rfl (fun K hK => ?_) AllReadyH.nil
    go_simp
    with_reducible refine (HG.out _ HL2.out).mono ?_
    rintro e w1 ⟨sl, rfl, ho, hb1⟩
    have HS1 := keepd (MS.got HJ3.out.drew hb1 ho)
    have x1 := (hb1.cell (p := ⟨wr.heap.size, 1, none⟩) hsz).trans z1
    have x2 := (hb1.cell (p := ⟨wr.heap.size, 2, none⟩) hsz).trans z2
    obtain ⟨r0, r1⟩ := HS1.out.j.f2
    clear hb1 ho
    go_wp2_with fail
    refine hK.out _ _ ⟨x1, x2⟩ (fun hHeld2 => ?_)
    clear hK K hHeld
    rename (_ ∧ _) => hHeld
    try simp only [Act.put, List.setIfInBounds_toArray, List.set_cons_zero, List.set_cons_succ]
    refine wpAnyH_take (i := 9) (oi := { dst := some 75, op := Op.move (Operand.tmp 84), type := 39, pos := "law.go:110", after := #[{ on := 8, ground := Ground.data }], guard := none }) (v := .tuple #[X.v, sl, .int .i64 e]) rfl (by kernel_rfl) (by kernel_rfl) (by kernel_rfl) (fun _ _ _ h => h) (Or.inl ⟨by rfl, fun W hW => ?_⟩) hHeld ?_
    · obtain ⟨s0, s1⟩ := hW
      go_simp
    simp only [Act.put, List.setIfInBounds_toArray, List.set_cons_zero, List.set_cons_succ]
    refine wpAnyH_take (i := 10) (oi := { dst := some 85, op := Op.extract (Operand.tmp 75) 0, type := 25, pos := "law.go:110", after := #[{ on := 9, ground := Ground.data }], guard := none }) (v := X.v) rfl (by kernel_rfl) (by kernel_rfl) (by kernel_rfl) (fun _ _ _ h => h) (Or.inl ⟨by rfl, fun W hW => ?_⟩) hHeld ?_
    · obtain ⟨s0, s1⟩ := hW
      go_simp
    simp only [Act.put, List.setIfInBounds_toArray, List.set_cons_zero, List.set_cons_succ]
    refine wpAnyH_take (i := 11) (oi := { dst := some 86, op := Op.extract (Operand.tmp 75) 1, type := 38, pos := "law.go:110", after := #[{ on := 9, ground := Ground.data }, { on := 14, ground := Ground.gcOnly Departure.lateStores }], guard := none }) (v := sl) rfl (by kernel_rfl) (by kernel_rfl) (by kernel_rfl) (fun _ _ _ h => h) (Or.inl ⟨by rfl, fun W hW => ?_⟩) hHeld ?_
    · obtain ⟨s0, s1⟩ := hW
      go_simp
    simp only [Act.put, List.setIfInBounds_toArray, List.set_cons_zero, List.set_cons_succ]
    refine wpAnyH_take (i := 12) (oi := { dst := some 87, op := Op.extract (Operand.tmp 75) 2, type := 33, pos := "law.go:110", after := #[{ on := 9, ground := Ground.data }, { on := 15, ground := Ground.gcOnly Departure.lateStores }], guard := none }) (v := .int .i64 e) rfl (by kernel_rfl) (by kernel_rfl) (by kernel_rfl) (fun _ _ _ h => h) (Or.inl ⟨by rfl, fun W hW => ?_⟩) hHeld ?_
    · obtain ⟨s0, s1⟩ := hW
      go_simp
    simp only [Act.put, List.setIfInBounds_toArray, List.set_cons_zero, List.set_cons_succ]
    refine wpAnyH_take (i := 13) (oi := { dst := some 88, op := Op.indexAddr 56 (Operand.tmp 3) (Operand.tmp 76), type := 0, pos := "law.go:110", after := #[{ on := 0, ground := Ground.data }, { on := 0, ground := Ground.phase }, { on := 1, ground := Ground.phase }, { on := 2, ground := Ground.phase }, { on := 3, ground := Ground.phase }, { on := 4, ground := Ground.phase }, { on := 5, ground := Ground.phase }, { on := 6, ground := Ground.phase }, { on := 7, ground := Ground.phase }, { on := 8, ground := Ground.phase }, { on := 9, ground := Ground.phase }, { on := 10, ground := Ground.phase }, { on := 11, ground := Ground.textOnly Departure.lateStores }, { on := 12, ground := Ground.textOnly Departure.lateStores }], guard := none }) (v := .pointer (some ⟨bO, 0, none⟩)) rfl (by kernel_rfl) (by kernel_rfl) (by kernel_rfl) (fun _ _ _ h => h) (Or.inl ⟨by rfl, fun W hW => ?_⟩) hHeld ?_
    · obtain ⟨s0, s1⟩ := hW
      go_simp
    simp only [Act.put, List.setIfInBounds_toArray, List.set_cons_zero, List.set_cons_succ]
    refine wpAnyH_ready (rs := [14]) (by kernel_rfl) (by simp) ?_
    refine AllReadyH.cons (o := { dst := none, op := Op.store 25 (Operand.tmp 88) (Operand.tmp 85), type := 0, pos := "law.go:110", after := #[{ on := 13, ground := Ground.data }, { on := 10, ground := Ground.data }, { on := 8, ground := Ground.chain }, { on := 0, ground := Ground.phase }, { on := 1, ground := Ground.phase }, { on := 2, ground := Ground.phase }, { on := 3, ground := Ground.phase }, { on := 4, ground := Ground.phase }, { on := 5, ground := Ground.phase }, { on := 6, ground := Ground.phase }, { on := 7, ground := Ground.phase }, { on := 8, ground := Ground.phase }, { on := 9, ground := Ground.phase }, { on := 10, ground := Ground.phase }, { on := 11, ground := Ground.textOnly Departure.lateStores }, { on := 12, ground := Ground.textOnly Departure.lateStores }], guard := none }) rfl (fun K hK => ?_) AllReadyH.nil
    go_simp
    have y1 : (w1.setRow bO (two X B)).cell? ⟨wr.heap.size, 1, none⟩ = some (.int .i64 v) := (cell_row_ne w1 _ hbo _).trans x1
    have y2 : (w1.setRow bO (two X B)).cell? ⟨wr.heap.size, 2, none⟩ = some (.int .i64 q) := (cell_row_ne w1 _ hbo _).trans x2
    refine hK.out _ _ ⟨y1, y2⟩ (fun hHeld2 => ?_)
    clear hK K hHeld
    rename (_ ∧ _) => hHeld
    try simp only [Act.put, List.setIfInBounds_toArray, List.set_cons_zero, List.set_cons_succ]
    refine wpAnyH_take (i := 15) (oi := { dst := some 9, op := Op.assign (Operand.tmp 86), type := 38, pos := "law.go:110", after := #[{ on := 11, ground := Ground.data }, { on := 14, ground := Ground.chain }, { on := 0, ground := Ground.phase }, { on := 1, ground := Ground.phase }, { on := 2, ground := Ground.phase }, { on := 3, ground := Ground.phase }, { on := 4, ground := Ground.phase }, { on := 5, ground := Ground.phase }, { on := 6, ground := Ground.phase }, { on := 7, ground := Ground.phase }, { on := 8, ground := Ground.phase }, { on := 9, ground := Ground.phase }, { on := 10, ground := Ground.phase }, { on := 11, ground := Ground.phase }, { on := 12, ground := Ground.textOnly Departure.lateStores }, { on := 13, ground := Ground.phase }, { on := 14, ground := Ground.phase }], guard := none }) (v := sl) rfl (by kernel_rfl) (by kernel_rfl) (by kernel_rfl) (fun _ _ _ h => h) (Or.inl ⟨by rfl, fun W hW => ?_⟩) hHeld ?_
    · obtain ⟨s0, s1⟩ := hW
      go_simp
    simp only [Act.put, List.setIfInBounds_toArray, List.set_cons_zero, List.set_cons_succ]
    refine wpAnyH_take (i := 16) (oi := { dst := some 10, op := Op.assign (Operand.tmp 87), type := 33, pos := "law.go:110", after := #[{ on := 12, ground := Ground.data }, { on := 15, ground := Ground.chain }, { on := 0, ground := Ground.phase }, { on := 1, ground := Ground.phase }, { on := 2, ground := Ground.phase }, { on := 3, ground := Ground.phase }, { on := 4, ground := Ground.phase }, { on := 5, ground := Ground.phase }, { on := 6, ground := Ground.phase }, { on := 7, ground := Ground.phase }, { on := 8, ground := Ground.phase }, { on := 9, ground := Ground.phase }, { on := 10, ground := Ground.phase }, { on := 11, ground := Ground.phase }, { on := 12, ground := Ground.phase }, { on := 13, ground := Ground.phase }, { on := 14, ground := Ground.phase }, { on := 15, ground := Ground.phase }], guard := none }) (v := .int .i64 e) rfl (by kernel_rfl) (by kernel_rfl) (by kernel_rfl) (fun _ _ _ h => h) (Or.inl ⟨by rfl, fun W hW => ?_⟩) hHeld ?_
    · obtain ⟨s0, s1⟩ := hW
      go_simp
    simp only [Act.put, List.setIfInBounds_toArray, List.set_cons_zero, List.set_cons_succ]
    refine wpAnyH_done (by kernel_rfl) ?_ _
    go_wp2_with fail
    go_meet
    exact ⟨rfl, HS1.out.set2 _ _⟩
  case rest =>
  obtain ⟨rfl, HS⟩ := hcut
  clear z1 z2 f0 f1 HG HL2 HJ3 hbo
  obtain ⟨rfl, hM'⟩ := HM.out.come0 hz
  have HM' := keepd hM'
  have hsa' := hM'.said_le
  clear HM hM' hz
  have hoL : t.length ≤ 1000000 := by omega
  rcases HS.out.one with ⟨rfl, rfl⟩ | ⟨b, y, d, rfl, rfl, hb1, hb2⟩
  · have HJ := keepd HS.out.j
    obtain ⟨AO, cO, rfl, hO, _⟩ := HJ.out.len1
    obtain ⟨⟨t0, t1⟩, f0, f1⟩ := HJ.out.ft
    clear HS
    go_wp2_with (at_builtin; refine wpList_put0 _ rfl (.tmp 132) (.tmp 133) rfl AO t.length cO hO rfl rfl ?_)
    go_wp2
    exact HK.out _ _ ⟨bO, bT, asked, said, _, _, _, _, s, t, ⟨rfl, rfl, rfl, rfl, rfl, rfl, by simp⟩, rfl, by omega, by omega, by omega, by omega, HJ.out.same1, by simpa using HM'.out⟩
  · have HJ := keepd HS.out.j
    obtain ⟨AO, cO, rfl, hO, _⟩ := HJ.out.len1
    obtain ⟨⟨t0, t1⟩, f0, f1⟩ := HJ.out.ft
    clear HS
    go_wp2_with (at_builtin; refine wpList_put _ rfl (.tmp 132) (.tmp 133) rfl (bT + 1) _ t rfl HJ.out.own1 ⟨b, 0, none⟩ 1 (y, d) rfl (fun j u hu => by rw [Addr.add_lit, Nat.zero_add]; exact (hb2.cell j).trans hu) hoL HJ.out.tw.lt ?_; intro v2 w2 h2 h3 h4; obtain ⟨A2, c2, e2, _, _⟩ := h2.slice; rw [List.length_append, List.length_singleton] at e2; subst e2; have HJ5 := keepd (HJ.out.setT1 h3 h2 (hw_of h4)); have tw := HJ.out.tw_1 h3; have g0 := tw.frozen 1; have g1 := tw.cell 1; simp only [List.getElem?_cons_zero, List.getElem?_cons_succ] at g1; clear h2 h3 h4 tw)
    go_wp2
    exact HK.out _ _ ⟨bO, bT, asked, said + 1, _, _, _, _, s, t ++ [(y, d)], ⟨rfl, rfl, rfl, rfl, rfl, rfl, by simp⟩, rfl, by omega, by omega, by omega, by simp; omega, HJ5.out, by simpa using HM'.out⟩

end Go.Proofs.YtlgcfpdmklieiaaDoor
