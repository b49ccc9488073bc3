/-
  The law OptsMeets, walked: it returns true, whatever the pair of ends, and whatever happens.
-/
import Derived.Test.YtlgcfpdmklieiaaDoorNb
import Derived.Test.YtlgcfpdmklieiaaDoorV2
import Derived.Deep.WholeRow
namespace Go.Proofs.YtlgcfpdmklieiaaDoor
open Go.RowKit

attribute [local go_sem ↓] ex_st56
attribute [local go_sem] rowOf_dr isRow_dr ptrB_at okPtr_at aggC_at agg32 isRow_new World.setRow_alloc_new

theorem actK {q : Act → Prop} {K : Act → World → Prop} {w' : World} (h : ∀ u0 u1 u2 u3 u4 u5 u6 u7 u8 u9 u10 u11 u12 u13 u14 u15 u16 u17 u18 u19 u20 u21 u22 u23 u24 u25 u26 u27 u28 u29 u30 u31 u32 u33 u34 u35 u36 u37 u38 u39 u40 u41 u42 u43 u44 u45 u46 u47 u48 u49 u50 u51 u52 u53 u54 u55 u56 u57 u58 u59 u60 u61 u62 u63 u64 u65 u66 u67 u68 u69 u70 u71 u72 u73 u74 u75 u76 u77 u78 u79 u80 u81 u82 u83 u84 u85 u86 u87 u88 u89 u90 u91 u92 u93 u94 u95 u96 u97 u98 u99 u100 u101 u102 u103 u104 u105 u106 u107 u108 u109 u110 u111 u112 u113 u114 u115 u116 u117 u118 u119 u120 u121 u122 u123 u124 u125 u126 u127 u128 u129 u130 u131 u132 u133 u134 u135 u136 u137 u138 u139 u140 u141 u142 u143 u144 u145 u146 u147 u148 u149 u150 u151 u152 u153 u154 u155 u156 u157 u158 u159 u160 u161 u162 u163 u164 u165 u166 u167 u168 u169 u170 u171 u172 u173 u174 u175 u176 u177 u178 u179 u180 u181 u182 u183 u184 u185 u186 u187 u188 u189 u190 u191 u192 u193 u194 u195 u196 u197 u198 u199 u200 u201 u202 u203 u204 u205 u206 u207 u208 u209 u210 u211 u212 u213 u214 u215 u216 u217 u218 u219 u220 u221 u222 u223 u224 u225 u226 u227 u228 u229 u230 u231 u232 u233 u234 u235 u236 u237 u238 u239 u240 u241 u242 u243 u244 u245 u246 u247 u248 u249 u250 u251 u252 u253 u254 u255 u256 u257 u258 u259 : Value, q ⟨#[u0, u1, u2, u3, u4, u5, u6, u7, u8, u9, u10, u11, u12, u13, u14, u15, u16, u17, u18, u19, u20, u21, u22, u23, u24, u25, u26, u27, u28, u29, u30, u31, u32, u33, u34, u35, u36, u37, u38, u39, u40, u41, u42, u43, u44, u45, u46, u47, u48, u49, u50, u51, u52, u53, u54, u55, u56, u57, u58, u59, u60, u61, u62, u63, u64, u65, u66, u67, u68, u69, u70, u71, u72, u73, u74, u75, u76, u77, u78, u79, u80, u81, u82, u83, u84, u85, u86, u87, u88, u89, u90, u91, u92, u93, u94, u95, u96, u97, u98, u99, u100, u101, u102, u103, u104, u105, u106, u107, u108, u109, u110, u111, u112, u113, u114, u115, u116, u117, u118, u119, u120, u121, u122, u123, u124, u125, u126, u127, u128, u129, u130, u131, u132, u133, u134, u135, u136, u137, u138, u139, u140, u141, u142, u143, u144, u145, u146, u147, u148, u149, u150, u151, u152, u153, u154, u155, u156, u157, u158, u159, u160, u161, u162, u163, u164, u165, u166, u167, u168, u169, u170, u171, u172, u173, u174, u175, u176, u177, u178, u179, u180, u181, u182, u183, u184, u185, u186, u187, u188, u189, u190, u191, u192, u193, u194, u195, u196, u197, u198, u199, u200, u201, u202, u203, u204, u205, u206, u207, u208, u209, u210, u211, u212, u213, u214, u215, u216, u217, u218, u219, u220, u221, u222, u223, u224, u225, u226, u227, u228, u229, u230, u231, u232, u233, u234, u235, u236, u237, u238, u239, u240, u241, u242, u243, u244, u245, u246, u247, u248, u249, u250, u251, u252, u253, u254, u255, u256, u257, u258, u259], []⟩ → K ⟨#[u0, u1, u2, u3, u4, u5, u6, u7, u8, u9, u10, u11, u12, u13, u14, u15, u16, u17, u18, u19, u20, u21, u22, u23, u24, u25, u26, u27, u28, u29, u30, u31, u32, u33, u34, u35, u36, u37, u38, u39, u40, u41, u42, u43, u44, u45, u46, u47, u48, u49, u50, u51, u52, u53, u54, u55, u56, u57, u58, u59, u60, u61, u62, u63, u64, u65, u66, u67, u68, u69, u70, u71, u72, u73, u74, u75, u76, u77, u78, u79, u80, u81, u82, u83, u84, u85, u86, u87, u88, u89, u90, u91, u92, u93, u94, u95, u96, u97, u98, u99, u100, u101, u102, u103, u104, u105, u106, u107, u108, u109, u110, u111, u112, u113, u114, u115, u116, u117, u118, u119, u120, u121, u122, u123, u124, u125, u126, u127, u128, u129, u130, u131, u132, u133, u134, u135, u136, u137, u138, u139, u140, u141, u142, u143, u144, u145, u146, u147, u148, u149, u150, u151, u152, u153, u154, u155, u156, u157, u158, u159, u160, u161, u162, u163, u164, u165, u166, u167, u168, u169, u170, u171, u172, u173, u174, u175, u176, u177, u178, u179, u180, u181, u182, u183, u184, u185, u186, u187, u188, u189, u190, u191, u192, u193, u194, u195, u196, u197, u198, u199, u200, u201, u202, u203, u204, u205, u206, u207, u208, u209, u210, u211, u212, u213, u214, u215, u216, u217, u218, u219, u220, u221, u222, u223, u224, u225, u226, u227, u228, u229, u230, u231, u232, u233, u234, u235, u236, u237, u238, u239, u240, u241, u242, u243, u244, u245, u246, u247, u248, u249, u250, u251, u252, u253, u254, u255, u256, u257, u258, u259], []⟩ w') (a : Act) (hd : a.defers = []) (hs : a.tmps.size = 260) (hq : q a) : K a w' :=
  act260 (p := fun a => q a → K a w') h a hd hs hq

set_option maxRecDepth 100000 in
set_option maxHeartbeats 4000000 in
theorem meets_law (ma mb mc md : Four Bool) (A : Option Addr) (l : List Ac) (n c : Nat) (hn : n = l.length) (w : World) (hL : LaidA w) (hr : RdA w A l c) :
    Calls Tryd.prog 5 #[.agg #[.bool ma.a, .bool ma.b, .bool ma.c, .bool ma.d, .bool mb.a, .bool mb.b, .bool mb.c, .bool mb.d, .bool mc.a, .bool mc.b, .bool mc.c, .bool mc.d, .bool md.a, .bool md.b, .bool md.c, .bool md.d, .slice A n c]] w fun e w' => e = .returned (.bool true) ∧ Below w.heap.size w w' := by
  have HL := keepd hL
  have HR := keepd hr
  have HN := keepd hn
  have HP := keepd (MP.new w (pairC ma mb mc md A n c))
  unfold pairC at HP
  clear hL hr hn
  go_enter Tryd.func5, Tryd.ntmps5
  go_wp2_with fail
  generalize w.alloc (.cells _ 55) = W0 at *
  go_cut [3] (fun s3 wx => ∃ bO, s3 = .pointer (some ⟨bO, 0, none⟩) ∧ Hid (MB w (pairC ma mb mc md A n c) bO (⟨⟨0, 0, 0, 0⟩, ⟨0, 0, 0, 0⟩, ma, mc⟩ : O) (⟨⟨0, 0, 0, 0⟩, ⟨0, 0, 0, 0⟩, mb, md⟩ : O) wx))
  case first =>
    refine wp_region_held_drew (S := fun W => MP w (pairC ma mb mc md A n c) W) (by kernel_rfl) HP.out.drew (fun hHeld => ?_)
    refine wpAnyH_take (i := 0) (oi := { dst := some 19, op := Op.fieldAddr 55 (Operand.tmp 1) 0, type := 0, pos := "law.go:97", after := #[], guard := none }) (v := .pointer (some ⟨w.heap.size, 0, none⟩)) rfl (by kernel_rfl) (by kernel_rfl) (by kernel_rfl) (fun _ _ _ h => h) (Or.inl ⟨by rfl, fun W hW => ?_⟩) hHeld ?_
    · go_simp
    simp only [Act.put, List.setIfInBounds_toArray, List.set_cons_zero, List.set_cons_succ]
    refine wpAnyH_take (i := 1) (oi := { dst := some 20, op := Op.indexAddr 52 (Operand.tmp 19) (Operand.const (Value.int IntKind.i64 0)), type := 0, pos := "law.go:97", after := #[{ on := 0, ground := Ground.data }], guard := none }) (v := .pointer (some ⟨w.heap.size, 0, none⟩)) rfl (by kernel_rfl) (by kernel_rfl) (by kernel_rfl) (fun _ _ _ h => h) (Or.inl ⟨by rfl, fun W hW => ?_⟩) hHeld ?_
    · go_simp
    simp only [Act.put, List.setIfInBounds_toArray, List.set_cons_zero, List.set_cons_succ]
    refine wpAnyH_take (i := 2) (oi := { dst := some 21, op := Op.load 23 (Operand.tmp 20), type := 23, pos := "law.go:97", after := #[{ on := 1, ground := Ground.data }], guard := none }) (v := .agg #[.bool ma.a, .bool ma.b, .bool ma.c, .bool ma.d]) rfl (by kernel_rfl) (by kernel_rfl) (by kernel_rfl) (fun _ _ _ h => h) (Or.inl ⟨by rfl, fun W hW => ?_⟩) hHeld ?_
    · have s0 : W.cell? ⟨w.heap.size, 0, none⟩ = some (.bool ma.a) := hW.pr.cell 0
      have s1 : W.cell? ⟨w.heap.size, 1, none⟩ = some (.bool ma.b) := hW.pr.cell 1
      have s2 : W.cell? ⟨w.heap.size, 2, none⟩ = some (.bool ma.c) := hW.pr.cell 2
      have s3 : W.cell? ⟨w.heap.size, 3, none⟩ = some (.bool ma.d) := hW.pr.cell 3
      clear hW
      go_simp
    simp only [Act.put, List.setIfInBounds_toArray, List.set_cons_zero, List.set_cons_succ]
    refine wpAnyH_take (i := 3) (oi := { dst := some 22, op := Op.fieldAddr 55 (Operand.tmp 1) 1, type := 0, pos := "law.go:97", after := #[], guard := none }) (v := .pointer (some ⟨w.heap.size, 8, none⟩)) rfl (by kernel_rfl) (by kernel_rfl) (by kernel_rfl) (fun _ _ _ h => h) (Or.inl ⟨by rfl, fun W hW => ?_⟩) hHeld ?_
    · go_simp
    simp only [Act.put, List.setIfInBounds_toArray, List.set_cons_zero, List.set_cons_succ]
    refine wpAnyH_take (i := 4) (oi := { dst := some 23, op := Op.indexAddr 52 (Operand.tmp 22) (Operand.const (Value.int IntKind.i64 0)), type := 0, pos := "law.go:97", after := #[{ on := 3, ground := Ground.data }], guard := none }) (v := .pointer (some ⟨w.heap.size, 8, none⟩)) rfl (by kernel_rfl) (by kernel_rfl) (by kernel_rfl) (fun _ _ _ h => h) (Or.inl ⟨by rfl, fun W hW => ?_⟩) hHeld ?_
    · go_simp
    simp only [Act.put, List.setIfInBounds_toArray, List.set_cons_zero, List.set_cons_succ]
    refine wpAnyH_take (i := 5) (oi := { dst := some 24, op := Op.load 23 (Operand.tmp 23), type := 23, pos := "law.go:97", after := #[{ on := 4, ground := Ground.data }], guard := none }) (v := .agg #[.bool mc.a, .bool mc.b, .bool mc.c, .bool mc.d]) rfl (by kernel_rfl) (by kernel_rfl) (by kernel_rfl) (fun _ _ _ h => h) (Or.inl ⟨by rfl, fun W hW => ?_⟩) hHeld ?_
    · have s0 : W.cell? ⟨w.heap.size, 8, none⟩ = some (.bool mc.a) := hW.pr.cell 8
      have s1 : W.cell? ⟨w.heap.size, 9, none⟩ = some (.bool mc.b) := hW.pr.cell 9
      have s2 : W.cell? ⟨w.heap.size, 10, none⟩ = some (.bool mc.c) := hW.pr.cell 10
      have s3 : W.cell? ⟨w.heap.size, 11, none⟩ = some (.bool mc.d) := hW.pr.cell 11
      clear hW
      go_simp
    simp only [Act.put, List.setIfInBounds_toArray, List.set_cons_zero, List.set_cons_succ]
    refine wpAnyH_take (i := 7) (oi := { dst := some 26, op := Op.fieldAddr 55 (Operand.tmp 1) 0, type := 0, pos := "law.go:97", after := #[], guard := none }) (v := .pointer (some ⟨w.heap.size, 0, none⟩)) rfl (by kernel_rfl) (by kernel_rfl) (by kernel_rfl) (fun _ _ _ h => h) (Or.inl ⟨by rfl, fun W hW => ?_⟩) hHeld ?_
    · go_simp
    simp only [Act.put, List.setIfInBounds_toArray, List.set_cons_zero, List.set_cons_succ]
    refine wpAnyH_take (i := 8) (oi := { dst := some 27, op := Op.indexAddr 52 (Operand.tmp 26) (Operand.const (Value.int IntKind.i64 1)), type := 0, pos := "law.go:97", after := #[{ on := 7, ground := Ground.data }], guard := none }) (v := .pointer (some ⟨w.heap.size, 4, none⟩)) rfl (by kernel_rfl) (by kernel_rfl) (by kernel_rfl) (fun _ _ _ h => h) (Or.inl ⟨by rfl, fun W hW => ?_⟩) hHeld ?_
    · go_simp
    simp only [Act.put, List.setIfInBounds_toArray, List.set_cons_zero, List.set_cons_succ]
    refine wpAnyH_take (i := 9) (oi := { dst := some 28, op := Op.load 23 (Operand.tmp 27), type := 23, pos := "law.go:97", after := #[{ on := 8, ground := Ground.data }], guard := none }) (v := .agg #[.bool mb.a, .bool mb.b, .bool mb.c, .bool mb.d]) rfl (by kernel_rfl) (by kernel_rfl) (by kernel_rfl) (fun _ _ _ h => h) (Or.inl ⟨by rfl, fun W hW => ?_⟩) hHeld ?_
    · have s0 : W.cell? ⟨w.heap.size, 4, none⟩ = some (.bool mb.a) := hW.pr.cell 4
      have s1 : W.cell? ⟨w.heap.size, 5, none⟩ = some (.bool mb.b) := hW.pr.cell 5
      have s2 : W.cell? ⟨w.heap.size, 6, none⟩ = some (.bool mb.c) := hW.pr.cell 6
      have s3 : W.cell? ⟨w.heap.size, 7, none⟩ = some (.bool mb.d) := hW.pr.cell 7
      clear hW
      go_simp
    simp only [Act.put, List.setIfInBounds_toArray, List.set_cons_zero, List.set_cons_succ]
    refine wpAnyH_take (i := 10) (oi := { dst := some 29, op := Op.fieldAddr 55 (Operand.tmp 1) 1, type := 0, pos := "law.go:97", after := #[], guard := none }) (v := .pointer (some ⟨w.heap.size, 8, none⟩)) rfl (by kernel_rfl) (by kernel_rfl) (by kernel_rfl) (fun _ _ _ h => h) (Or.inl ⟨by rfl, fun W hW => ?_⟩) hHeld ?_
    · go_simp
    simp only [Act.put, List.setIfInBounds_toArray, List.set_cons_zero, List.set_cons_succ]
    refine wpAnyH_take (i := 11) (oi := { dst := some 30, op := Op.indexAddr 52 (Operand.tmp 29) (Operand.const (Value.int IntKind.i64 1)), type := 0, pos := "law.go:97", after := #[{ on := 10, ground := Ground.data }], guard := none }) (v := .pointer (some ⟨w.heap.size, 12, none⟩)) rfl (by kernel_rfl) (by kernel_rfl) (by kernel_rfl) (fun _ _ _ h => h) (Or.inl ⟨by rfl, fun W hW => ?_⟩) hHeld ?_
    · go_simp
    simp only [Act.put, List.setIfInBounds_toArray, List.set_cons_zero, List.set_cons_succ]
    refine wpAnyH_take (i := 12) (oi := { dst := some 31, op := Op.load 23 (Operand.tmp 30), type := 23, pos := "law.go:97", after := #[{ on := 11, ground := Ground.data }], guard := none }) (v := .agg #[.bool md.a, .bool md.b, .bool md.c, .bool md.d]) rfl (by kernel_rfl) (by kernel_rfl) (by kernel_rfl) (fun _ _ _ h => h) (Or.inl ⟨by rfl, fun W hW => ?_⟩) hHeld ?_
    · have s0 : W.cell? ⟨w.heap.size, 12, none⟩ = some (.bool md.a) := hW.pr.cell 12
      have s1 : W.cell? ⟨w.heap.size, 13, none⟩ = some (.bool md.b) := hW.pr.cell 13
      have s2 : W.cell? ⟨w.heap.size, 14, none⟩ = some (.bool md.c) := hW.pr.cell 14
      have s3 : W.cell? ⟨w.heap.size, 15, none⟩ = some (.bool md.d) := hW.pr.cell 15
      clear hW
      go_simp
    simp only [Act.put, List.setIfInBounds_toArray, List.set_cons_zero, List.set_cons_succ]
    refine wpAnyH_ready (rs := [6, 15]) (by kernel_rfl) (by simp) ?_
    refine AllReadyH.cons (o := { dst := some 25, op := Op.call { callee := Callee.value (Operand.func 12), args := #[Operand.tmp 21, Operand.tmp 24], argTypes := #[23, 23] }, type := 25, pos := "law.go:97", after := #[{ on := 2, ground := Ground.data }, { on := 5, ground := Ground.data }], guard := none }) rfl (fun K hK => ?_) (AllReadyH.cons (o := { dst := some 3, op := Op.alloc 56, type := 0, pos := "law.go:97", after := #[], guard := none }) rfl (fun K hK => ?_) AllReadyH.nil)
    focus
      go_simp
      with_reducible refine (new_any ma mc _).mono ?_
      rintro en w1 ⟨rfl, hb_w1⟩
      have Hw1 := keepd (hHeld.call hb_w1)
      clear hb_w1
      refine hK.out _ _ Hw1.out (fun hHeld2 => ?_)
      clear hK K hHeld
      rename MP _ _ _ => hHeld
      try simp only [Act.put, List.setIfInBounds_toArray, List.set_cons_zero, List.set_cons_succ]
      refine wpAnyH_ready (rs := [13, 15]) (by kernel_rfl) (by simp) ?_
      refine AllReadyH.cons (o := { dst := some 32, op := Op.call { callee := Callee.value (Operand.func 12), args := #[Operand.tmp 28, Operand.tmp 31], argTypes := #[23, 23] }, type := 25, pos := "law.go:97", after := #[{ on := 9, ground := Ground.data }, { on := 12, ground := Ground.data }, { on := 6, ground := Ground.chain }], guard := none }) rfl (fun K hK => ?_) (AllReadyH.cons (o := { dst := some 3, op := Op.alloc 56, type := 0, pos := "law.go:97", after := #[], guard := none }) rfl (fun K hK => ?_) AllReadyH.nil)
      focus
        go_simp
        with_reducible refine (new_any mb md _).mono ?_
        rintro en w2 ⟨rfl, hb_w2⟩
        have Hw2 := keepd (hHeld.call hb_w2)
        clear hb_w2
        refine hK.out _ _ Hw2.out (fun hHeld2 => ?_)
        clear hK K hHeld
        rename MP _ _ _ => hHeld
        try simp only [Act.put, List.setIfInBounds_toArray, List.set_cons_zero, List.set_cons_succ]
        refine wpAnyH_take (i := 14) (oi := { dst := some 33, op := Op.build 56 #[(0, Operand.tmp 25), (1, Operand.tmp 32)], type := 56, pos := "law.go:97", after := #[{ on := 6, ground := Ground.data }, { on := 13, ground := Ground.data }], guard := none }) (v := .agg #[.int .i64 0, .int .i64 0, .int .i64 0, .int .i64 0, .int .i64 0, .int .i64 0, .int .i64 0, .int .i64 0, .bool ma.a, .bool ma.b, .bool ma.c, .bool ma.d, .bool mc.a, .bool mc.b, .bool mc.c, .bool mc.d, .int .i64 0, .int .i64 0, .int .i64 0, .int .i64 0, .int .i64 0, .int .i64 0, .int .i64 0, .int .i64 0, .bool mb.a, .bool mb.b, .bool mb.c, .bool mb.d, .bool md.a, .bool md.b, .bool md.c, .bool md.d]) rfl (by kernel_rfl) (by kernel_rfl) (by kernel_rfl) (fun _ _ _ h => h) (Or.inl ⟨by rfl, fun W hW => ?_⟩) hHeld ?_
        · go_simp
        simp only [Act.put, List.setIfInBounds_toArray, List.set_cons_zero, List.set_cons_succ]
        refine wpAnyH_ready (rs := [15]) (by kernel_rfl) (by simp) ?_
        refine AllReadyH.cons (o := { dst := some 3, op := Op.alloc 56, type := 0, pos := "law.go:97", after := #[], guard := none }) rfl (fun K hK => ?_) AllReadyH.nil
        go_simp
        refine hK.out _ _ (Hw2.out.alloc _) (fun hHeld2 => ?_)
        clear hK K hHeld
        rename MP _ _ _ => hHeld
        try simp only [Act.put, List.setIfInBounds_toArray, List.set_cons_zero, List.set_cons_succ]
        refine wpAnyH_ready (rs := [16]) (by kernel_rfl) (by simp) ?_
        refine AllReadyH.cons (o := { dst := none, op := Op.store 56 (Operand.tmp 3) (Operand.tmp 33), type := 0, pos := "law.go:97", after := #[{ on := 15, ground := Ground.data }, { on := 14, ground := Ground.data }, { on := 13, ground := Ground.chain }, { on := 0, ground := Ground.phase }, { on := 1, ground := Ground.phase }, { on := 2, ground := Ground.phase }, { on := 3, ground := Ground.phase }, { on := 4, ground := Ground.phase }, { on := 5, ground := Ground.phase }, { on := 6, ground := Ground.phase }, { on := 7, ground := Ground.phase }, { on := 8, ground := Ground.phase }, { on := 9, ground := Ground.phase }, { on := 10, ground := Ground.phase }, { on := 11, ground := Ground.phase }, { on := 12, ground := Ground.phase }, { on := 13, ground := Ground.phase }, { on := 14, ground := Ground.phase }, { on := 15, ground := Ground.phase }], guard := none }) rfl (fun K hK => ?_) AllReadyH.nil
        go_simp
        have HB := keepd (Hw2.out.both (⟨⟨0, 0, 0, 0⟩, ⟨0, 0, 0, 0⟩, ma, mc⟩ : O) (⟨⟨0, 0, 0, 0⟩, ⟨0, 0, 0, 0⟩, mb, md⟩ : O))
        refine hK.out _ _ ⟨HB.out.pr, HB.out.bel⟩ (fun hHeld2 => ?_)
        clear hK K hHeld
        rename MP _ _ _ => hHeld
        try simp only [Act.put, List.setIfInBounds_toArray, List.set_cons_zero, List.set_cons_succ]
        refine wpAnyH_done (by kernel_rfl) ?_ _
        go_wp2_with fail
        go_meet
        exact ⟨_, rfl, HB⟩
      focus
        go_simp
        have HA := keepd (Hw1.out.alloc (.cells (List.toArray [.int .i64 0, .int .i64 0, .int .i64 0, .int .i64 0, .int .i64 0, .int .i64 0, .int .i64 0, .int .i64 0, .bool false, .bool false, .bool false, .bool false, .bool false, .bool false, .bool false, .bool false, .int .i64 0, .int .i64 0, .int .i64 0, .int .i64 0, .int .i64 0, .int .i64 0, .int .i64 0, .int .i64 0, .bool false, .bool false, .bool false, .bool false, .bool false, .bool false, .bool false, .bool false]) 56))
        have HZ := keepd (SR.new 56 w1 [.int .i64 0, .int .i64 0, .int .i64 0, .int .i64 0, .int .i64 0, .int .i64 0, .int .i64 0, .int .i64 0, .bool false, .bool false, .bool false, .bool false, .bool false, .bool false, .bool false, .bool false, .int .i64 0, .int .i64 0, .int .i64 0, .int .i64 0, .int .i64 0, .int .i64 0, .int .i64 0, .int .i64 0, .bool false, .bool false, .bool false, .bool false, .bool false, .bool false, .bool false, .bool false])
        refine hK.out _ _ HA.out (fun hHeld2 => ?_)
        clear hK K hHeld
        rename MP _ _ _ => hHeld
        try simp only [Act.put, List.setIfInBounds_toArray, List.set_cons_zero, List.set_cons_succ]
        refine wpAnyH_ready (rs := [13]) (by kernel_rfl) (by simp) ?_
        refine AllReadyH.cons (o := { dst := some 32, op := Op.call { callee := Callee.value (Operand.func 12), args := #[Operand.tmp 28, Operand.tmp 31], argTypes := #[23, 23] }, type := 25, pos := "law.go:97", after := #[{ on := 9, ground := Ground.data }, { on := 12, ground := Ground.data }, { on := 6, ground := Ground.chain }], guard := none }) rfl (fun K hK => ?_) AllReadyH.nil
        go_simp
        with_reducible refine (new_any mb md _).mono ?_
        rintro en w2 ⟨rfl, hb_w2⟩
        have Hw2 := keepd (hHeld.call hb_w2)
        have HZ2 := keepd (HZ.out.call hb_w2 HZ.out.lt)
        have h56 := (HZ2.out.facts 32 rfl).2
        clear hb_w2
        refine hK.out _ _ Hw2.out (fun hHeld2 => ?_)
        clear hK K hHeld
        rename MP _ _ _ => hHeld
        try simp only [Act.put, List.setIfInBounds_toArray, List.set_cons_zero, List.set_cons_succ]
        refine wpAnyH_take (i := 14) (oi := { dst := some 33, op := Op.build 56 #[(0, Operand.tmp 25), (1, Operand.tmp 32)], type := 56, pos := "law.go:97", after := #[{ on := 6, ground := Ground.data }, { on := 13, ground := Ground.data }], guard := none }) (v := .agg #[.int .i64 0, .int .i64 0, .int .i64 0, .int .i64 0, .int .i64 0, .int .i64 0, .int .i64 0, .int .i64 0, .bool ma.a, .bool ma.b, .bool ma.c, .bool ma.d, .bool mc.a, .bool mc.b, .bool mc.c, .bool mc.d, .int .i64 0, .int .i64 0, .int .i64 0, .int .i64 0, .int .i64 0, .int .i64 0, .int .i64 0, .int .i64 0, .bool mb.a, .bool mb.b, .bool mb.c, .bool mb.d, .bool md.a, .bool md.b, .bool md.c, .bool md.d]) rfl (by kernel_rfl) (by kernel_rfl) (by kernel_rfl) (fun _ _ _ h => h) (Or.inl ⟨by rfl, fun W hW => ?_⟩) hHeld ?_
        · go_simp
        simp only [Act.put, List.setIfInBounds_toArray, List.set_cons_zero, List.set_cons_succ]
        refine wpAnyH_ready (rs := [16]) (by kernel_rfl) (by simp) ?_
        refine AllReadyH.cons (o := { dst := none, op := Op.store 56 (Operand.tmp 3) (Operand.tmp 33), type := 0, pos := "law.go:97", after := #[{ on := 15, ground := Ground.data }, { on := 14, ground := Ground.data }, { on := 13, ground := Ground.chain }, { on := 0, ground := Ground.phase }, { on := 1, ground := Ground.phase }, { on := 2, ground := Ground.phase }, { on := 3, ground := Ground.phase }, { on := 4, ground := Ground.phase }, { on := 5, ground := Ground.phase }, { on := 6, ground := Ground.phase }, { on := 7, ground := Ground.phase }, { on := 8, ground := Ground.phase }, { on := 9, ground := Ground.phase }, { on := 10, ground := Ground.phase }, { on := 11, ground := Ground.phase }, { on := 12, ground := Ground.phase }, { on := 13, ground := Ground.phase }, { on := 14, ground := Ground.phase }, { on := 15, ground := Ground.phase }], guard := none }) rfl (fun K hK => ?_) AllReadyH.nil
        go_simp
        have HB := keepd (Hw2.out.put HZ2.out Hw1.out.pr.lt (⟨⟨0, 0, 0, 0⟩, ⟨0, 0, 0, 0⟩, ma, mc⟩ : O) (⟨⟨0, 0, 0, 0⟩, ⟨0, 0, 0, 0⟩, mb, md⟩ : O))
        refine hK.out _ _ ⟨HB.out.pr, HB.out.bel⟩ (fun hHeld2 => ?_)
        clear hK K hHeld
        rename MP _ _ _ => hHeld
        try simp only [Act.put, List.setIfInBounds_toArray, List.set_cons_zero, List.set_cons_succ]
        refine wpAnyH_done (by kernel_rfl) ?_ _
        go_wp2_with fail
        go_meet
        exact ⟨_, rfl, HB⟩
    focus
      go_simp
      have HA := keepd (MP.drew (HP.out.alloc (.cells (List.toArray [.int .i64 0, .int .i64 0, .int .i64 0, .int .i64 0, .int .i64 0, .int .i64 0, .int .i64 0, .int .i64 0, .bool false, .bool false, .bool false, .bool false, .bool false, .bool false, .bool false, .bool false, .int .i64 0, .int .i64 0, .int .i64 0, .int .i64 0, .int .i64 0, .int .i64 0, .int .i64 0, .int .i64 0, .bool false, .bool false, .bool false, .bool false, .bool false, .bool false, .bool false, .bool false]) 56)))
      have HZ := keepd (SR.new 56 W0.drew [.int .i64 0, .int .i64 0, .int .i64 0, .int .i64 0, .int .i64 0, .int .i64 0, .int .i64 0, .int .i64 0, .bool false, .bool false, .bool false, .bool false, .bool false, .bool false, .bool false, .bool false, .int .i64 0, .int .i64 0, .int .i64 0, .int .i64 0, .int .i64 0, .int .i64 0, .int .i64 0, .int .i64 0, .bool false, .bool false, .bool false, .bool false, .bool false, .bool false, .bool false, .bool false])
      refine hK.out _ _ HA.out (fun hHeld2 => ?_)
      clear hK K hHeld
      rename MP _ _ _ => hHeld
      try simp only [Act.put, List.setIfInBounds_toArray, List.set_cons_zero, List.set_cons_succ]
      refine wpAnyH_ready (rs := [6]) (by kernel_rfl) (by simp) ?_
      refine AllReadyH.cons (o := { dst := some 25, op := Op.call { callee := Callee.value (Operand.func 12), args := #[Operand.tmp 21, Operand.tmp 24], argTypes := #[23, 23] }, type := 25, pos := "law.go:97", after := #[{ on := 2, ground := Ground.data }, { on := 5, ground := Ground.data }], guard := none }) rfl (fun K hK => ?_) AllReadyH.nil
      go_simp
      with_reducible refine (new_any ma mc _).mono ?_
      rintro en w1 ⟨rfl, hb_w1⟩
      have Hw1 := keepd (hHeld.call hb_w1)
      have HZ1 := keepd (HZ.out.call hb_w1 HZ.out.lt)
      clear hb_w1
      refine hK.out _ _ Hw1.out (fun hHeld2 => ?_)
      clear hK K hHeld
      rename MP _ _ _ => hHeld
      try simp only [Act.put, List.setIfInBounds_toArray, List.set_cons_zero, List.set_cons_succ]
      refine wpAnyH_ready (rs := [13]) (by kernel_rfl) (by simp) ?_
      refine AllReadyH.cons (o := { dst := some 32, op := Op.call { callee := Callee.value (Operand.func 12), args := #[Operand.tmp 28, Operand.tmp 31], argTypes := #[23, 23] }, type := 25, pos := "law.go:97", after := #[{ on := 9, ground := Ground.data }, { on := 12, ground := Ground.data }, { on := 6, ground := Ground.chain }], guard := none }) rfl (fun K hK => ?_) AllReadyH.nil
      go_simp
      with_reducible refine (new_any mb md _).mono ?_
      rintro en w2 ⟨rfl, hb_w2⟩
      have Hw2 := keepd (hHeld.call hb_w2)
      have HZ2 := keepd (HZ1.out.call hb_w2 HZ1.out.lt)
      have h56 : isRow w2 56 W0.heap.size 32 = true := (HZ2.out.facts 32 rfl).2
      clear hb_w2
      refine hK.out _ _ Hw2.out (fun hHeld2 => ?_)
      clear hK K hHeld
      rename MP _ _ _ => hHeld
      try simp only [Act.put, List.setIfInBounds_toArray, List.set_cons_zero, List.set_cons_succ]
      refine wpAnyH_take (i := 14) (oi := { dst := some 33, op := Op.build 56 #[(0, Operand.tmp 25), (1, Operand.tmp 32)], type := 56, pos := "law.go:97", after := #[{ on := 6, ground := Ground.data }, { on := 13, ground := Ground.data }], guard := none }) (v := .agg #[.int .i64 0, .int .i64 0, .int .i64 0, .int .i64 0, .int .i64 0, .int .i64 0, .int .i64 0, .int .i64 0, .bool ma.a, .bool ma.b, .bool ma.c, .bool ma.d, .bool mc.a, .bool mc.b, .bool mc.c, .bool mc.d, .int .i64 0, .int .i64 0, .int .i64 0, .int .i64 0, .int .i64 0, .int .i64 0, .int .i64 0, .int .i64 0, .bool mb.a, .bool mb.b, .bool mb.c, .bool mb.d, .bool md.a, .bool md.b, .bool md.c, .bool md.d]) rfl (by kernel_rfl) (by kernel_rfl) (by kernel_rfl) (fun _ _ _ h => h) (Or.inl ⟨by rfl, fun W hW => ?_⟩) hHeld ?_
      · go_simp
      simp only [Act.put, List.setIfInBounds_toArray, List.set_cons_zero, List.set_cons_succ]
      refine wpAnyH_ready (rs := [16]) (by kernel_rfl) (by simp) ?_
      refine AllReadyH.cons (o := { dst := none, op := Op.store 56 (Operand.tmp 3) (Operand.tmp 33), type := 0, pos := "law.go:97", after := #[{ on := 15, ground := Ground.data }, { on := 14, ground := Ground.data }, { on := 13, ground := Ground.chain }, { on := 0, ground := Ground.phase }, { on := 1, ground := Ground.phase }, { on := 2, ground := Ground.phase }, { on := 3, ground := Ground.phase }, { on := 4, ground := Ground.phase }, { on := 5, ground := Ground.phase }, { on := 6, ground := Ground.phase }, { on := 7, ground := Ground.phase }, { on := 8, ground := Ground.phase }, { on := 9, ground := Ground.phase }, { on := 10, ground := Ground.phase }, { on := 11, ground := Ground.phase }, { on := 12, ground := Ground.phase }, { on := 13, ground := Ground.phase }, { on := 14, ground := Ground.phase }, { on := 15, ground := Ground.phase }], guard := none }) rfl (fun K hK => ?_) AllReadyH.nil
      go_simp
      have HB := keepd (Hw2.out.put HZ2.out HP.out.pr.lt (⟨⟨0, 0, 0, 0⟩, ⟨0, 0, 0, 0⟩, ma, mc⟩ : O) (⟨⟨0, 0, 0, 0⟩, ⟨0, 0, 0, 0⟩, mb, md⟩ : O))
      refine hK.out _ _ ⟨HB.out.pr, HB.out.bel⟩ (fun hHeld2 => ?_)
      clear hK K hHeld
      rename MP _ _ _ => hHeld
      try simp only [Act.put, List.setIfInBounds_toArray, List.set_cons_zero, List.set_cons_succ]
      refine wpAnyH_done (by kernel_rfl) ?_ _
      go_wp2_with fail
      go_meet
      exact ⟨_, rfl, HB⟩
  case rest =>
  obtain ⟨bO, rfl, HB⟩ := hcut
  have HJ := keepd HB.out.start
  go_wp2_with fail
  refine wp_loop_ghost (c := metBody1) (fun M f wr => ∃ k, M = 61 - k ∧ MetI w (pairC ma mb mc md A n c) n k f wr) 61 ⟨0, rfl, bO, _, 0, 0, (⟨⟨0, 0, 0, 0⟩, ⟨0, 0, 0, 0⟩, ma, mc⟩ : O), (⟨⟨0, 0, 0, 0⟩, ⟨0, 0, 0, 0⟩, mb, md⟩ : O), _, _, [], [], ⟨rfl, rfl, rfl, rfl, rfl, rfl, rfl⟩, rfl, by omega, by omega, by omega, by simp, HJ.out, Meets.start ma mb mc md⟩ ?_
  rintro M f wr ⟨k, rfl, hI⟩
  refine met_round ma mb mc md A l n c HN.out w HL.out HR.out k f wr hI _ _ _ (fun a' w' h h1 => ⟨61 - (k + 1), by omega, k + 1, rfl, h⟩) ?_
  clear hI HJ HB HP
  intro a' w' hI
  have hf : a'.defers = [] ∧ a'.tmps.size = 260 := by
    obtain ⟨_, _, _, _, _, _, _, _, _, _, ⟨h1, h2, _⟩, _⟩ := hI
    exact ⟨h1, h2⟩
  refine actK (q := fun a' => MetI w (pairC ma mb mc md A n c) n k a' w') ?_ a' hf.1 hf.2 hI
  clear hI hf a'
  intro u0 u1 u2 u3 u4 u5 u6 u7 u8 u9 u10 u11 u12 u13 u14 u15 u16 u17 u18 u19 u20 u21 u22 u23 u24 u25 u26 u27 u28 u29 u30 u31 u32 u33 u34 u35 u36 u37 u38 u39 u40 u41 u42 u43 u44 u45 u46 u47 u48 u49 u50 u51 u52 u53 u54 u55 u56 u57 u58 u59 u60 u61 u62 u63 u64 u65 u66 u67 u68 u69 u70 u71 u72 u73 u74 u75 u76 u77 u78 u79 u80 u81 u82 u83 u84 u85 u86 u87 u88 u89 u90 u91 u92 u93 u94 u95 u96 u97 u98 u99 u100 u101 u102 u103 u104 u105 u106 u107 u108 u109 u110 u111 u112 u113 u114 u115 u116 u117 u118 u119 u120 u121 u122 u123 u124 u125 u126 u127 u128 u129 u130 u131 u132 u133 u134 u135 u136 u137 u138 u139 u140 u141 u142 u143 u144 u145 u146 u147 u148 u149 u150 u151 u152 u153 u154 u155 u156 u157 u158 u159 u160 u161 u162 u163 u164 u165 u166 u167 u168 u169 u170 u171 u172 u173 u174 u175 u176 u177 u178 u179 u180 u181 u182 u183 u184 u185 u186 u187 u188 u189 u190 u191 u192 u193 u194 u195 u196 u197 u198 u199 u200 u201 u202 u203 u204 u205 u206 u207 u208 u209 u210 u211 u212 u213 u214 u215 u216 u217 u218 u219 u220 u221 u222 u223 u224 u225 u226 u227 u228 u229 u230 u231 u232 u233 u234 u235 u236 u237 u238 u239 u240 u241 u242 u243 u244 u245 u246 u247 u248 u249 u250 u251 u252 u253 u254 u255 u256 u257 u258 u259 hI
  obtain ⟨bO, bT, asked, said, OA, OB, v0, v1, s, t, ⟨_, _, f1, f3, f4, f5, f6⟩, _, _, hk60, hak, hst, hJ, hM⟩ := hI
  obtain rfl : u1 = _ := Option.some.inj f1
  obtain rfl : u3 = _ := Option.some.inj f3
  obtain rfl : u4 = _ := Option.some.inj f4
  obtain rfl : u5 = _ := Option.some.inj f5
  obtain rfl : u6 = _ := Option.some.inj f6
  have HJ := keepd hJ
  have HM := keepd hM
  clear f1 f3 f4 f5 f6 hJ hM
  go_wp2_with fail
  refine wp_loop_ghost (c := metBody2) (fun M f wr => ∃ m, M = 121 - m ∧ MetD w (pairC ma mb mc md A n c) m f wr) 121 ⟨0, rfl, bO, bT, asked, said, OA, OB, v0, v1, s, t, ⟨rfl, rfl, rfl, rfl, rfl, rfl, rfl⟩, rfl, by omega, by omega, HJ.out, HM.out⟩ ?_
  clear HJ HM
  rintro M f w2 ⟨m, rfl, hI⟩
  have hm5 : m ≤ 120 := by
    obtain ⟨_, _, asked, _, _, _, _, _, _, _, _, _, h1, h2, _, h3⟩ := hI
    have := h3.said_le
    omega
  refine dr_round ma mb mc md A n c w HL.out m f w2 hI _ _ _ (fun a' w' h => ⟨121 - (m + 1), by omega, m + 1, rfl, h⟩) ?_
  clear hI
  intro a' w3 hI
  have hf : a'.defers = [] ∧ a'.tmps.size = 260 := by
    obtain ⟨_, _, _, _, _, _, _, _, ⟨h1, h2, _⟩, _⟩ := hI
    exact ⟨h1, h2⟩
  refine actK (q := fun a' => MetE0 w (pairC ma mb mc md A n c) a' w3) ?_ a' hf.1 hf.2 hI
  clear hI hf a'
  intro y0 y1 y2 y3 y4 y5 y6 y7 y8 y9 y10 y11 y12 y13 y14 y15 y16 y17 y18 y19 y20 y21 y22 y23 y24 y25 y26 y27 y28 y29 y30 y31 y32 y33 y34 y35 y36 y37 y38 y39 y40 y41 y42 y43 y44 y45 y46 y47 y48 y49 y50 y51 y52 y53 y54 y55 y56 y57 y58 y59 y60 y61 y62 y63 y64 y65 y66 y67 y68 y69 y70 y71 y72 y73 y74 y75 y76 y77 y78 y79 y80 y81 y82 y83 y84 y85 y86 y87 y88 y89 y90 y91 y92 y93 y94 y95 y96 y97 y98 y99 y100 y101 y102 y103 y104 y105 y106 y107 y108 y109 y110 y111 y112 y113 y114 y115 y116 y117 y118 y119 y120 y121 y122 y123 y124 y125 y126 y127 y128 y129 y130 y131 y132 y133 y134 y135 y136 y137 y138 y139 y140 y141 y142 y143 y144 y145 y146 y147 y148 y149 y150 y151 y152 y153 y154 y155 y156 y157 y158 y159 y160 y161 y162 y163 y164 y165 y166 y167 y168 y169 y170 y171 y172 y173 y174 y175 y176 y177 y178 y179 y180 y181 y182 y183 y184 y185 y186 y187 y188 y189 y190 y191 y192 y193 y194 y195 y196 y197 y198 y199 y200 y201 y202 y203 y204 y205 y206 y207 y208 y209 y210 y211 y212 y213 y214 y215 y216 y217 y218 y219 y220 y221 y222 y223 y224 y225 y226 y227 y228 y229 y230 y231 y232 y233 y234 y235 y236 y237 y238 y239 y240 y241 y242 y243 y244 y245 y246 y247 y248 y249 y250 y251 y252 y253 y254 y255 y256 y257 y258 y259 hI
  obtain ⟨bO2, bT2, asked2, said2, OA2, OB2, v2, v3, ⟨_, _, f1, f3, f4, f5, f6⟩, hak2, hJ, hM⟩ := hI
  obtain rfl : y1 = _ := Option.some.inj f1
  obtain rfl : y3 = _ := Option.some.inj f3
  obtain rfl : y4 = _ := Option.some.inj f4
  obtain rfl : y5 = _ := Option.some.inj f5
  obtain rfl : y6 = _ := Option.some.inj f6
  have HJ := keepd hJ
  have HM := keepd hM
  clear f1 f3 f4 f5 f6 hJ hM
  go_wp2_with fail
  refine wp_loop_ghost (c := metBody3) (fun M f wr => ∃ i, M = 5 - i ∧ MetE w (pairC ma mb mc md A n c) i f wr) 5 ⟨0, rfl, bO2, bT2, asked2, said2, OA2, OB2, v2, v3, ⟨rfl, rfl, rfl, rfl, rfl, rfl, rfl⟩, rfl, by omega, hak2, HJ.out, HM.out⟩ ?_
  clear HJ HM
  rintro M f w4 ⟨i, rfl, hI⟩
  have hi4 : i ≤ 4 := by
    obtain ⟨_, _, _, _, _, _, _, _, _, _, h, _⟩ := hI
    exact h
  refine cmp_round ma mb mc md A n c w i f w4 hI _ _ _ (fun a' w' h => ⟨5 - (i + 1), by omega, i + 1, rfl, h⟩) ?_
  clear hI
  intro a' w5 hI
  have hf : a'.defers = [] ∧ a'.tmps.size = 260 := by
    obtain ⟨_, _, _, _, _, _, _, _, ⟨h1, h2, _⟩, _⟩ := hI
    exact ⟨h1, h2⟩
  refine actK (q := fun a' => MetE0 w (pairC ma mb mc md A n c) a' w5) ?_ a' hf.1 hf.2 hI
  clear hI hf a'
  intro z0 z1 z2 z3 z4 z5 z6 z7 z8 z9 z10 z11 z12 z13 z14 z15 z16 z17 z18 z19 z20 z21 z22 z23 z24 z25 z26 z27 z28 z29 z30 z31 z32 z33 z34 z35 z36 z37 z38 z39 z40 z41 z42 z43 z44 z45 z46 z47 z48 z49 z50 z51 z52 z53 z54 z55 z56 z57 z58 z59 z60 z61 z62 z63 z64 z65 z66 z67 z68 z69 z70 z71 z72 z73 z74 z75 z76 z77 z78 z79 z80 z81 z82 z83 z84 z85 z86 z87 z88 z89 z90 z91 z92 z93 z94 z95 z96 z97 z98 z99 z100 z101 z102 z103 z104 z105 z106 z107 z108 z109 z110 z111 z112 z113 z114 z115 z116 z117 z118 z119 z120 z121 z122 z123 z124 z125 z126 z127 z128 z129 z130 z131 z132 z133 z134 z135 z136 z137 z138 z139 z140 z141 z142 z143 z144 z145 z146 z147 z148 z149 z150 z151 z152 z153 z154 z155 z156 z157 z158 z159 z160 z161 z162 z163 z164 z165 z166 z167 z168 z169 z170 z171 z172 z173 z174 z175 z176 z177 z178 z179 z180 z181 z182 z183 z184 z185 z186 z187 z188 z189 z190 z191 z192 z193 z194 z195 z196 z197 z198 z199 z200 z201 z202 z203 z204 z205 z206 z207 z208 z209 z210 z211 z212 z213 z214 z215 z216 z217 z218 z219 z220 z221 z222 z223 z224 z225 z226 z227 z228 z229 z230 z231 z232 z233 z234 z235 z236 z237 z238 z239 z240 z241 z242 z243 z244 z245 z246 z247 z248 z249 z250 z251 z252 z253 z254 z255 z256 z257 z258 z259 hI
  obtain ⟨bO3, bT3, asked3, said3, OA3, OB3, v4, v5, ⟨_, _, f1, f3, f4, f5, f6⟩, hak3, hJ, hM⟩ := hI
  obtain rfl : z1 = _ := Option.some.inj f1
  obtain rfl : z3 = _ := Option.some.inj f3
  obtain rfl : z4 = _ := Option.some.inj f4
  obtain rfl : z5 = _ := Option.some.inj f5
  obtain rfl : z6 = _ := Option.some.inj f6
  obtain ⟨A4, c4, rfl, _, _⟩ := hJ.len0
  obtain ⟨A5, c5, rfl, _, _⟩ := hJ.len1
  obtain ⟨⟨t0, t1⟩, _⟩ := hJ.ft
  simp only [List.length_nil] at t0 t1
  have hsa := hM.said_le
  have j1 : decide ((said3 : Int) ≤ 2 * (asked3 : Int)) = true := by simp; omega
  have HB := keepd hJ.bel
  have HL3 := keepd (show Laid w5 from (HL.out.below hJ.bel).1)
  clear f1 f3 f4 f5 f6 hJ hM
  go_wp2_with (go_at_call 18; with_reducible refine (awake_any _ HL3.out).mono ?_; rintro e w6 ⟨rfl, hb6⟩)
  go_ret
  exact ⟨rfl, bCall HB.out hb6⟩

end Go.Proofs.YtlgcfpdmklieiaaDoor
