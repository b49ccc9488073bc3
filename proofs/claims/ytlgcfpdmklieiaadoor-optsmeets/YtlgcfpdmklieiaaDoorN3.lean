/-
  OptsMeets: the third loop, and what it ends with.
-/
import Derived.Test.YtlgcfpdmklieiaaDoorN0
import Derived.BigQuiet
namespace Go.Proofs.YtlgcfpdmklieiaaDoor
open Go.RowKit

set_option maxRecDepth 100000 in
set_option maxHeartbeats 4000000 in
theorem cmp_end (bO bT n c asked said : Nat) (ma mb mc md : Four Bool) (AL : Option Addr) (A B : O) (v0 v1 : Value) (i : Nat) (w wr : World) (hJ : MJ w (pairC ma mb mc md AL n c) bO bT A B v0 v1 [] [] wr) (hM : Meets A B [] [] said asked) (hi : i ≤ 4) (hak : asked ≤ 60) (K KX : Act → World → Prop) (Post : Ending → World → Prop) (h : 4 ≤ i) (hX : ∀ a', MetE0 w (pairC ma mb mc md AL n c) a' wr → KX a' wr)
    (u0 u2 u7 u8 u9 u10 u11 u12 u13 u14 u15 u16 u17 u19 u20 u21 u22 u23 u24 u25 u26 u27 u28 u29 u30 u31 u32 u33 u34 u35 u36 u37 u38 u39 u40 u41 u42 u43 u44 u45 u46 u47 u48 u49 u50 u51 u52 u53 u54 u55 u56 u57 u58 u59 u60 u61 u62 u63 u64 u65 u66 u67 u68 u69 u70 u71 u72 u73 u74 u75 u76 u77 u78 u79 u80 u81 u82 u83 u84 u85 u86 u87 u88 u89 u90 u91 u92 u93 u94 u95 u96 u97 u98 u99 u100 u101 u102 u103 u104 u105 u106 u107 u108 u109 u110 u111 u112 u113 u114 u115 u116 u117 u118 u119 u120 u121 u122 u123 u124 u125 u126 u127 u128 u129 u130 u131 u132 u133 u134 u135 u136 u137 u138 u139 u140 u141 u142 u143 u144 u145 u146 u147 u148 u149 u150 u151 u152 u153 u154 u155 u156 u157 u158 u159 u160 u161 u162 u163 u164 u165 u166 u167 u168 u169 u170 u171 u172 u173 u174 u175 u176 u177 u178 u179 u180 u181 u182 u183 u184 u185 u186 u187 u188 u189 u190 u191 u192 u193 u194 u195 u196 u197 u198 u199 u200 u201 u202 u203 u204 u205 u206 u207 u208 u209 u210 u211 u212 u213 u214 u215 u216 u217 u218 u219 u220 u221 u222 u223 u224 u225 u226 u227 u228 u229 u230 u231 u232 u233 u234 u235 u236 u237 u238 u239 u240 u241 u242 u243 u244 u245 u246 u247 u248 u249 u250 u251 u252 u253 u254 u255 u256 u257 u258 u259 : Value) :
    Code.wp Tryd.prog metBody3 (Exit.then K (Exit.inBlock 4 (Exit.then KX (bodyPost Tryd.prog Tryd.f5 Post)))) ⟨#[u0, .pointer (some ⟨w.heap.size, 0, none⟩), u2, .pointer (some ⟨bO, 0, none⟩), .pointer (some ⟨bT, 0, none⟩), .int .i64 asked, .int .i64 said, u7, u8, u9, u10, u11, u12, u13, u14, u15, u16, u17, .int .i64 i, u19, u20, u21, u22, u23, u24, u25, u26, u27, u28, u29, u30, u31, u32, u33, u34, u35, u36, u37, u38, u39, u40, u41, u42, u43, u44, u45, u46, u47, u48, u49, u50, u51, u52, u53, u54, u55, u56, u57, u58, u59, u60, u61, u62, u63, u64, u65, u66, u67, u68, u69, u70, u71, u72, u73, u74, u75, u76, u77, u78, u79, u80, u81, u82, u83, u84, u85, u86, u87, u88, u89, u90, u91, u92, u93, u94, u95, u96, u97, u98, u99, u100, u101, u102, u103, u104, u105, u106, u107, u108, u109, u110, u111, u112, u113, u114, u115, u116, u117, u118, u119, u120, u121, u122, u123, u124, u125, u126, u127, u128, u129, u130, u131, u132, u133, u134, u135, u136, u137, u138, u139, u140, u141, u142, u143, u144, u145, u146, u147, u148, u149, u150, u151, u152, u153, u154, u155, u156, u157, u158, u159, u160, u161, u162, u163, u164, u165, u166, u167, u168, u169, u170, u171, u172, u173, u174, u175, u176, u177, u178, u179, u180, u181, u182, u183, u184, u185, u186, u187, u188, u189, u190, u191, u192, u193, u194, u195, u196, u197, u198, u199, u200, u201, u202, u203, u204, u205, u206, u207, u208, u209, u210, u211, u212, u213, u214, u215, u216, u217, u218, u219, u220, u221, u222, u223, u224, u225, u226, u227, u228, u229, u230, u231, u232, u233, u234, u235, u236, u237, u238, u239, u240, u241, u242, u243, u244, u245, u246, u247, u248, u249, u250, u251, u252, u253, u254, u255, u256, u257, u258, u259], []⟩ wr := by
  have HX := keepd hX
  have HJ := keepd hJ
  have HM := keepd hM
  have i1 : decide ((i : Int) < 4) = false := by simp; omega
  clear hX hJ hM
  conv => arg 2; whnf
  go_wp2
  refine HX.out _ ?_
  exact ⟨bO, bT, asked, said, A, B, _, _, ⟨rfl, rfl, rfl, rfl, rfl, rfl, rfl⟩, hak, HJ.out, HM.out⟩

set_option maxRecDepth 100000 in
set_option maxHeartbeats 4000000 in
theorem cmp0 (bO bT n c asked said : Nat) (ma mb mc md : Four Bool) (AL : Option Addr) (A B : O) (v0 v1 : Value) (w wr : World) (hJ : MJ w (pairC ma mb mc md AL n c) bO bT A B v0 v1 [] [] wr) (hM : Meets A B [] [] said asked) (hak : asked ≤ 60) (K KX : Act → World → Prop) (Post : Ending → World → Prop) (hK : ∀ a' w', MetE w (pairC ma mb mc md AL n c) 1 a' w' → K a' w')
    (u0 u2 u7 u8 u9 u10 u11 u12 u13 u14 u15 u16 u17 u19 u20 u21 u22 u23 u24 u25 u26 u27 u28 u29 u30 u31 u32 u33 u34 u35 u36 u37 u38 u39 u40 u41 u42 u43 u44 u45 u46 u47 u48 u49 u50 u51 u52 u53 u54 u55 u56 u57 u58 u59 u60 u61 u62 u63 u64 u65 u66 u67 u68 u69 u70 u71 u72 u73 u74 u75 u76 u77 u78 u79 u80 u81 u82 u83 u84 u85 u86 u87 u88 u89 u90 u91 u92 u93 u94 u95 u96 u97 u98 u99 u100 u101 u102 u103 u104 u105 u106 u107 u108 u109 u110 u111 u112 u113 u114 u115 u116 u117 u118 u119 u120 u121 u122 u123 u124 u125 u126 u127 u128 u129 u130 u131 u132 u133 u134 u135 u136 u137 u138 u139 u140 u141 u142 u143 u144 u145 u146 u147 u148 u149 u150 u151 u152 u153 u154 u155 u156 u157 u158 u159 u160 u161 u162 u163 u164 u165 u166 u167 u168 u169 u170 u171 u172 u173 u174 u175 u176 u177 u178 u179 u180 u181 u182 u183 u184 u185 u186 u187 u188 u189 u190 u191 u192 u193 u194 u195 u196 u197 u198 u199 u200 u201 u202 u203 u204 u205 u206 u207 u208 u209 u210 u211 u212 u213 u214 u215 u216 u217 u218 u219 u220 u221 u222 u223 u224 u225 u226 u227 u228 u229 u230 u231 u232 u233 u234 u235 u236 u237 u238 u239 u240 u241 u242 u243 u244 u245 u246 u247 u248 u249 u250 u251 u252 u253 u254 u255 u256 u257 u258 u259 : Value) :
    Code.wp Tryd.prog metBody3 (Exit.then K (Exit.inBlock 4 (Exit.then KX (bodyPost Tryd.prog Tryd.f5 Post)))) ⟨#[u0, .pointer (some ⟨w.heap.size, 0, none⟩), u2, .pointer (some ⟨bO, 0, none⟩), .pointer (some ⟨bT, 0, none⟩), .int .i64 asked, .int .i64 said, u7, u8, u9, u10, u11, u12, u13, u14, u15, u16, u17, .int .i64 0, u19, u20, u21, u22, u23, u24, u25, u26, u27, u28, u29, u30, u31, u32, u33, u34, u35, u36, u37, u38, u39, u40, u41, u42, u43, u44, u45, u46, u47, u48, u49, u50, u51, u52, u53, u54, u55, u56, u57, u58, u59, u60, u61, u62, u63, u64, u65, u66, u67, u68, u69, u70, u71, u72, u73, u74, u75, u76, u77, u78, u79, u80, u81, u82, u83, u84, u85, u86, u87, u88, u89, u90, u91, u92, u93, u94, u95, u96, u97, u98, u99, u100, u101, u102, u103, u104, u105, u106, u107, u108, u109, u110, u111, u112, u113, u114, u115, u116, u117, u118, u119, u120, u121, u122, u123, u124, u125, u126, u127, u128, u129, u130, u131, u132, u133, u134, u135, u136, u137, u138, u139, u140, u141, u142, u143, u144, u145, u146, u147, u148, u149, u150, u151, u152, u153, u154, u155, u156, u157, u158, u159, u160, u161, u162, u163, u164, u165, u166, u167, u168, u169, u170, u171, u172, u173, u174, u175, u176, u177, u178, u179, u180, u181, u182, u183, u184, u185, u186, u187, u188, u189, u190, u191, u192, u193, u194, u195, u196, u197, u198, u199, u200, u201, u202, u203, u204, u205, u206, u207, u208, u209, u210, u211, u212, u213, u214, u215, u216, u217, u218, u219, u220, u221, u222, u223, u224, u225, u226, u227, u228, u229, u230, u231, u232, u233, u234, u235, u236, u237, u238, u239, u240, u241, u242, u243, u244, u245, u246, u247, u248, u249, u250, u251, u252, u253, u254, u255, u256, u257, u258, u259], []⟩ wr := by
  have HK := keepd hK
  have HJ := keepd hJ
  have HM := keepd hM
  have q0 : wr.cell? ⟨bO, 0, none⟩ = some (.int .i64 A.us.a) := hJ.o.cell 0
  have q1 : wr.cell? ⟨bO, 4, none⟩ = some (.int .i64 A.him.a) := hJ.o.cell 4
  have q2 : wr.cell? ⟨bO, 16, none⟩ = some (.int .i64 B.us.a) := hJ.o.cell 16
  have q3 : wr.cell? ⟨bO, 20, none⟩ = some (.int .i64 B.him.a) := hJ.o.cell 20
  obtain ⟨r0, r1, r2, r3⟩ := hM.rest 0 (by omega)
  have s0 : A.us.a = B.him.a := r0
  have s1 : A.him.a = B.us.a := r1
  have s2 : A.us.a ≤ 1 := r2
  have s3 : A.him.a ≤ 1 := r3
  rw [← s1] at q2
  rw [← s0] at q3
  have b0 : decide ((1 : Int) < A.us.a) = false := by simpa using s2
  have b1 : decide ((1 : Int) < A.him.a) = false := by simpa using s3
  generalize A.us.a = x0 at *
  generalize A.him.a = x1 at *
  clear hK hJ hM r0 r1 r2 r3 s0 s1
  conv => arg 2; whnf
  go_wp2_with fail
  go_quiet (fail)
  go_wp2
  exact HK.out _ _ ⟨bO, bT, asked, said, A, B, _, _, ⟨rfl, rfl, rfl, rfl, rfl, rfl, rfl⟩, rfl, by omega, hak, HJ.out.drewN _, HM.out⟩

set_option maxRecDepth 100000 in
set_option maxHeartbeats 4000000 in
theorem cmp1 (bO bT n c asked said : Nat) (ma mb mc md : Four Bool) (AL : Option Addr) (A B : O) (v0 v1 : Value) (w wr : World) (hJ : MJ w (pairC ma mb mc md AL n c) bO bT A B v0 v1 [] [] wr) (hM : Meets A B [] [] said asked) (hak : asked ≤ 60) (K KX : Act → World → Prop) (Post : Ending → World → Prop) (hK : ∀ a' w', MetE w (pairC ma mb mc md AL n c) 2 a' w' → K a' w')
    (u0 u2 u7 u8 u9 u10 u11 u12 u13 u14 u15 u16 u17 u19 u20 u21 u22 u23 u24 u25 u26 u27 u28 u29 u30 u31 u32 u33 u34 u35 u36 u37 u38 u39 u40 u41 u42 u43 u44 u45 u46 u47 u48 u49 u50 u51 u52 u53 u54 u55 u56 u57 u58 u59 u60 u61 u62 u63 u64 u65 u66 u67 u68 u69 u70 u71 u72 u73 u74 u75 u76 u77 u78 u79 u80 u81 u82 u83 u84 u85 u86 u87 u88 u89 u90 u91 u92 u93 u94 u95 u96 u97 u98 u99 u100 u101 u102 u103 u104 u105 u106 u107 u108 u109 u110 u111 u112 u113 u114 u115 u116 u117 u118 u119 u120 u121 u122 u123 u124 u125 u126 u127 u128 u129 u130 u131 u132 u133 u134 u135 u136 u137 u138 u139 u140 u141 u142 u143 u144 u145 u146 u147 u148 u149 u150 u151 u152 u153 u154 u155 u156 u157 u158 u159 u160 u161 u162 u163 u164 u165 u166 u167 u168 u169 u170 u171 u172 u173 u174 u175 u176 u177 u178 u179 u180 u181 u182 u183 u184 u185 u186 u187 u188 u189 u190 u191 u192 u193 u194 u195 u196 u197 u198 u199 u200 u201 u202 u203 u204 u205 u206 u207 u208 u209 u210 u211 u212 u213 u214 u215 u216 u217 u218 u219 u220 u221 u222 u223 u224 u225 u226 u227 u228 u229 u230 u231 u232 u233 u234 u235 u236 u237 u238 u239 u240 u241 u242 u243 u244 u245 u246 u247 u248 u249 u250 u251 u252 u253 u254 u255 u256 u257 u258 u259 : Value) :
    Code.wp Tryd.prog metBody3 (Exit.then K (Exit.inBlock 4 (Exit.then KX (bodyPost Tryd.prog Tryd.f5 Post)))) ⟨#[u0, .pointer (some ⟨w.heap.size, 0, none⟩), u2, .pointer (some ⟨bO, 0, none⟩), .pointer (some ⟨bT, 0, none⟩), .int .i64 asked, .int .i64 said, u7, u8, u9, u10, u11, u12, u13, u14, u15, u16, u17, .int .i64 1, u19, u20, u21, u22, u23, u24, u25, u26, u27, u28, u29, u30, u31, u32, u33, u34, u35, u36, u37, u38, u39, u40, u41, u42, u43, u44, u45, u46, u47, u48, u49, u50, u51, u52, u53, u54, u55, u56, u57, u58, u59, u60, u61, u62, u63, u64, u65, u66, u67, u68, u69, u70, u71, u72, u73, u74, u75, u76, u77, u78, u79, u80, u81, u82, u83, u84, u85, u86, u87, u88, u89, u90, u91, u92, u93, u94, u95, u96, u97, u98, u99, u100, u101, u102, u103, u104, u105, u106, u107, u108, u109, u110, u111, u112, u113, u114, u115, u116, u117, u118, u119, u120, u121, u122, u123, u124, u125, u126, u127, u128, u129, u130, u131, u132, u133, u134, u135, u136, u137, u138, u139, u140, u141, u142, u143, u144, u145, u146, u147, u148, u149, u150, u151, u152, u153, u154, u155, u156, u157, u158, u159, u160, u161, u162, u163, u164, u165, u166, u167, u168, u169, u170, u171, u172, u173, u174, u175, u176, u177, u178, u179, u180, u181, u182, u183, u184, u185, u186, u187, u188, u189, u190, u191, u192, u193, u194, u195, u196, u197, u198, u199, u200, u201, u202, u203, u204, u205, u206, u207, u208, u209, u210, u211, u212, u213, u214, u215, u216, u217, u218, u219, u220, u221, u222, u223, u224, u225, u226, u227, u228, u229, u230, u231, u232, u233, u234, u235, u236, u237, u238, u239, u240, u241, u242, u243, u244, u245, u246, u247, u248, u249, u250, u251, u252, u253, u254, u255, u256, u257, u258, u259], []⟩ wr := by
  have HK := keepd hK
  have HJ := keepd hJ
  have HM := keepd hM
  have q0 : wr.cell? ⟨bO, 1, none⟩ = some (.int .i64 A.us.b) := hJ.o.cell 1
  have q1 : wr.cell? ⟨bO, 5, none⟩ = some (.int .i64 A.him.b) := hJ.o.cell 5
  have q2 : wr.cell? ⟨bO, 17, none⟩ = some (.int .i64 B.us.b) := hJ.o.cell 17
  have q3 : wr.cell? ⟨bO, 21, none⟩ = some (.int .i64 B.him.b) := hJ.o.cell 21
  obtain ⟨r0, r1, r2, r3⟩ := hM.rest 1 (by omega)
  have s0 : A.us.b = B.him.b := r0
  have s1 : A.him.b = B.us.b := r1
  have s2 : A.us.b ≤ 1 := r2
  have s3 : A.him.b ≤ 1 := r3
  rw [← s1] at q2
  rw [← s0] at q3
  have b0 : decide ((1 : Int) < A.us.b) = false := by simpa using s2
  have b1 : decide ((1 : Int) < A.him.b) = false := by simpa using s3
  generalize A.us.b = x0 at *
  generalize A.him.b = x1 at *
  clear hK hJ hM r0 r1 r2 r3 s0 s1
  conv => arg 2; whnf
  go_wp2_with fail
  go_quiet (fail)
  go_wp2
  exact HK.out _ _ ⟨bO, bT, asked, said, A, B, _, _, ⟨rfl, rfl, rfl, rfl, rfl, rfl, rfl⟩, rfl, by omega, hak, HJ.out.drewN _, HM.out⟩

set_option maxRecDepth 100000 in
set_option maxHeartbeats 4000000 in
theorem cmp2 (bO bT n c asked said : Nat) (ma mb mc md : Four Bool) (AL : Option Addr) (A B : O) (v0 v1 : Value) (w wr : World) (hJ : MJ w (pairC ma mb mc md AL n c) bO bT A B v0 v1 [] [] wr) (hM : Meets A B [] [] said asked) (hak : asked ≤ 60) (K KX : Act → World → Prop) (Post : Ending → World → Prop) (hK : ∀ a' w', MetE w (pairC ma mb mc md AL n c) 3 a' w' → K a' w')
    (u0 u2 u7 u8 u9 u10 u11 u12 u13 u14 u15 u16 u17 u19 u20 u21 u22 u23 u24 u25 u26 u27 u28 u29 u30 u31 u32 u33 u34 u35 u36 u37 u38 u39 u40 u41 u42 u43 u44 u45 u46 u47 u48 u49 u50 u51 u52 u53 u54 u55 u56 u57 u58 u59 u60 u61 u62 u63 u64 u65 u66 u67 u68 u69 u70 u71 u72 u73 u74 u75 u76 u77 u78 u79 u80 u81 u82 u83 u84 u85 u86 u87 u88 u89 u90 u91 u92 u93 u94 u95 u96 u97 u98 u99 u100 u101 u102 u103 u104 u105 u106 u107 u108 u109 u110 u111 u112 u113 u114 u115 u116 u117 u118 u119 u120 u121 u122 u123 u124 u125 u126 u127 u128 u129 u130 u131 u132 u133 u134 u135 u136 u137 u138 u139 u140 u141 u142 u143 u144 u145 u146 u147 u148 u149 u150 u151 u152 u153 u154 u155 u156 u157 u158 u159 u160 u161 u162 u163 u164 u165 u166 u167 u168 u169 u170 u171 u172 u173 u174 u175 u176 u177 u178 u179 u180 u181 u182 u183 u184 u185 u186 u187 u188 u189 u190 u191 u192 u193 u194 u195 u196 u197 u198 u199 u200 u201 u202 u203 u204 u205 u206 u207 u208 u209 u210 u211 u212 u213 u214 u215 u216 u217 u218 u219 u220 u221 u222 u223 u224 u225 u226 u227 u228 u229 u230 u231 u232 u233 u234 u235 u236 u237 u238 u239 u240 u241 u242 u243 u244 u245 u246 u247 u248 u249 u250 u251 u252 u253 u254 u255 u256 u257 u258 u259 : Value) :
    Code.wp Tryd.prog metBody3 (Exit.then K (Exit.inBlock 4 (Exit.then KX (bodyPost Tryd.prog Tryd.f5 Post)))) ⟨#[u0, .pointer (some ⟨w.heap.size, 0, none⟩), u2, .pointer (some ⟨bO, 0, none⟩), .pointer (some ⟨bT, 0, none⟩), .int .i64 asked, .int .i64 said, u7, u8, u9, u10, u11, u12, u13, u14, u15, u16, u17, .int .i64 2, u19, u20, u21, u22, u23, u24, u25, u26, u27, u28, u29, u30, u31, u32, u33, u34, u35, u36, u37, u38, u39, u40, u41, u42, u43, u44, u45, u46, u47, u48, u49, u50, u51, u52, u53, u54, u55, u56, u57, u58, u59, u60, u61, u62, u63, u64, u65, u66, u67, u68, u69, u70, u71, u72, u73, u74, u75, u76, u77, u78, u79, u80, u81, u82, u83, u84, u85, u86, u87, u88, u89, u90, u91, u92, u93, u94, u95, u96, u97, u98, u99, u100, u101, u102, u103, u104, u105, u106, u107, u108, u109, u110, u111, u112, u113, u114, u115, u116, u117, u118, u119, u120, u121, u122, u123, u124, u125, u126, u127, u128, u129, u130, u131, u132, u133, u134, u135, u136, u137, u138, u139, u140, u141, u142, u143, u144, u145, u146, u147, u148, u149, u150, u151, u152, u153, u154, u155, u156, u157, u158, u159, u160, u161, u162, u163, u164, u165, u166, u167, u168, u169, u170, u171, u172, u173, u174, u175, u176, u177, u178, u179, u180, u181, u182, u183, u184, u185, u186, u187, u188, u189, u190, u191, u192, u193, u194, u195, u196, u197, u198, u199, u200, u201, u202, u203, u204, u205, u206, u207, u208, u209, u210, u211, u212, u213, u214, u215, u216, u217, u218, u219, u220, u221, u222, u223, u224, u225, u226, u227, u228, u229, u230, u231, u232, u233, u234, u235, u236, u237, u238, u239, u240, u241, u242, u243, u244, u245, u246, u247, u248, u249, u250, u251, u252, u253, u254, u255, u256, u257, u258, u259], []⟩ wr := by
  have HK := keepd hK
  have HJ := keepd hJ
  have HM := keepd hM
  have q0 : wr.cell? ⟨bO, 2, none⟩ = some (.int .i64 A.us.c) := hJ.o.cell 2
  have q1 : wr.cell? ⟨bO, 6, none⟩ = some (.int .i64 A.him.c) := hJ.o.cell 6
  have q2 : wr.cell? ⟨bO, 18, none⟩ = some (.int .i64 B.us.c) := hJ.o.cell 18
  have q3 : wr.cell? ⟨bO, 22, none⟩ = some (.int .i64 B.him.c) := hJ.o.cell 22
  obtain ⟨r0, r1, r2, r3⟩ := hM.rest 2 (by omega)
  have s0 : A.us.c = B.him.c := r0
  have s1 : A.him.c = B.us.c := r1
  have s2 : A.us.c ≤ 1 := r2
  have s3 : A.him.c ≤ 1 := r3
  rw [← s1] at q2
  rw [← s0] at q3
  have b0 : decide ((1 : Int) < A.us.c) = false := by simpa using s2
  have b1 : decide ((1 : Int) < A.him.c) = false := by simpa using s3
  generalize A.us.c = x0 at *
  generalize A.him.c = x1 at *
  clear hK hJ hM r0 r1 r2 r3 s0 s1
  conv => arg 2; whnf
  go_wp2_with fail
  go_quiet (fail)
  go_wp2
  exact HK.out _ _ ⟨bO, bT, asked, said, A, B, _, _, ⟨rfl, rfl, rfl, rfl, rfl, rfl, rfl⟩, rfl, by omega, hak, HJ.out.drewN _, HM.out⟩

set_option maxRecDepth 100000 in
set_option maxHeartbeats 4000000 in
theorem cmp3 (bO bT n c asked said : Nat) (ma mb mc md : Four Bool) (AL : Option Addr) (A B : O) (v0 v1 : Value) (w wr : World) (hJ : MJ w (pairC ma mb mc md AL n c) bO bT A B v0 v1 [] [] wr) (hM : Meets A B [] [] said asked) (hak : asked ≤ 60) (K KX : Act → World → Prop) (Post : Ending → World → Prop) (hK : ∀ a' w', MetE w (pairC ma mb mc md AL n c) 4 a' w' → K a' w')
    (u0 u2 u7 u8 u9 u10 u11 u12 u13 u14 u15 u16 u17 u19 u20 u21 u22 u23 u24 u25 u26 u27 u28 u29 u30 u31 u32 u33 u34 u35 u36 u37 u38 u39 u40 u41 u42 u43 u44 u45 u46 u47 u48 u49 u50 u51 u52 u53 u54 u55 u56 u57 u58 u59 u60 u61 u62 u63 u64 u65 u66 u67 u68 u69 u70 u71 u72 u73 u74 u75 u76 u77 u78 u79 u80 u81 u82 u83 u84 u85 u86 u87 u88 u89 u90 u91 u92 u93 u94 u95 u96 u97 u98 u99 u100 u101 u102 u103 u104 u105 u106 u107 u108 u109 u110 u111 u112 u113 u114 u115 u116 u117 u118 u119 u120 u121 u122 u123 u124 u125 u126 u127 u128 u129 u130 u131 u132 u133 u134 u135 u136 u137 u138 u139 u140 u141 u142 u143 u144 u145 u146 u147 u148 u149 u150 u151 u152 u153 u154 u155 u156 u157 u158 u159 u160 u161 u162 u163 u164 u165 u166 u167 u168 u169 u170 u171 u172 u173 u174 u175 u176 u177 u178 u179 u180 u181 u182 u183 u184 u185 u186 u187 u188 u189 u190 u191 u192 u193 u194 u195 u196 u197 u198 u199 u200 u201 u202 u203 u204 u205 u206 u207 u208 u209 u210 u211 u212 u213 u214 u215 u216 u217 u218 u219 u220 u221 u222 u223 u224 u225 u226 u227 u228 u229 u230 u231 u232 u233 u234 u235 u236 u237 u238 u239 u240 u241 u242 u243 u244 u245 u246 u247 u248 u249 u250 u251 u252 u253 u254 u255 u256 u257 u258 u259 : Value) :
    Code.wp Tryd.prog metBody3 (Exit.then K (Exit.inBlock 4 (Exit.then KX (bodyPost Tryd.prog Tryd.f5 Post)))) ⟨#[u0, .pointer (some ⟨w.heap.size, 0, none⟩), u2, .pointer (some ⟨bO, 0, none⟩), .pointer (some ⟨bT, 0, none⟩), .int .i64 asked, .int .i64 said, u7, u8, u9, u10, u11, u12, u13, u14, u15, u16, u17, .int .i64 3, u19, u20, u21, u22, u23, u24, u25, u26, u27, u28, u29, u30, u31, u32, u33, u34, u35, u36, u37, u38, u39, u40, u41, u42, u43, u44, u45, u46, u47, u48, u49, u50, u51, u52, u53, u54, u55, u56, u57, u58, u59, u60, u61, u62, u63, u64, u65, u66, u67, u68, u69, u70, u71, u72, u73, u74, u75, u76, u77, u78, u79, u80, u81, u82, u83, u84, u85, u86, u87, u88, u89, u90, u91, u92, u93, u94, u95, u96, u97, u98, u99, u100, u101, u102, u103, u104, u105, u106, u107, u108, u109, u110, u111, u112, u113, u114, u115, u116, u117, u118, u119, u120, u121, u122, u123, u124, u125, u126, u127, u128, u129, u130, u131, u132, u133, u134, u135, u136, u137, u138, u139, u140, u141, u142, u143, u144, u145, u146, u147, u148, u149, u150, u151, u152, u153, u154, u155, u156, u157, u158, u159, u160, u161, u162, u163, u164, u165, u166, u167, u168, u169, u170, u171, u172, u173, u174, u175, u176, u177, u178, u179, u180, u181, u182, u183, u184, u185, u186, u187, u188, u189, u190, u191, u192, u193, u194, u195, u196, u197, u198, u199, u200, u201, u202, u203, u204, u205, u206, u207, u208, u209, u210, u211, u212, u213, u214, u215, u216, u217, u218, u219, u220, u221, u222, u223, u224, u225, u226, u227, u228, u229, u230, u231, u232, u233, u234, u235, u236, u237, u238, u239, u240, u241, u242, u243, u244, u245, u246, u247, u248, u249, u250, u251, u252, u253, u254, u255, u256, u257, u258, u259], []⟩ wr := by
  have HK := keepd hK
  have HJ := keepd hJ
  have HM := keepd hM
  have q0 : wr.cell? ⟨bO, 3, none⟩ = some (.int .i64 A.us.d) := hJ.o.cell 3
  have q1 : wr.cell? ⟨bO, 7, none⟩ = some (.int .i64 A.him.d) := hJ.o.cell 7
  have q2 : wr.cell? ⟨bO, 19, none⟩ = some (.int .i64 B.us.d) := hJ.o.cell 19
  have q3 : wr.cell? ⟨bO, 23, none⟩ = some (.int .i64 B.him.d) := hJ.o.cell 23
  obtain ⟨r0, r1, r2, r3⟩ := hM.rest 3 (by omega)
  have s0 : A.us.d = B.him.d := r0
  have s1 : A.him.d = B.us.d := r1
  have s2 : A.us.d ≤ 1 := r2
  have s3 : A.him.d ≤ 1 := r3
  rw [← s1] at q2
  rw [← s0] at q3
  have b0 : decide ((1 : Int) < A.us.d) = false := by simpa using s2
  have b1 : decide ((1 : Int) < A.him.d) = false := by simpa using s3
  generalize A.us.d = x0 at *
  generalize A.him.d = x1 at *
  clear hK hJ hM r0 r1 r2 r3 s0 s1
  conv => arg 2; whnf
  go_wp2_with fail
  go_quiet (fail)
  go_wp2
  exact HK.out _ _ ⟨bO, bT, asked, said, A, B, _, _, ⟨rfl, rfl, rfl, rfl, rfl, rfl, rfl⟩, rfl, by omega, hak, HJ.out.drewN _, HM.out⟩


end Go.Proofs.YtlgcfpdmklieiaaDoor
