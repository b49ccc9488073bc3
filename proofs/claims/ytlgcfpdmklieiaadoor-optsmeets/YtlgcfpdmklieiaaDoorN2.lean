/-
  OptsMeets: rounds of the first loop in which nothing is there to come.
-/
import Derived.Test.YtlgcfpdmklieiaaDoorN0
namespace Go.Proofs.YtlgcfpdmklieiaaDoor
open Go.RowKit

set_option maxRecDepth 100000 in
set_option maxHeartbeats 4000000 in
theorem met_skip0 (bO bT n c asked said : Nat) (ma mb mc md : Four Bool) (A B : O) (v0 v1 : Value) (k : Nat) (t : List (Int × Int)) (w wr : World) (bk off : Nat) (_hc : n ≤ c) (_hm : c ≤ 9223372036854775807) (hlt : k < n) (h60 : k < 60) (hak : asked ≤ k) (hbl : bk < w.heap.size) (who : Int) (d0 : w.cell? ⟨bk, off + k * 5, none⟩ = some (.int .u8 who)) (d1 : w.cell? ⟨bk, off + k * 5 + 1, none⟩ = some (.bool true)) (_hw0 : 0 ≤ who) (_hw1 : who ≤ 255) (hw : who % 2 = 0) (hJ : MJ w (pairC ma mb mc md (some ⟨bk, off, none⟩) n c) bO bT A B v0 v1 [] t wr) (hM : Meets A B [] t said asked) (hst : t.length ≤ said)
    (K KX : Act → World → Prop) (Post : Ending → World → Prop) (hK : ∀ a' w', MetI w (pairC ma mb mc md (some ⟨bk, off, none⟩) n c) n (k + 1) a' w' → K a' w')
    (u0 u2 u8 u9 u10 u11 u12 u13 u14 u15 u16 u17 u18 u19 u20 u21 u22 u23 u24 u25 u26 u27 u28 u29 u30 u31 u32 u33 u34 u35 u36 u37 u38 u39 u40 u41 u42 u43 u44 u45 u46 u47 u48 u49 u50 u51 u52 u53 u54 u55 u56 u57 u58 u59 u60 u61 u62 u63 u64 u65 u66 u67 u68 u69 u70 u71 u72 u73 u74 u75 u76 u77 u78 u79 u80 u81 u82 u83 u84 u85 u86 u87 u88 u89 u90 u91 u92 u93 u94 u95 u96 u97 u98 u99 u100 u101 u102 u103 u104 u105 u106 u107 u108 u109 u110 u111 u112 u113 u114 u115 u116 u117 u118 u119 u120 u121 u122 u123 u124 u125 u126 u127 u128 u129 u130 u131 u132 u133 u134 u135 u136 u137 u138 u139 u140 u141 u142 u143 u144 u145 u146 u147 u148 u149 u150 u151 u152 u153 u154 u155 u156 u157 u158 u159 u160 u161 u162 u163 u164 u165 u166 u167 u168 u169 u170 u171 u172 u173 u174 u175 u176 u177 u178 u179 u180 u181 u182 u183 u184 u185 u186 u187 u188 u189 u190 u191 u192 u193 u194 u195 u196 u197 u198 u199 u200 u201 u202 u203 u204 u205 u206 u207 u208 u209 u210 u211 u212 u213 u214 u215 u216 u217 u218 u219 u220 u221 u222 u223 u224 u225 u226 u227 u228 u229 u230 u231 u232 u233 u234 u235 u236 u237 u238 u239 u240 u241 u242 u243 u244 u245 u246 u247 u248 u249 u250 u251 u252 u253 u254 u255 u256 u257 u258 u259 : Value) :
    Code.wp Tryd.prog metBody1 (Exit.then K (Exit.inBlock 0 (Exit.then KX (bodyPost Tryd.prog Tryd.f5 Post)))) ⟨#[u0, .pointer (some ⟨w.heap.size, 0, none⟩), u2, .pointer (some ⟨bO, 0, none⟩), .pointer (some ⟨bT, 0, none⟩), .int .i64 asked, .int .i64 said, .int .i64 k, u8, u9, u10, u11, u12, u13, u14, u15, u16, u17, u18, u19, u20, u21, u22, u23, u24, u25, u26, u27, u28, u29, u30, u31, u32, u33, u34, u35, u36, u37, u38, u39, u40, u41, u42, u43, u44, u45, u46, u47, u48, u49, u50, u51, u52, u53, u54, u55, u56, u57, u58, u59, u60, u61, u62, u63, u64, u65, u66, u67, u68, u69, u70, u71, u72, u73, u74, u75, u76, u77, u78, u79, u80, u81, u82, u83, u84, u85, u86, u87, u88, u89, u90, u91, u92, u93, u94, u95, u96, u97, u98, u99, u100, u101, u102, u103, u104, u105, u106, u107, u108, u109, u110, u111, u112, u113, u114, u115, u116, u117, u118, u119, u120, u121, u122, u123, u124, u125, u126, u127, u128, u129, u130, u131, u132, u133, u134, u135, u136, u137, u138, u139, u140, u141, u142, u143, u144, u145, u146, u147, u148, u149, u150, u151, u152, u153, u154, u155, u156, u157, u158, u159, u160, u161, u162, u163, u164, u165, u166, u167, u168, u169, u170, u171, u172, u173, u174, u175, u176, u177, u178, u179, u180, u181, u182, u183, u184, u185, u186, u187, u188, u189, u190, u191, u192, u193, u194, u195, u196, u197, u198, u199, u200, u201, u202, u203, u204, u205, u206, u207, u208, u209, u210, u211, u212, u213, u214, u215, u216, u217, u218, u219, u220, u221, u222, u223, u224, u225, u226, u227, u228, u229, u230, u231, u232, u233, u234, u235, u236, u237, u238, u239, u240, u241, u242, u243, u244, u245, u246, u247, u248, u249, u250, u251, u252, u253, u254, u255, u256, u257, u258, u259], []⟩ wr := by
  have HK := keepd hK
  have HM := keepd hM
  have hsa := hM.said_le
  have p2 : wr.cell? ⟨w.heap.size, 16, none⟩ = some (.slice (some ⟨bk, off, none⟩) n c) := hJ.pr.cell 16
  have e0 := (hJ.bel.cell (p := ⟨bk, off + k * 5, none⟩) hbl).trans d0
  have e1 := (hJ.bel.cell (p := ⟨bk, off + k * 5 + 1, none⟩) hbl).trans d1
  have i1 : decide ((k : Int) < (n : Int)) = true := by simp; omega
  have i2 : decide ((k : Int) < 60) = true := by simp; omega
  have i0 : (0 : Int) ≤ (k : Int) := by omega
  have i3 : (k : Int) < (n : Int) := by omega
  have HJ := keepd hJ
  obtain ⟨A0, c0, rfl, _, _⟩ := hJ.len0
  obtain ⟨⟨t0, t1⟩, _⟩ := hJ.ft
  simp only [List.length_nil] at t0
  clear hK hM hJ d0 d1
  conv => arg 2; whnf
  go_wp2
  exact HK.out _ _ ⟨bO, bT, asked, said, A, B, _, _, _, _, ⟨rfl, rfl, rfl, rfl, rfl, rfl, rfl⟩, rfl, by omega, by omega, by omega, by simpa using hst, HJ.out, HM.out⟩

set_option maxRecDepth 100000 in
set_option maxHeartbeats 4000000 in
theorem met_skip1 (bO bT n c asked said : Nat) (ma mb mc md : Four Bool) (A B : O) (v0 v1 : Value) (k : Nat) (s : List (Int × Int)) (w wr : World) (bk off : Nat) (_hc : n ≤ c) (_hm : c ≤ 9223372036854775807) (hlt : k < n) (h60 : k < 60) (hak : asked ≤ k) (hbl : bk < w.heap.size) (who : Int) (d0 : w.cell? ⟨bk, off + k * 5, none⟩ = some (.int .u8 who)) (d1 : w.cell? ⟨bk, off + k * 5 + 1, none⟩ = some (.bool true)) (_hw0 : 0 ≤ who) (_hw1 : who ≤ 255) (hw : who % 2 = 1) (hJ : MJ w (pairC ma mb mc md (some ⟨bk, off, none⟩) n c) bO bT A B v0 v1 s [] wr) (hM : Meets A B s [] said asked) (hst : s.length ≤ said)
    (K KX : Act → World → Prop) (Post : Ending → World → Prop) (hK : ∀ a' w', MetI w (pairC ma mb mc md (some ⟨bk, off, none⟩) n c) n (k + 1) a' w' → K a' w')
    (u0 u2 u8 u9 u10 u11 u12 u13 u14 u15 u16 u17 u18 u19 u20 u21 u22 u23 u24 u25 u26 u27 u28 u29 u30 u31 u32 u33 u34 u35 u36 u37 u38 u39 u40 u41 u42 u43 u44 u45 u46 u47 u48 u49 u50 u51 u52 u53 u54 u55 u56 u57 u58 u59 u60 u61 u62 u63 u64 u65 u66 u67 u68 u69 u70 u71 u72 u73 u74 u75 u76 u77 u78 u79 u80 u81 u82 u83 u84 u85 u86 u87 u88 u89 u90 u91 u92 u93 u94 u95 u96 u97 u98 u99 u100 u101 u102 u103 u104 u105 u106 u107 u108 u109 u110 u111 u112 u113 u114 u115 u116 u117 u118 u119 u120 u121 u122 u123 u124 u125 u126 u127 u128 u129 u130 u131 u132 u133 u134 u135 u136 u137 u138 u139 u140 u141 u142 u143 u144 u145 u146 u147 u148 u149 u150 u151 u152 u153 u154 u155 u156 u157 u158 u159 u160 u161 u162 u163 u164 u165 u166 u167 u168 u169 u170 u171 u172 u173 u174 u175 u176 u177 u178 u179 u180 u181 u182 u183 u184 u185 u186 u187 u188 u189 u190 u191 u192 u193 u194 u195 u196 u197 u198 u199 u200 u201 u202 u203 u204 u205 u206 u207 u208 u209 u210 u211 u212 u213 u214 u215 u216 u217 u218 u219 u220 u221 u222 u223 u224 u225 u226 u227 u228 u229 u230 u231 u232 u233 u234 u235 u236 u237 u238 u239 u240 u241 u242 u243 u244 u245 u246 u247 u248 u249 u250 u251 u252 u253 u254 u255 u256 u257 u258 u259 : Value) :
    Code.wp Tryd.prog metBody1 (Exit.then K (Exit.inBlock 0 (Exit.then KX (bodyPost Tryd.prog Tryd.f5 Post)))) ⟨#[u0, .pointer (some ⟨w.heap.size, 0, none⟩), u2, .pointer (some ⟨bO, 0, none⟩), .pointer (some ⟨bT, 0, none⟩), .int .i64 asked, .int .i64 said, .int .i64 k, u8, u9, u10, u11, u12, u13, u14, u15, u16, u17, u18, u19, u20, u21, u22, u23, u24, u25, u26, u27, u28, u29, u30, u31, u32, u33, u34, u35, u36, u37, u38, u39, u40, u41, u42, u43, u44, u45, u46, u47, u48, u49, u50, u51, u52, u53, u54, u55, u56, u57, u58, u59, u60, u61, u62, u63, u64, u65, u66, u67, u68, u69, u70, u71, u72, u73, u74, u75, u76, u77, u78, u79, u80, u81, u82, u83, u84, u85, u86, u87, u88, u89, u90, u91, u92, u93, u94, u95, u96, u97, u98, u99, u100, u101, u102, u103, u104, u105, u106, u107, u108, u109, u110, u111, u112, u113, u114, u115, u116, u117, u118, u119, u120, u121, u122, u123, u124, u125, u126, u127, u128, u129, u130, u131, u132, u133, u134, u135, u136, u137, u138, u139, u140, u141, u142, u143, u144, u145, u146, u147, u148, u149, u150, u151, u152, u153, u154, u155, u156, u157, u158, u159, u160, u161, u162, u163, u164, u165, u166, u167, u168, u169, u170, u171, u172, u173, u174, u175, u176, u177, u178, u179, u180, u181, u182, u183, u184, u185, u186, u187, u188, u189, u190, u191, u192, u193, u194, u195, u196, u197, u198, u199, u200, u201, u202, u203, u204, u205, u206, u207, u208, u209, u210, u211, u212, u213, u214, u215, u216, u217, u218, u219, u220, u221, u222, u223, u224, u225, u226, u227, u228, u229, u230, u231, u232, u233, u234, u235, u236, u237, u238, u239, u240, u241, u242, u243, u244, u245, u246, u247, u248, u249, u250, u251, u252, u253, u254, u255, u256, u257, u258, u259], []⟩ wr := by
  have HK := keepd hK
  have HM := keepd hM
  have hsa := hM.said_le
  have p2 : wr.cell? ⟨w.heap.size, 16, none⟩ = some (.slice (some ⟨bk, off, none⟩) n c) := hJ.pr.cell 16
  have e0 := (hJ.bel.cell (p := ⟨bk, off + k * 5, none⟩) hbl).trans d0
  have e1 := (hJ.bel.cell (p := ⟨bk, off + k * 5 + 1, none⟩) hbl).trans d1
  have i1 : decide ((k : Int) < (n : Int)) = true := by simp; omega
  have i2 : decide ((k : Int) < 60) = true := by simp; omega
  have i0 : (0 : Int) ≤ (k : Int) := by omega
  have i3 : (k : Int) < (n : Int) := by omega
  have HJ := keepd hJ
  obtain ⟨A0, c0, rfl, _, _⟩ := hJ.len1
  obtain ⟨⟨t0, t1⟩, _⟩ := hJ.ft
  simp only [List.length_nil] at t1
  clear hK hM hJ d0 d1
  conv => arg 2; whnf
  go_wp2
  exact HK.out _ _ ⟨bO, bT, asked, said, A, B, _, _, _, _, ⟨rfl, rfl, rfl, rfl, rfl, rfl, rfl⟩, rfl, by omega, by omega, by omega, by simpa using hst, HJ.out, HM.out⟩


end Go.Proofs.YtlgcfpdmklieiaaDoor
