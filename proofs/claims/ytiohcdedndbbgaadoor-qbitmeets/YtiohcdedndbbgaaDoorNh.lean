/-
  QbitMeets: the end of each loop.
-/
import Derived.Test.YtiohcdedndbbgaaDoorN0
import Derived.Test.YtiohcdedndbbgaaDoorM4
namespace Go.Proofs.YtiohcdedndbbgaaDoor
open Go.RowKit

set_option maxRecDepth 100000 in
set_option maxHeartbeats 4000000 in
theorem met_end1 (a b : Bool) (A : Option Addr) (n c k asked said rk : Nat) (x0 x1 : Int) (A0 : Option Addr) (n0 c0 : Nat) (A1 : Option Addr) (n1 c1 : Nat) (l0 l1 : List Bool) (w wr : World) (hJ : MJ w wr a b A n c x0 x1 A0 n0 c0 l0 A1 n1 c1 l1) (hM : Meet a b x0 x1 l0 l1 said asked rk) (hkn : k ≤ n) (hk60 : k ≤ 60) (hak : asked ≤ k) (K KX : Act → World → Prop) (Post : Ending → World → Prop) (h : n ≤ k) (hX : ∀ a', MetI a b A n c w k a' wr → KX a' wr)
    (u0 u2 u9 u10 u11 u12 u13 u14 u15 u16 u17 u18 u19 u20 u21 u22 u23 u24 u25 u26 u27 u28 u29 u30 u31 u32 u33 u34 u35 u36 u37 u38 u39 u40 u41 u42 u43 u44 u45 u46 u47 u48 u49 u50 u51 u52 u53 u54 u55 u56 u57 u58 u59 u60 u61 u62 u63 u64 u65 u66 u67 u68 u69 u70 u71 u72 u73 u74 u75 u76 u77 u78 u79 u80 u81 u82 u83 u84 u85 u86 u87 u88 u89 u90 u91 u92 u93 u94 u95 u96 u97 u98 u99 u100 u101 u102 u103 u104 u105 u106 u107 u108 u109 u110 u111 u112 u113 u114 u115 u116 u117 u118 u119 u120 u121 u122 u123 u124 u125 u126 u127 u128 u129 u130 u131 u132 u133 u134 u135 u136 u137 u138 u139 u140 u141 u142 u143 u144 u145 u146 u147 u148 u149 u150 u151 u152 u153 u154 u155 u156 u157 u158 u159 u160 u161 u162 u163 u164 u165 u166 u167 u168 u169 u170 u171 u172 u173 u174 u175 u176 u177 u178 u179 u180 u181 u182 u183 u184 u185 u186 u187 u188 u189 u190 u191 u192 u193 u194 u195 u196 u197 u198 u199 u200 u201 u202 u203 u204 u205 u206 u207 u208 u209 u210 u211 u212 u213 u214 u215 u216 u217 u218 u219 u220 u221 u222 u223 u224 u225 u226 u227 u228 u229 u230 u231 u232 u233 u234 u235 u236 : Value) :
    Code.wp Tryd.prog metBody1 (Exit.then K (Exit.inBlock 0 (Exit.then KX (bodyPost Tryd.prog Tryd.f5 Post)))) ⟨#[u0, .pointer (some ⟨w.heap.size, 0, none⟩), u2, .pointer (some ⟨w.heap.size + 1, 0, none⟩), .pointer (some ⟨w.heap.size + 2, 0, none⟩), .pointer (some ⟨w.heap.size + 3, 0, none⟩), .int .i64 asked, .int .i64 said, .int .i64 k, u9, u10, u11, u12, u13, u14, u15, u16, u17, u18, u19, u20, u21, u22, u23, u24, u25, u26, u27, u28, u29, u30, u31, u32, u33, u34, u35, u36, u37, u38, u39, u40, u41, u42, u43, u44, u45, u46, u47, u48, u49, u50, u51, u52, u53, u54, u55, u56, u57, u58, u59, u60, u61, u62, u63, u64, u65, u66, u67, u68, u69, u70, u71, u72, u73, u74, u75, u76, u77, u78, u79, u80, u81, u82, u83, u84, u85, u86, u87, u88, u89, u90, u91, u92, u93, u94, u95, u96, u97, u98, u99, u100, u101, u102, u103, u104, u105, u106, u107, u108, u109, u110, u111, u112, u113, u114, u115, u116, u117, u118, u119, u120, u121, u122, u123, u124, u125, u126, u127, u128, u129, u130, u131, u132, u133, u134, u135, u136, u137, u138, u139, u140, u141, u142, u143, u144, u145, u146, u147, u148, u149, u150, u151, u152, u153, u154, u155, u156, u157, u158, u159, u160, u161, u162, u163, u164, u165, u166, u167, u168, u169, u170, u171, u172, u173, u174, u175, u176, u177, u178, u179, u180, u181, u182, u183, u184, u185, u186, u187, u188, u189, u190, u191, u192, u193, u194, u195, u196, u197, u198, u199, u200, u201, u202, u203, u204, u205, u206, u207, u208, u209, u210, u211, u212, u213, u214, u215, u216, u217, u218, u219, u220, u221, u222, u223, u224, u225, u226, u227, u228, u229, u230, u231, u232, u233, u234, u235, u236], []⟩ wr := by
  have HX := keepd hX
  have HJ := keepd hJ
  have HM := keepd hM
  obtain ⟨⟨_, _, p2⟩, _⟩ := hJ.facts
  have i1 : decide ((k : Int) < (n : Int)) = false := by simp; omega
  clear hX hJ hM
  conv => arg 2; whnf
  go_wp2
  refine HX.out _ ?_
  exact ⟨⟨rfl, rfl, rfl, rfl, rfl, rfl⟩, asked, said, rk, rfl, rfl, rfl, hkn, hk60, hak, _, _, _, _, _, _, _, _, _, _, HJ.out, HM.out⟩

set_option maxRecDepth 100000 in
set_option maxHeartbeats 4000000 in
theorem met_end2 (a b : Bool) (A : Option Addr) (n c k asked said rk : Nat) (x0 x1 : Int) (A0 : Option Addr) (n0 c0 : Nat) (A1 : Option Addr) (n1 c1 : Nat) (l0 l1 : List Bool) (w wr : World) (hJ : MJ w wr a b A n c x0 x1 A0 n0 c0 l0 A1 n1 c1 l1) (hM : Meet a b x0 x1 l0 l1 said asked rk) (hkn : k ≤ n) (hk60 : k ≤ 60) (hak : asked ≤ k) (K KX : Act → World → Prop) (Post : Ending → World → Prop) (hlt : k < n) (h : 60 ≤ k) (hX : ∀ a', MetI a b A n c w k a' wr → KX a' wr)
    (u0 u2 u9 u10 u11 u12 u13 u14 u15 u16 u17 u18 u19 u20 u21 u22 u23 u24 u25 u26 u27 u28 u29 u30 u31 u32 u33 u34 u35 u36 u37 u38 u39 u40 u41 u42 u43 u44 u45 u46 u47 u48 u49 u50 u51 u52 u53 u54 u55 u56 u57 u58 u59 u60 u61 u62 u63 u64 u65 u66 u67 u68 u69 u70 u71 u72 u73 u74 u75 u76 u77 u78 u79 u80 u81 u82 u83 u84 u85 u86 u87 u88 u89 u90 u91 u92 u93 u94 u95 u96 u97 u98 u99 u100 u101 u102 u103 u104 u105 u106 u107 u108 u109 u110 u111 u112 u113 u114 u115 u116 u117 u118 u119 u120 u121 u122 u123 u124 u125 u126 u127 u128 u129 u130 u131 u132 u133 u134 u135 u136 u137 u138 u139 u140 u141 u142 u143 u144 u145 u146 u147 u148 u149 u150 u151 u152 u153 u154 u155 u156 u157 u158 u159 u160 u161 u162 u163 u164 u165 u166 u167 u168 u169 u170 u171 u172 u173 u174 u175 u176 u177 u178 u179 u180 u181 u182 u183 u184 u185 u186 u187 u188 u189 u190 u191 u192 u193 u194 u195 u196 u197 u198 u199 u200 u201 u202 u203 u204 u205 u206 u207 u208 u209 u210 u211 u212 u213 u214 u215 u216 u217 u218 u219 u220 u221 u222 u223 u224 u225 u226 u227 u228 u229 u230 u231 u232 u233 u234 u235 u236 : Value) :
    Code.wp Tryd.prog metBody1 (Exit.then K (Exit.inBlock 0 (Exit.then KX (bodyPost Tryd.prog Tryd.f5 Post)))) ⟨#[u0, .pointer (some ⟨w.heap.size, 0, none⟩), u2, .pointer (some ⟨w.heap.size + 1, 0, none⟩), .pointer (some ⟨w.heap.size + 2, 0, none⟩), .pointer (some ⟨w.heap.size + 3, 0, none⟩), .int .i64 asked, .int .i64 said, .int .i64 k, u9, u10, u11, u12, u13, u14, u15, u16, u17, u18, u19, u20, u21, u22, u23, u24, u25, u26, u27, u28, u29, u30, u31, u32, u33, u34, u35, u36, u37, u38, u39, u40, u41, u42, u43, u44, u45, u46, u47, u48, u49, u50, u51, u52, u53, u54, u55, u56, u57, u58, u59, u60, u61, u62, u63, u64, u65, u66, u67, u68, u69, u70, u71, u72, u73, u74, u75, u76, u77, u78, u79, u80, u81, u82, u83, u84, u85, u86, u87, u88, u89, u90, u91, u92, u93, u94, u95, u96, u97, u98, u99, u100, u101, u102, u103, u104, u105, u106, u107, u108, u109, u110, u111, u112, u113, u114, u115, u116, u117, u118, u119, u120, u121, u122, u123, u124, u125, u126, u127, u128, u129, u130, u131, u132, u133, u134, u135, u136, u137, u138, u139, u140, u141, u142, u143, u144, u145, u146, u147, u148, u149, u150, u151, u152, u153, u154, u155, u156, u157, u158, u159, u160, u161, u162, u163, u164, u165, u166, u167, u168, u169, u170, u171, u172, u173, u174, u175, u176, u177, u178, u179, u180, u181, u182, u183, u184, u185, u186, u187, u188, u189, u190, u191, u192, u193, u194, u195, u196, u197, u198, u199, u200, u201, u202, u203, u204, u205, u206, u207, u208, u209, u210, u211, u212, u213, u214, u215, u216, u217, u218, u219, u220, u221, u222, u223, u224, u225, u226, u227, u228, u229, u230, u231, u232, u233, u234, u235, u236], []⟩ wr := by
  have HX := keepd hX
  have HJ := keepd hJ
  have HM := keepd hM
  obtain ⟨⟨_, _, p2⟩, _⟩ := hJ.facts
  have i1 : decide ((k : Int) < (n : Int)) = true := by simp; omega
  have i2 : decide ((k : Int) < 60) = false := by simp; omega
  clear hX hJ hM
  conv => arg 2; whnf
  go_wp2
  refine HX.out _ ?_
  exact ⟨⟨rfl, rfl, rfl, rfl, rfl, rfl⟩, asked, said, rk, rfl, rfl, rfl, hkn, hk60, hak, _, _, _, _, _, _, _, _, _, _, HJ.out, HM.out⟩

/-- What holds behind both loops: nothing is under way. -/
def MetE (a b : Bool) (A : Option Addr) (n c : Nat) (w : World) (f : Act) (wr : World) : Prop :=
  Fr w.heap.size f ∧ ∃ asked said rk : Nat, f.tmps[6]? = some (.int .i64 asked) ∧ f.tmps[7]? = some (.int .i64 said) ∧ asked ≤ 60 ∧ ∃ x0 x1 A0 n0 c0 A1 n1 c1, MJ w wr a b A n c x0 x1 A0 n0 c0 [] A1 n1 c1 [] ∧ Meet a b x0 x1 [] [] said asked rk

set_option maxRecDepth 100000 in
set_option maxHeartbeats 4000000 in
theorem dr_end (a b : Bool) (A : Option Addr) (n c m asked said rk : Nat) (x0 x1 : Int) (A0 : Option Addr) (n0 c0 : Nat) (A1 : Option Addr) (n1 c1 : Nat) (w wr : World) (hJ : MJ w wr a b A n c x0 x1 A0 n0 c0 [] A1 n1 c1 []) (hM : Meet a b x0 x1 [] [] said asked rk) (hmr : m + rk ≤ 5) (hak : asked ≤ 60) (K KX : Act → World → Prop) (Post : Ending → World → Prop) (hX : ∀ a', MetE a b A n c w a' wr → KX a' wr)
    (u0 u2 u8 u9 u10 u11 u12 u14 u15 u16 u17 u18 u19 u20 u21 u22 u23 u24 u25 u26 u27 u28 u29 u30 u31 u32 u33 u34 u35 u36 u37 u38 u39 u40 u41 u42 u43 u44 u45 u46 u47 u48 u49 u50 u51 u52 u53 u54 u55 u56 u57 u58 u59 u60 u61 u62 u63 u64 u65 u66 u67 u68 u69 u70 u71 u72 u73 u74 u75 u76 u77 u78 u79 u80 u81 u82 u83 u84 u85 u86 u87 u88 u89 u90 u91 u92 u93 u94 u95 u96 u97 u98 u99 u100 u101 u102 u103 u104 u105 u106 u107 u108 u109 u110 u111 u112 u113 u114 u115 u116 u117 u118 u119 u120 u121 u122 u123 u124 u125 u126 u127 u128 u129 u130 u131 u132 u133 u134 u135 u136 u137 u138 u139 u140 u141 u142 u143 u144 u145 u146 u147 u148 u149 u150 u151 u152 u153 u154 u155 u156 u157 u158 u159 u160 u161 u162 u163 u164 u165 u166 u167 u168 u169 u170 u171 u172 u173 u174 u175 u176 u177 u178 u179 u180 u181 u182 u183 u184 u185 u186 u187 u188 u189 u190 u191 u192 u193 u194 u195 u196 u197 u198 u199 u200 u201 u202 u203 u204 u205 u206 u207 u208 u209 u210 u211 u212 u213 u214 u215 u216 u217 u218 u219 u220 u221 u222 u223 u224 u225 u226 u227 u228 u229 u230 u231 u232 u233 u234 u235 u236 : Value) :
    Code.wp Tryd.prog metBody2 (Exit.then K (Exit.inBlock 2 (Exit.then KX (bodyPost Tryd.prog Tryd.f5 Post)))) ⟨#[u0, .pointer (some ⟨w.heap.size, 0, none⟩), u2, .pointer (some ⟨w.heap.size + 1, 0, none⟩), .pointer (some ⟨w.heap.size + 2, 0, none⟩), .pointer (some ⟨w.heap.size + 3, 0, none⟩), .int .i64 asked, .int .i64 said, u8, u9, u10, u11, u12, .int .i64 m, u14, u15, u16, u17, u18, u19, u20, u21, u22, u23, u24, u25, u26, u27, u28, u29, u30, u31, u32, u33, u34, u35, u36, u37, u38, u39, u40, u41, u42, u43, u44, u45, u46, u47, u48, u49, u50, u51, u52, u53, u54, u55, u56, u57, u58, u59, u60, u61, u62, u63, u64, u65, u66, u67, u68, u69, u70, u71, u72, u73, u74, u75, u76, u77, u78, u79, u80, u81, u82, u83, u84, u85, u86, u87, u88, u89, u90, u91, u92, u93, u94, u95, u96, u97, u98, u99, u100, u101, u102, u103, u104, u105, u106, u107, u108, u109, u110, u111, u112, u113, u114, u115, u116, u117, u118, u119, u120, u121, u122, u123, u124, u125, u126, u127, u128, u129, u130, u131, u132, u133, u134, u135, u136, u137, u138, u139, u140, u141, u142, u143, u144, u145, u146, u147, u148, u149, u150, u151, u152, u153, u154, u155, u156, u157, u158, u159, u160, u161, u162, u163, u164, u165, u166, u167, u168, u169, u170, u171, u172, u173, u174, u175, u176, u177, u178, u179, u180, u181, u182, u183, u184, u185, u186, u187, u188, u189, u190, u191, u192, u193, u194, u195, u196, u197, u198, u199, u200, u201, u202, u203, u204, u205, u206, u207, u208, u209, u210, u211, u212, u213, u214, u215, u216, u217, u218, u219, u220, u221, u222, u223, u224, u225, u226, u227, u228, u229, u230, u231, u232, u233, u234, u235, u236], []⟩ wr := by
  have HX := keepd hX
  have HJ := keepd hJ
  have HM := keepd hM
  obtain rfl : n0 = 0 := hJ.len0
  obtain rfl : n1 = 0 := hJ.len1
  obtain ⟨_, _, _, ⟨t0, t1⟩, _⟩ := hJ.facts
  have i1 : decide ((m : Int) < 400) = true := by simp; omega
  clear hX hJ hM
  conv => arg 2; whnf
  go_wp2
  refine HX.out _ ?_
  exact ⟨⟨rfl, rfl, rfl, rfl, rfl, rfl⟩, asked, said, rk, rfl, rfl, hak, _, _, _, _, _, _, _, _, HJ.out, HM.out⟩

end Go.Proofs.YtiohcdedndbbgaaDoor
