/-
  QbitMeets: rounds of the first loop.
-/
import Derived.Test.YtiohcdedndbbgaaDoorN0
import Derived.Test.YtiohcdedndbbgaaDoorM4
namespace Go.Proofs.YtiohcdedndbbgaaDoor
open Go.RowKit

set_option maxRecDepth 100000 in
set_option maxHeartbeats 4000000 in
theorem met0A00 (b : Bool) (bk off n c k asked said rk : Nat) (x0 x1 : Int) (A0 : Option Addr) (n0 c0 : Nat) (A1 : Option Addr) (n1 c1 : Nat) (l0 l1 : List Bool) (v : Bool) (z s e : Int) (hz : aF x0 v = (z, s, e)) (who : Int) (w wr : World)
    (hL0 : Laid w) (hJ : MJ w wr true b (some ⟨bk, off, none⟩) n c x0 x1 A0 n0 c0 l0 A1 n1 c1 l1) (hM : Meet true b x0 x1 l0 l1 said asked rk) (hs : s = 0) (he : e = 0) 
    (_hc : n ≤ c) (_hm : c ≤ 9223372036854775807) (hlt : k < n) (h60 : k < 60) (hak : asked ≤ k) (hbl : bk < w.heap.size)
    (d0 : w.cell? ⟨bk, off + k * 3, none⟩ = some (.int .u8 who)) (d1 : w.cell? ⟨bk, off + k * 3 + 1, none⟩ = some (.bool false)) (d2 : w.cell? ⟨bk, off + k * 3 + 2, none⟩ = some (.bool v)) (_hw0 : 0 ≤ who) (_hw1 : who ≤ 255) (hw : who % 2 = 0)
    (K KX : Act → World → Prop) (Post : Ending → World → Prop) (hK : ∀ a' w', MetI true b (some ⟨bk, off, none⟩) n c w (k + 1) a' w' → K a' w')
    (u0 u2 u9 u10 u11 u12 u13 u14 u15 u16 u17 u18 u19 u20 u21 u22 u23 u24 u25 u26 u27 u28 u29 u30 u31 u32 u33 u34 u35 u36 u37 u38 u39 u40 u41 u42 u43 u44 u45 u46 u47 u48 u49 u50 u51 u52 u53 u54 u55 u56 u57 u58 u59 u60 u61 u62 u63 u64 u65 u66 u67 u68 u69 u70 u71 u72 u73 u74 u75 u76 u77 u78 u79 u80 u81 u82 u83 u84 u85 u86 u87 u88 u89 u90 u91 u92 u93 u94 u95 u96 u97 u98 u99 u100 u101 u102 u103 u104 u105 u106 u107 u108 u109 u110 u111 u112 u113 u114 u115 u116 u117 u118 u119 u120 u121 u122 u123 u124 u125 u126 u127 u128 u129 u130 u131 u132 u133 u134 u135 u136 u137 u138 u139 u140 u141 u142 u143 u144 u145 u146 u147 u148 u149 u150 u151 u152 u153 u154 u155 u156 u157 u158 u159 u160 u161 u162 u163 u164 u165 u166 u167 u168 u169 u170 u171 u172 u173 u174 u175 u176 u177 u178 u179 u180 u181 u182 u183 u184 u185 u186 u187 u188 u189 u190 u191 u192 u193 u194 u195 u196 u197 u198 u199 u200 u201 u202 u203 u204 u205 u206 u207 u208 u209 u210 u211 u212 u213 u214 u215 u216 u217 u218 u219 u220 u221 u222 u223 u224 u225 u226 u227 u228 u229 u230 u231 u232 u233 u234 u235 u236 : Value) :
    Code.wp Tryd.prog metBody1 (Exit.then K (Exit.inBlock 0 (Exit.then KX (bodyPost Tryd.prog Tryd.f5 Post)))) ⟨#[u0, .pointer (some ⟨w.heap.size, 0, none⟩), u2, .pointer (some ⟨w.heap.size + 1, 0, none⟩), .pointer (some ⟨w.heap.size + 2, 0, none⟩), .pointer (some ⟨w.heap.size + 3, 0, none⟩), .int .i64 asked, .int .i64 said, .int .i64 k, u9, u10, u11, u12, u13, u14, u15, u16, u17, u18, u19, u20, u21, u22, u23, u24, u25, u26, u27, u28, u29, u30, u31, u32, u33, u34, u35, u36, u37, u38, u39, u40, u41, u42, u43, u44, u45, u46, u47, u48, u49, u50, u51, u52, u53, u54, u55, u56, u57, u58, u59, u60, u61, u62, u63, u64, u65, u66, u67, u68, u69, u70, u71, u72, u73, u74, u75, u76, u77, u78, u79, u80, u81, u82, u83, u84, u85, u86, u87, u88, u89, u90, u91, u92, u93, u94, u95, u96, u97, u98, u99, u100, u101, u102, u103, u104, u105, u106, u107, u108, u109, u110, u111, u112, u113, u114, u115, u116, u117, u118, u119, u120, u121, u122, u123, u124, u125, u126, u127, u128, u129, u130, u131, u132, u133, u134, u135, u136, u137, u138, u139, u140, u141, u142, u143, u144, u145, u146, u147, u148, u149, u150, u151, u152, u153, u154, u155, u156, u157, u158, u159, u160, u161, u162, u163, u164, u165, u166, u167, u168, u169, u170, u171, u172, u173, u174, u175, u176, u177, u178, u179, u180, u181, u182, u183, u184, u185, u186, u187, u188, u189, u190, u191, u192, u193, u194, u195, u196, u197, u198, u199, u200, u201, u202, u203, u204, u205, u206, u207, u208, u209, u210, u211, u212, u213, u214, u215, u216, u217, u218, u219, u220, u221, u222, u223, u224, u225, u226, u227, u228, u229, u230, u231, u232, u233, u234, u235, u236], []⟩ wr := by
  have HK := keepd hK
  have HM := keepd hM
  have HS := keepd hs
  have HE := keepd he
  have hsa := hM.said_le
  have hbd := hM.bounds
  have e0 := (hJ.bel.cell (p := ⟨bk, off + k * 3, none⟩) hbl).trans d0
  have e1 := (hJ.bel.cell (p := ⟨bk, off + k * 3 + 1, none⟩) hbl).trans d1
  have e2 := (hJ.bel.cell (p := ⟨bk, off + k * 3 + 2, none⟩) hbl).trans d2
  obtain ⟨⟨p0, p1, p2⟩, ⟨m0, m1⟩, ⟨q0, q1⟩, ⟨t0, t1⟩, ⟨f0, f1⟩, ⟨g0, g1⟩⟩ := hJ.facts
  have i1 : decide ((k : Int) < (n : Int)) = true := by simp; omega
  have i2 : decide ((k : Int) < 60) = true := by simp; omega
  have i0 : (0 : Int) ≤ (k : Int) := by omega
  have i3 : (k : Int) < (n : Int) := by omega
  have HJ := keepd hJ
  have HL2 := keepd (show Laid wr.drew from hL0.below hJ.bel.drew)
  have HG := keepd (fun W hL => ask_at x0 v z s e hz W hL)
  clear hK hM hs he hJ d0 d1 d2
  conv => arg 2; whnf
  go_wp2_with fail
  go_cut [10, 11] (fun s10 s11 wx => s10 = .int .i64 s ∧ s11 = .int .i64 e ∧ Hid (MJ w wx true b (some ⟨bk, off, none⟩) n c z x1 A0 n0 c0 l0 A1 n1 c1 l1))
  case first =>
    go_region_with (go_at_call 11; (with_reducible refine (HG.out _ HL2.out).mono ?_); rintro e w1 ⟨rfl, hb1⟩; have hJ3 := HJ.out.call (noDrew hb1); have HJ3 := keepd hJ3; obtain ⟨_, _, _, _, ⟨r0, r1⟩, _⟩ := hJ3.facts; clear hb1 hJ3)
    all_goals go_wp2_with fail
    all_goals go_meet
    all_goals exact ⟨rfl, rfl, HJ3.out.setX0 z⟩
  case rest =>
  obtain ⟨rfl, rfl, HJ3⟩ := hcut
  clear p0 p1 p2 m0 m1 q0 q1 t0 t1 f0 f1 g0 g1 e0 e1 e2 HG HL2 HJ
  obtain ⟨rk', hM'⟩ := HM.out.askq0 (.inl rfl) hz HS.out
  obtain rfl := HS.out
  obtain rfl := HE.out
  have HM' := keepd hM'
  clear HM hM' HS hz HE
  obtain ⟨_, _, _, ⟨t0, t1⟩, _, ⟨g0, g1⟩⟩ := HJ3.out.facts
  go_wp2_with (go_at_call 18; (with_reducible refine (under0 _ _ _ _).mono ?_); rintro e w2 ⟨rfl, rfl⟩)
  exact HK.out _ _ ⟨⟨rfl, rfl, rfl, rfl, rfl, rfl⟩, (asked + 1), said, rk', rfl, rfl, rfl, by omega, by omega, by omega, _, _, _, _, _, _, _, _, _, _, HJ3.out.same1, HM'.out⟩

set_option maxRecDepth 100000 in
set_option maxHeartbeats 4000000 in
theorem met0A05 (b : Bool) (bk off n c k asked said rk : Nat) (x0 x1 : Int) (A0 : Option Addr) (n0 c0 : Nat) (A1 : Option Addr) (n1 c1 : Nat) (l0 l1 : List Bool) (v : Bool) (z s e : Int) (hz : aF x0 v = (z, s, e)) (who : Int) (w wr : World)
    (hL0 : Laid w) (hJ : MJ w wr true b (some ⟨bk, off, none⟩) n c x0 x1 A0 n0 c0 l0 A1 n1 c1 l1) (hM : Meet true b x0 x1 l0 l1 said asked rk) (hs : s = 0) (he : e = 5) 
    (_hc : n ≤ c) (_hm : c ≤ 9223372036854775807) (hlt : k < n) (h60 : k < 60) (hak : asked ≤ k) (hbl : bk < w.heap.size)
    (d0 : w.cell? ⟨bk, off + k * 3, none⟩ = some (.int .u8 who)) (d1 : w.cell? ⟨bk, off + k * 3 + 1, none⟩ = some (.bool false)) (d2 : w.cell? ⟨bk, off + k * 3 + 2, none⟩ = some (.bool v)) (_hw0 : 0 ≤ who) (_hw1 : who ≤ 255) (hw : who % 2 = 0)
    (K KX : Act → World → Prop) (Post : Ending → World → Prop) (hK : ∀ a' w', MetI true b (some ⟨bk, off, none⟩) n c w (k + 1) a' w' → K a' w')
    (u0 u2 u9 u10 u11 u12 u13 u14 u15 u16 u17 u18 u19 u20 u21 u22 u23 u24 u25 u26 u27 u28 u29 u30 u31 u32 u33 u34 u35 u36 u37 u38 u39 u40 u41 u42 u43 u44 u45 u46 u47 u48 u49 u50 u51 u52 u53 u54 u55 u56 u57 u58 u59 u60 u61 u62 u63 u64 u65 u66 u67 u68 u69 u70 u71 u72 u73 u74 u75 u76 u77 u78 u79 u80 u81 u82 u83 u84 u85 u86 u87 u88 u89 u90 u91 u92 u93 u94 u95 u96 u97 u98 u99 u100 u101 u102 u103 u104 u105 u106 u107 u108 u109 u110 u111 u112 u113 u114 u115 u116 u117 u118 u119 u120 u121 u122 u123 u124 u125 u126 u127 u128 u129 u130 u131 u132 u133 u134 u135 u136 u137 u138 u139 u140 u141 u142 u143 u144 u145 u146 u147 u148 u149 u150 u151 u152 u153 u154 u155 u156 u157 u158 u159 u160 u161 u162 u163 u164 u165 u166 u167 u168 u169 u170 u171 u172 u173 u174 u175 u176 u177 u178 u179 u180 u181 u182 u183 u184 u185 u186 u187 u188 u189 u190 u191 u192 u193 u194 u195 u196 u197 u198 u199 u200 u201 u202 u203 u204 u205 u206 u207 u208 u209 u210 u211 u212 u213 u214 u215 u216 u217 u218 u219 u220 u221 u222 u223 u224 u225 u226 u227 u228 u229 u230 u231 u232 u233 u234 u235 u236 : Value) :
    Code.wp Tryd.prog metBody1 (Exit.then K (Exit.inBlock 0 (Exit.then KX (bodyPost Tryd.prog Tryd.f5 Post)))) ⟨#[u0, .pointer (some ⟨w.heap.size, 0, none⟩), u2, .pointer (some ⟨w.heap.size + 1, 0, none⟩), .pointer (some ⟨w.heap.size + 2, 0, none⟩), .pointer (some ⟨w.heap.size + 3, 0, none⟩), .int .i64 asked, .int .i64 said, .int .i64 k, u9, u10, u11, u12, u13, u14, u15, u16, u17, u18, u19, u20, u21, u22, u23, u24, u25, u26, u27, u28, u29, u30, u31, u32, u33, u34, u35, u36, u37, u38, u39, u40, u41, u42, u43, u44, u45, u46, u47, u48, u49, u50, u51, u52, u53, u54, u55, u56, u57, u58, u59, u60, u61, u62, u63, u64, u65, u66, u67, u68, u69, u70, u71, u72, u73, u74, u75, u76, u77, u78, u79, u80, u81, u82, u83, u84, u85, u86, u87, u88, u89, u90, u91, u92, u93, u94, u95, u96, u97, u98, u99, u100, u101, u102, u103, u104, u105, u106, u107, u108, u109, u110, u111, u112, u113, u114, u115, u116, u117, u118, u119, u120, u121, u122, u123, u124, u125, u126, u127, u128, u129, u130, u131, u132, u133, u134, u135, u136, u137, u138, u139, u140, u141, u142, u143, u144, u145, u146, u147, u148, u149, u150, u151, u152, u153, u154, u155, u156, u157, u158, u159, u160, u161, u162, u163, u164, u165, u166, u167, u168, u169, u170, u171, u172, u173, u174, u175, u176, u177, u178, u179, u180, u181, u182, u183, u184, u185, u186, u187, u188, u189, u190, u191, u192, u193, u194, u195, u196, u197, u198, u199, u200, u201, u202, u203, u204, u205, u206, u207, u208, u209, u210, u211, u212, u213, u214, u215, u216, u217, u218, u219, u220, u221, u222, u223, u224, u225, u226, u227, u228, u229, u230, u231, u232, u233, u234, u235, u236], []⟩ wr := by
  have HK := keepd hK
  have HM := keepd hM
  have HS := keepd hs
  have HE := keepd he
  have hsa := hM.said_le
  have hbd := hM.bounds
  have e0 := (hJ.bel.cell (p := ⟨bk, off + k * 3, none⟩) hbl).trans d0
  have e1 := (hJ.bel.cell (p := ⟨bk, off + k * 3 + 1, none⟩) hbl).trans d1
  have e2 := (hJ.bel.cell (p := ⟨bk, off + k * 3 + 2, none⟩) hbl).trans d2
  obtain ⟨⟨p0, p1, p2⟩, ⟨m0, m1⟩, ⟨q0, q1⟩, ⟨t0, t1⟩, ⟨f0, f1⟩, ⟨g0, g1⟩⟩ := hJ.facts
  have i1 : decide ((k : Int) < (n : Int)) = true := by simp; omega
  have i2 : decide ((k : Int) < 60) = true := by simp; omega
  have i0 : (0 : Int) ≤ (k : Int) := by omega
  have i3 : (k : Int) < (n : Int) := by omega
  have HJ := keepd hJ
  have HL2 := keepd (show Laid wr.drew from hL0.below hJ.bel.drew)
  have HG := keepd (fun W hL => ask_at x0 v z s e hz W hL)
  clear hK hM hs he hJ d0 d1 d2
  conv => arg 2; whnf
  go_wp2_with fail
  go_cut [10, 11] (fun s10 s11 wx => s10 = .int .i64 s ∧ s11 = .int .i64 e ∧ Hid (MJ w wx true b (some ⟨bk, off, none⟩) n c z x1 A0 n0 c0 l0 A1 n1 c1 l1))
  case first =>
    go_region_with (go_at_call 11; (with_reducible refine (HG.out _ HL2.out).mono ?_); rintro e w1 ⟨rfl, hb1⟩; have hJ3 := HJ.out.call (noDrew hb1); have HJ3 := keepd hJ3; obtain ⟨_, _, _, _, ⟨r0, r1⟩, _⟩ := hJ3.facts; clear hb1 hJ3)
    all_goals go_wp2_with fail
    all_goals go_meet
    all_goals exact ⟨rfl, rfl, HJ3.out.setX0 z⟩
  case rest =>
  obtain ⟨rfl, rfl, HJ3⟩ := hcut
  clear p0 p1 p2 m0 m1 q0 q1 t0 t1 f0 f1 g0 g1 e0 e1 e2 HG HL2 HJ
  obtain ⟨rk', hM'⟩ := HM.out.askq0 (.inl rfl) hz HS.out
  obtain rfl := HS.out
  obtain rfl := HE.out
  have HM' := keepd hM'
  clear HM hM' HS hz HE
  obtain ⟨_, _, _, ⟨t0, t1⟩, _, ⟨g0, g1⟩⟩ := HJ3.out.facts
  go_wp2_with (go_at_call 18; (with_reducible refine (under0 _ _ _ _).mono ?_); rintro e w2 ⟨rfl, rfl⟩)
  exact HK.out _ _ ⟨⟨rfl, rfl, rfl, rfl, rfl, rfl⟩, asked, said, rk', rfl, rfl, rfl, by omega, by omega, by omega, _, _, _, _, _, _, _, _, _, _, HJ3.out.same1, HM'.out⟩

end Go.Proofs.YtiohcdedndbbgaaDoor
