/-
  The law QbitMeets, walked: it returns true, whatever the pair of sides, and whatever happens.
-/
import Derived.Test.YtiohcdedndbbgaaDoorNd
import Derived.Test.YtiohcdedndbbgaaDoorNe
import Derived.Test.YtiohcdedndbbgaaDoorNf
import Derived.Test.YtiohcdedndbbgaaDoorNg
import Derived.Test.YtiohcdedndbbgaaDoorNh
import Derived.Test.YtiohcdedndbbgaaDoorNi
import Derived.Test.YtiohcdedndbbgaaDoorNj
namespace Go.Proofs.YtiohcdedndbbgaaDoor
open Go.RowKit

set_option maxRecDepth 100000 in
set_option maxHeartbeats 4000000 in
theorem met_round0 (a b : Bool) (A : Option Addr) (l : List Ac) (n c : Nat) (hn : n = l.length) (w : World) (hL0 : Laid w) (hr : RdA w A l c) (k : Nat) (wr : World) (K KX : Act → World → Prop) (Post : Ending → World → Prop)
    (hK : ∀ a' w', MetI a b A n c w (k + 1) a' w' → k < 60 → K a' w') (hX : ∀ a' w', MetI a b A n c w k a' w' → KX a' w')
    (u0 u1 u2 u3 u4 u5 u6 u7 u8 u9 u10 u11 u12 u13 u14 u15 u16 u17 u18 u19 u20 u21 u22 u23 u24 u25 u26 u27 u28 u29 u30 u31 u32 u33 u34 u35 u36 u37 u38 u39 u40 u41 u42 u43 u44 u45 u46 u47 u48 u49 u50 u51 u52 u53 u54 u55 u56 u57 u58 u59 u60 u61 u62 u63 u64 u65 u66 u67 u68 u69 u70 u71 u72 u73 u74 u75 u76 u77 u78 u79 u80 u81 u82 u83 u84 u85 u86 u87 u88 u89 u90 u91 u92 u93 u94 u95 u96 u97 u98 u99 u100 u101 u102 u103 u104 u105 u106 u107 u108 u109 u110 u111 u112 u113 u114 u115 u116 u117 u118 u119 u120 u121 u122 u123 u124 u125 u126 u127 u128 u129 u130 u131 u132 u133 u134 u135 u136 u137 u138 u139 u140 u141 u142 u143 u144 u145 u146 u147 u148 u149 u150 u151 u152 u153 u154 u155 u156 u157 u158 u159 u160 u161 u162 u163 u164 u165 u166 u167 u168 u169 u170 u171 u172 u173 u174 u175 u176 u177 u178 u179 u180 u181 u182 u183 u184 u185 u186 u187 u188 u189 u190 u191 u192 u193 u194 u195 u196 u197 u198 u199 u200 u201 u202 u203 u204 u205 u206 u207 u208 u209 u210 u211 u212 u213 u214 u215 u216 u217 u218 u219 u220 u221 u222 u223 u224 u225 u226 u227 u228 u229 u230 u231 u232 u233 u234 u235 u236 : Value) (hI : MetI a b A n c w k ⟨#[u0, u1, u2, u3, u4, u5, u6, u7, u8, u9, u10, u11, u12, u13, u14, u15, u16, u17, u18, u19, u20, u21, u22, u23, u24, u25, u26, u27, u28, u29, u30, u31, u32, u33, u34, u35, u36, u37, u38, u39, u40, u41, u42, u43, u44, u45, u46, u47, u48, u49, u50, u51, u52, u53, u54, u55, u56, u57, u58, u59, u60, u61, u62, u63, u64, u65, u66, u67, u68, u69, u70, u71, u72, u73, u74, u75, u76, u77, u78, u79, u80, u81, u82, u83, u84, u85, u86, u87, u88, u89, u90, u91, u92, u93, u94, u95, u96, u97, u98, u99, u100, u101, u102, u103, u104, u105, u106, u107, u108, u109, u110, u111, u112, u113, u114, u115, u116, u117, u118, u119, u120, u121, u122, u123, u124, u125, u126, u127, u128, u129, u130, u131, u132, u133, u134, u135, u136, u137, u138, u139, u140, u141, u142, u143, u144, u145, u146, u147, u148, u149, u150, u151, u152, u153, u154, u155, u156, u157, u158, u159, u160, u161, u162, u163, u164, u165, u166, u167, u168, u169, u170, u171, u172, u173, u174, u175, u176, u177, u178, u179, u180, u181, u182, u183, u184, u185, u186, u187, u188, u189, u190, u191, u192, u193, u194, u195, u196, u197, u198, u199, u200, u201, u202, u203, u204, u205, u206, u207, u208, u209, u210, u211, u212, u213, u214, u215, u216, u217, u218, u219, u220, u221, u222, u223, u224, u225, u226, u227, u228, u229, u230, u231, u232, u233, u234, u235, u236], []⟩ wr) :
    Code.wp Tryd.prog metBody1 (Exit.then K (Exit.inBlock 0 (Exit.then KX (bodyPost Tryd.prog Tryd.f5 Post)))) ⟨#[u0, u1, u2, u3, u4, u5, u6, u7, u8, u9, u10, u11, u12, u13, u14, u15, u16, u17, u18, u19, u20, u21, u22, u23, u24, u25, u26, u27, u28, u29, u30, u31, u32, u33, u34, u35, u36, u37, u38, u39, u40, u41, u42, u43, u44, u45, u46, u47, u48, u49, u50, u51, u52, u53, u54, u55, u56, u57, u58, u59, u60, u61, u62, u63, u64, u65, u66, u67, u68, u69, u70, u71, u72, u73, u74, u75, u76, u77, u78, u79, u80, u81, u82, u83, u84, u85, u86, u87, u88, u89, u90, u91, u92, u93, u94, u95, u96, u97, u98, u99, u100, u101, u102, u103, u104, u105, u106, u107, u108, u109, u110, u111, u112, u113, u114, u115, u116, u117, u118, u119, u120, u121, u122, u123, u124, u125, u126, u127, u128, u129, u130, u131, u132, u133, u134, u135, u136, u137, u138, u139, u140, u141, u142, u143, u144, u145, u146, u147, u148, u149, u150, u151, u152, u153, u154, u155, u156, u157, u158, u159, u160, u161, u162, u163, u164, u165, u166, u167, u168, u169, u170, u171, u172, u173, u174, u175, u176, u177, u178, u179, u180, u181, u182, u183, u184, u185, u186, u187, u188, u189, u190, u191, u192, u193, u194, u195, u196, u197, u198, u199, u200, u201, u202, u203, u204, u205, u206, u207, u208, u209, u210, u211, u212, u213, u214, u215, u216, u217, u218, u219, u220, u221, u222, u223, u224, u225, u226, u227, u228, u229, u230, u231, u232, u233, u234, u235, u236], []⟩ wr := by
  obtain ⟨⟨_, _, f1, f3, f4, f5⟩, asked, said, rk, f6, f7, f8, hkn, hk60, hak, x0, x1, A0, n0, c0, l0, A1, n1, c1, l1, hJ, hM⟩ := hI
  have hc : n ≤ c := by have := hr.1; omega
  have hm : c ≤ 9223372036854775807 := by have := hr.2.1; unfold maxLen at this; omega
  obtain rfl : u1 = _ := Option.some.inj f1
  obtain rfl : u3 = _ := Option.some.inj f3
  obtain rfl : u4 = _ := Option.some.inj f4
  obtain rfl : u5 = _ := Option.some.inj f5
  obtain rfl : u6 = _ := Option.some.inj f6
  obtain rfl : u7 = _ := Option.some.inj f7
  obtain rfl : u8 = _ := Option.some.inj f8
  clear f1 f3 f4 f5 f6 f7 f8
  by_cases hlt : k < n
  · by_cases h60 : k < 60
    · have hkl : k < l.length := by rw [← hn]; exact hlt
      obtain ⟨bk, off, rfl, hbl, hce⟩ := hr.2.2 (by rintro rfl; simp at hkl)
      obtain ⟨d0, d1, d2, hw0, hw1⟩ := hce k hkl
      generalize l[k] = x at *
      obtain ⟨who, u, v⟩ := x
      simp only at d0 d1 d2 hw0 hw1
      replace hK := fun a' w' h => hK a' w' h h60
      have hw2 : who % 2 = 0 ∨ who % 2 = 1 := by omega
      clear hce hr hn
      rcases hw2 with hw | hw
      · exact met_side0 _ _ _ _ _ _ _ _ _ _ _ _ _ _ _ _ _ _ _ _ _ _ _ _ _ hL0 hJ hM hc hm hlt h60 hak hbl d0 d1 d2 hw0 hw1 hw K KX Post hK _ _ _ _ _ _ _ _ _ _ _ _ _ _ _ _ _ _ _ _ _ _ _ _ _ _ _ _ _ _ _ _ _ _ _ _ _ _ _ _ _ _ _ _ _ _ _ _ _ _ _ _ _ _ _ _ _ _ _ _ _ _ _ _ _ _ _ _ _ _ _ _ _ _ _ _ _ _ _ _ _ _ _ _ _ _ _ _ _ _ _ _ _ _ _ _ _ _ _ _ _ _ _ _ _ _ _ _ _ _ _ _ _ _ _ _ _ _ _ _ _ _ _ _ _ _ _ _ _ _ _ _ _ _ _ _ _ _ _ _ _ _ _ _ _ _ _ _ _ _ _ _ _ _ _ _ _ _ _ _ _ _ _ _ _ _ _ _ _ _ _ _ _ _ _ _ _ _ _ _ _ _ _ _ _ _ _ _ _ _ _ _ _ _ _ _ _ _ _ _ _ _ _ _ _ _ _ _ _ _ _ _ _ _ _ _ _ _ _ _ _ _ _ _ _ _ _ _ _ _
      · exact met_side1 _ _ _ _ _ _ _ _ _ _ _ _ _ _ _ _ _ _ _ _ _ _ _ _ _ hL0 hJ hM hc hm hlt h60 hak hbl d0 d1 d2 hw0 hw1 hw K KX Post hK _ _ _ _ _ _ _ _ _ _ _ _ _ _ _ _ _ _ _ _ _ _ _ _ _ _ _ _ _ _ _ _ _ _ _ _ _ _ _ _ _ _ _ _ _ _ _ _ _ _ _ _ _ _ _ _ _ _ _ _ _ _ _ _ _ _ _ _ _ _ _ _ _ _ _ _ _ _ _ _ _ _ _ _ _ _ _ _ _ _ _ _ _ _ _ _ _ _ _ _ _ _ _ _ _ _ _ _ _ _ _ _ _ _ _ _ _ _ _ _ _ _ _ _ _ _ _ _ _ _ _ _ _ _ _ _ _ _ _ _ _ _ _ _ _ _ _ _ _ _ _ _ _ _ _ _ _ _ _ _ _ _ _ _ _ _ _ _ _ _ _ _ _ _ _ _ _ _ _ _ _ _ _ _ _ _ _ _ _ _ _ _ _ _ _ _ _ _ _ _ _ _ _ _ _ _ _ _ _ _ _ _ _ _ _ _ _ _ _ _ _ _ _ _ _ _ _ _ _ _
    · exact met_end2 _ _ _ _ _ _ _ _ _ _ _ _ _ _ _ _ _ _ _ _ _ hJ hM hkn hk60 hak K KX Post hlt (by omega) (fun a' h => hX a' wr h) _ _ _ _ _ _ _ _ _ _ _ _ _ _ _ _ _ _ _ _ _ _ _ _ _ _ _ _ _ _ _ _ _ _ _ _ _ _ _ _ _ _ _ _ _ _ _ _ _ _ _ _ _ _ _ _ _ _ _ _ _ _ _ _ _ _ _ _ _ _ _ _ _ _ _ _ _ _ _ _ _ _ _ _ _ _ _ _ _ _ _ _ _ _ _ _ _ _ _ _ _ _ _ _ _ _ _ _ _ _ _ _ _ _ _ _ _ _ _ _ _ _ _ _ _ _ _ _ _ _ _ _ _ _ _ _ _ _ _ _ _ _ _ _ _ _ _ _ _ _ _ _ _ _ _ _ _ _ _ _ _ _ _ _ _ _ _ _ _ _ _ _ _ _ _ _ _ _ _ _ _ _ _ _ _ _ _ _ _ _ _ _ _ _ _ _ _ _ _ _ _ _ _ _ _ _ _ _ _ _ _ _ _ _ _ _ _ _ _ _ _ _ _ _ _ _ _ _ _ _
  · exact met_end1 _ _ _ _ _ _ _ _ _ _ _ _ _ _ _ _ _ _ _ _ _ hJ hM hkn hk60 hak K KX Post (by omega) (fun a' h => hX a' wr h) _ _ _ _ _ _ _ _ _ _ _ _ _ _ _ _ _ _ _ _ _ _ _ _ _ _ _ _ _ _ _ _ _ _ _ _ _ _ _ _ _ _ _ _ _ _ _ _ _ _ _ _ _ _ _ _ _ _ _ _ _ _ _ _ _ _ _ _ _ _ _ _ _ _ _ _ _ _ _ _ _ _ _ _ _ _ _ _ _ _ _ _ _ _ _ _ _ _ _ _ _ _ _ _ _ _ _ _ _ _ _ _ _ _ _ _ _ _ _ _ _ _ _ _ _ _ _ _ _ _ _ _ _ _ _ _ _ _ _ _ _ _ _ _ _ _ _ _ _ _ _ _ _ _ _ _ _ _ _ _ _ _ _ _ _ _ _ _ _ _ _ _ _ _ _ _ _ _ _ _ _ _ _ _ _ _ _ _ _ _ _ _ _ _ _ _ _ _ _ _ _ _ _ _ _ _ _ _ _ _ _ _ _ _ _ _ _ _ _ _ _ _ _ _ _ _ _ _ _ _

theorem met_round (a b : Bool) (A : Option Addr) (l : List Ac) (n c : Nat) (hn : n = l.length) (w : World) (hL0 : Laid w) (hr : RdA w A l c) (k : Nat) (f : Act) (wr : World) (hI : MetI a b A n c w k f wr) (K KX : Act → World → Prop) (Post : Ending → World → Prop)
    (hK : ∀ a' w', MetI a b A n c w (k + 1) a' w' → k < 60 → K a' w') (hX : ∀ a' w', MetI a b A n c w k a' w' → KX a' w') :
    Code.wp Tryd.prog metBody1 (Exit.then K (Exit.inBlock 0 (Exit.then KX (bodyPost Tryd.prog Tryd.f5 Post)))) f wr :=
  act237 (p := fun f => MetI a b A n c w k f wr → Code.wp Tryd.prog metBody1 (Exit.then K (Exit.inBlock 0 (Exit.then KX (bodyPost Tryd.prog Tryd.f5 Post)))) f wr) (met_round0 a b A l n c hn w hL0 hr k wr K KX Post hK hX) f hI.1.1 hI.1.2.1 hI

set_option maxRecDepth 100000 in
set_option maxHeartbeats 4000000 in
theorem dr_round0 (a b : Bool) (A : Option Addr) (n c : Nat) (w : World) (hL0 : Laid w) (m : Nat) (wr : World) (K KX : Act → World → Prop) (Post : Ending → World → Prop)
    (hK : ∀ a' w', MetD a b A n c w (m + 1) a' w' → K a' w') (hX : ∀ a' w', MetE a b A n c w a' w' → KX a' w')
    (u0 u1 u2 u3 u4 u5 u6 u7 u8 u9 u10 u11 u12 u13 u14 u15 u16 u17 u18 u19 u20 u21 u22 u23 u24 u25 u26 u27 u28 u29 u30 u31 u32 u33 u34 u35 u36 u37 u38 u39 u40 u41 u42 u43 u44 u45 u46 u47 u48 u49 u50 u51 u52 u53 u54 u55 u56 u57 u58 u59 u60 u61 u62 u63 u64 u65 u66 u67 u68 u69 u70 u71 u72 u73 u74 u75 u76 u77 u78 u79 u80 u81 u82 u83 u84 u85 u86 u87 u88 u89 u90 u91 u92 u93 u94 u95 u96 u97 u98 u99 u100 u101 u102 u103 u104 u105 u106 u107 u108 u109 u110 u111 u112 u113 u114 u115 u116 u117 u118 u119 u120 u121 u122 u123 u124 u125 u126 u127 u128 u129 u130 u131 u132 u133 u134 u135 u136 u137 u138 u139 u140 u141 u142 u143 u144 u145 u146 u147 u148 u149 u150 u151 u152 u153 u154 u155 u156 u157 u158 u159 u160 u161 u162 u163 u164 u165 u166 u167 u168 u169 u170 u171 u172 u173 u174 u175 u176 u177 u178 u179 u180 u181 u182 u183 u184 u185 u186 u187 u188 u189 u190 u191 u192 u193 u194 u195 u196 u197 u198 u199 u200 u201 u202 u203 u204 u205 u206 u207 u208 u209 u210 u211 u212 u213 u214 u215 u216 u217 u218 u219 u220 u221 u222 u223 u224 u225 u226 u227 u228 u229 u230 u231 u232 u233 u234 u235 u236 : Value) (hI : MetD a b A n c w m ⟨#[u0, u1, u2, u3, u4, u5, u6, u7, u8, u9, u10, u11, u12, u13, u14, u15, u16, u17, u18, u19, u20, u21, u22, u23, u24, u25, u26, u27, u28, u29, u30, u31, u32, u33, u34, u35, u36, u37, u38, u39, u40, u41, u42, u43, u44, u45, u46, u47, u48, u49, u50, u51, u52, u53, u54, u55, u56, u57, u58, u59, u60, u61, u62, u63, u64, u65, u66, u67, u68, u69, u70, u71, u72, u73, u74, u75, u76, u77, u78, u79, u80, u81, u82, u83, u84, u85, u86, u87, u88, u89, u90, u91, u92, u93, u94, u95, u96, u97, u98, u99, u100, u101, u102, u103, u104, u105, u106, u107, u108, u109, u110, u111, u112, u113, u114, u115, u116, u117, u118, u119, u120, u121, u122, u123, u124, u125, u126, u127, u128, u129, u130, u131, u132, u133, u134, u135, u136, u137, u138, u139, u140, u141, u142, u143, u144, u145, u146, u147, u148, u149, u150, u151, u152, u153, u154, u155, u156, u157, u158, u159, u160, u161, u162, u163, u164, u165, u166, u167, u168, u169, u170, u171, u172, u173, u174, u175, u176, u177, u178, u179, u180, u181, u182, u183, u184, u185, u186, u187, u188, u189, u190, u191, u192, u193, u194, u195, u196, u197, u198, u199, u200, u201, u202, u203, u204, u205, u206, u207, u208, u209, u210, u211, u212, u213, u214, u215, u216, u217, u218, u219, u220, u221, u222, u223, u224, u225, u226, u227, u228, u229, u230, u231, u232, u233, u234, u235, u236], []⟩ wr) :
    Code.wp Tryd.prog metBody2 (Exit.then K (Exit.inBlock 2 (Exit.then KX (bodyPost Tryd.prog Tryd.f5 Post)))) ⟨#[u0, u1, u2, u3, u4, u5, u6, u7, u8, u9, u10, u11, u12, u13, u14, u15, u16, u17, u18, u19, u20, u21, u22, u23, u24, u25, u26, u27, u28, u29, u30, u31, u32, u33, u34, u35, u36, u37, u38, u39, u40, u41, u42, u43, u44, u45, u46, u47, u48, u49, u50, u51, u52, u53, u54, u55, u56, u57, u58, u59, u60, u61, u62, u63, u64, u65, u66, u67, u68, u69, u70, u71, u72, u73, u74, u75, u76, u77, u78, u79, u80, u81, u82, u83, u84, u85, u86, u87, u88, u89, u90, u91, u92, u93, u94, u95, u96, u97, u98, u99, u100, u101, u102, u103, u104, u105, u106, u107, u108, u109, u110, u111, u112, u113, u114, u115, u116, u117, u118, u119, u120, u121, u122, u123, u124, u125, u126, u127, u128, u129, u130, u131, u132, u133, u134, u135, u136, u137, u138, u139, u140, u141, u142, u143, u144, u145, u146, u147, u148, u149, u150, u151, u152, u153, u154, u155, u156, u157, u158, u159, u160, u161, u162, u163, u164, u165, u166, u167, u168, u169, u170, u171, u172, u173, u174, u175, u176, u177, u178, u179, u180, u181, u182, u183, u184, u185, u186, u187, u188, u189, u190, u191, u192, u193, u194, u195, u196, u197, u198, u199, u200, u201, u202, u203, u204, u205, u206, u207, u208, u209, u210, u211, u212, u213, u214, u215, u216, u217, u218, u219, u220, u221, u222, u223, u224, u225, u226, u227, u228, u229, u230, u231, u232, u233, u234, u235, u236], []⟩ wr := by
  obtain ⟨⟨_, _, f1, f3, f4, f5⟩, asked, said, rk, f6, f7, f13, hmr, hak, x0, x1, A0, n0, c0, l0, A1, n1, c1, l1, hJ, hM⟩ := hI
  obtain rfl : u1 = _ := Option.some.inj f1
  obtain rfl : u3 = _ := Option.some.inj f3
  obtain rfl : u4 = _ := Option.some.inj f4
  obtain rfl : u5 = _ := Option.some.inj f5
  obtain rfl : u6 = _ := Option.some.inj f6
  obtain rfl : u7 = _ := Option.some.inj f7
  obtain rfl : u13 = _ := Option.some.inj f13
  clear f1 f3 f4 f5 f6 f7 f13
  cases l0 with
  | cons y r =>
    obtain ⟨⟨z, s, e⟩, hz⟩ : ∃ t, gF x0 y a = t := ⟨_, rfl⟩
    by_cases hs0 : s = 0
    · have hs := hs0
      exact dr00 _ _ _ _ _ _ _ _ _ _ _ _ _ _ _ _ _ _ _ _ _ _ _ hz _ _ hL0 hJ hM hs hmr hak _ _ _ hK _ _ _ _ _ _ _ _ _ _ _ _ _ _ _ _ _ _ _ _ _ _ _ _ _ _ _ _ _ _ _ _ _ _ _ _ _ _ _ _ _ _ _ _ _ _ _ _ _ _ _ _ _ _ _ _ _ _ _ _ _ _ _ _ _ _ _ _ _ _ _ _ _ _ _ _ _ _ _ _ _ _ _ _ _ _ _ _ _ _ _ _ _ _ _ _ _ _ _ _ _ _ _ _ _ _ _ _ _ _ _ _ _ _ _ _ _ _ _ _ _ _ _ _ _ _ _ _ _ _ _ _ _ _ _ _ _ _ _ _ _ _ _ _ _ _ _ _ _ _ _ _ _ _ _ _ _ _ _ _ _ _ _ _ _ _ _ _ _ _ _ _ _ _ _ _ _ _ _ _ _ _ _ _ _ _ _ _ _ _ _ _ _ _ _ _ _ _ _ _ _ _ _ _ _ _ _ _ _ _ _ _ _ _ _ _ _ _ _ _ _ _ _ _ _ _ _ _ _ _
    · have hs : (s == 0) = false := by simpa using hs0
      obtain ⟨sb, hb⟩ : ∃ sb, (s == 1) = sb := ⟨_, rfl⟩
      exact dr01 _ _ _ _ _ _ _ _ _ _ _ _ _ _ _ _ _ _ _ _ _ _ _ hz _ _ hL0 hJ hM _ hs hb hmr hak _ _ _ hK _ _ _ _ _ _ _ _ _ _ _ _ _ _ _ _ _ _ _ _ _ _ _ _ _ _ _ _ _ _ _ _ _ _ _ _ _ _ _ _ _ _ _ _ _ _ _ _ _ _ _ _ _ _ _ _ _ _ _ _ _ _ _ _ _ _ _ _ _ _ _ _ _ _ _ _ _ _ _ _ _ _ _ _ _ _ _ _ _ _ _ _ _ _ _ _ _ _ _ _ _ _ _ _ _ _ _ _ _ _ _ _ _ _ _ _ _ _ _ _ _ _ _ _ _ _ _ _ _ _ _ _ _ _ _ _ _ _ _ _ _ _ _ _ _ _ _ _ _ _ _ _ _ _ _ _ _ _ _ _ _ _ _ _ _ _ _ _ _ _ _ _ _ _ _ _ _ _ _ _ _ _ _ _ _ _ _ _ _ _ _ _ _ _ _ _ _ _ _ _ _ _ _ _ _ _ _ _ _ _ _ _ _ _ _ _ _ _ _ _ _ _ _ _ _ _ _ _ _ _
  | nil =>
    cases l1 with
    | cons y r =>
      obtain ⟨⟨z, s, e⟩, hz⟩ : ∃ t, gF x1 y b = t := ⟨_, rfl⟩
      by_cases hs0 : s = 0
      · have hs := hs0
        exact dr10 _ _ _ _ _ _ _ _ _ _ _ _ _ _ _ _ _ _ _ _ _ _ hz _ _ hL0 hJ hM hs hmr hak _ _ _ hK _ _ _ _ _ _ _ _ _ _ _ _ _ _ _ _ _ _ _ _ _ _ _ _ _ _ _ _ _ _ _ _ _ _ _ _ _ _ _ _ _ _ _ _ _ _ _ _ _ _ _ _ _ _ _ _ _ _ _ _ _ _ _ _ _ _ _ _ _ _ _ _ _ _ _ _ _ _ _ _ _ _ _ _ _ _ _ _ _ _ _ _ _ _ _ _ _ _ _ _ _ _ _ _ _ _ _ _ _ _ _ _ _ _ _ _ _ _ _ _ _ _ _ _ _ _ _ _ _ _ _ _ _ _ _ _ _ _ _ _ _ _ _ _ _ _ _ _ _ _ _ _ _ _ _ _ _ _ _ _ _ _ _ _ _ _ _ _ _ _ _ _ _ _ _ _ _ _ _ _ _ _ _ _ _ _ _ _ _ _ _ _ _ _ _ _ _ _ _ _ _ _ _ _ _ _ _ _ _ _ _ _ _ _ _ _ _ _ _ _ _ _ _ _ _ _ _ _ _ _
      · have hs : (s == 0) = false := by simpa using hs0
        obtain ⟨sb, hb⟩ : ∃ sb, (s == 1) = sb := ⟨_, rfl⟩
        exact dr11 _ _ _ _ _ _ _ _ _ _ _ _ _ _ _ _ _ _ _ _ _ _ hz _ _ hL0 hJ hM _ hs hb hmr hak _ _ _ hK _ _ _ _ _ _ _ _ _ _ _ _ _ _ _ _ _ _ _ _ _ _ _ _ _ _ _ _ _ _ _ _ _ _ _ _ _ _ _ _ _ _ _ _ _ _ _ _ _ _ _ _ _ _ _ _ _ _ _ _ _ _ _ _ _ _ _ _ _ _ _ _ _ _ _ _ _ _ _ _ _ _ _ _ _ _ _ _ _ _ _ _ _ _ _ _ _ _ _ _ _ _ _ _ _ _ _ _ _ _ _ _ _ _ _ _ _ _ _ _ _ _ _ _ _ _ _ _ _ _ _ _ _ _ _ _ _ _ _ _ _ _ _ _ _ _ _ _ _ _ _ _ _ _ _ _ _ _ _ _ _ _ _ _ _ _ _ _ _ _ _ _ _ _ _ _ _ _ _ _ _ _ _ _ _ _ _ _ _ _ _ _ _ _ _ _ _ _ _ _ _ _ _ _ _ _ _ _ _ _ _ _ _ _ _ _ _ _ _ _ _ _ _ _ _ _ _ _ _ _
    | nil => exact dr_end _ _ _ _ _ _ _ _ _ _ _ _ _ _ _ _ _ _ _ hJ hM hmr hak K KX Post (fun a' h => hX a' wr h) _ _ _ _ _ _ _ _ _ _ _ _ _ _ _ _ _ _ _ _ _ _ _ _ _ _ _ _ _ _ _ _ _ _ _ _ _ _ _ _ _ _ _ _ _ _ _ _ _ _ _ _ _ _ _ _ _ _ _ _ _ _ _ _ _ _ _ _ _ _ _ _ _ _ _ _ _ _ _ _ _ _ _ _ _ _ _ _ _ _ _ _ _ _ _ _ _ _ _ _ _ _ _ _ _ _ _ _ _ _ _ _ _ _ _ _ _ _ _ _ _ _ _ _ _ _ _ _ _ _ _ _ _ _ _ _ _ _ _ _ _ _ _ _ _ _ _ _ _ _ _ _ _ _ _ _ _ _ _ _ _ _ _ _ _ _ _ _ _ _ _ _ _ _ _ _ _ _ _ _ _ _ _ _ _ _ _ _ _ _ _ _ _ _ _ _ _ _ _ _ _ _ _ _ _ _ _ _ _ _ _ _ _ _ _ _ _ _ _ _ _ _ _ _ _ _ _ _ _ _

theorem dr_round (a b : Bool) (A : Option Addr) (n c : Nat) (w : World) (hL0 : Laid w) (m : Nat) (f : Act) (wr : World) (hI : MetD a b A n c w m f wr) (K KX : Act → World → Prop) (Post : Ending → World → Prop)
    (hK : ∀ a' w', MetD a b A n c w (m + 1) a' w' → K a' w') (hX : ∀ a' w', MetE a b A n c w a' w' → KX a' w') :
    Code.wp Tryd.prog metBody2 (Exit.then K (Exit.inBlock 2 (Exit.then KX (bodyPost Tryd.prog Tryd.f5 Post)))) f wr :=
  act237 (p := fun f => MetD a b A n c w m f wr → Code.wp Tryd.prog metBody2 (Exit.then K (Exit.inBlock 2 (Exit.then KX (bodyPost Tryd.prog Tryd.f5 Post)))) f wr) (dr_round0 a b A n c w hL0 m wr K KX Post hK hX) f hI.1.1 hI.1.2.1 hI

theorem actK {q : Act → Prop} {K : Act → World → Prop} {w' : World} (h : ∀ u0 u1 u2 u3 u4 u5 u6 u7 u8 u9 u10 u11 u12 u13 u14 u15 u16 u17 u18 u19 u20 u21 u22 u23 u24 u25 u26 u27 u28 u29 u30 u31 u32 u33 u34 u35 u36 u37 u38 u39 u40 u41 u42 u43 u44 u45 u46 u47 u48 u49 u50 u51 u52 u53 u54 u55 u56 u57 u58 u59 u60 u61 u62 u63 u64 u65 u66 u67 u68 u69 u70 u71 u72 u73 u74 u75 u76 u77 u78 u79 u80 u81 u82 u83 u84 u85 u86 u87 u88 u89 u90 u91 u92 u93 u94 u95 u96 u97 u98 u99 u100 u101 u102 u103 u104 u105 u106 u107 u108 u109 u110 u111 u112 u113 u114 u115 u116 u117 u118 u119 u120 u121 u122 u123 u124 u125 u126 u127 u128 u129 u130 u131 u132 u133 u134 u135 u136 u137 u138 u139 u140 u141 u142 u143 u144 u145 u146 u147 u148 u149 u150 u151 u152 u153 u154 u155 u156 u157 u158 u159 u160 u161 u162 u163 u164 u165 u166 u167 u168 u169 u170 u171 u172 u173 u174 u175 u176 u177 u178 u179 u180 u181 u182 u183 u184 u185 u186 u187 u188 u189 u190 u191 u192 u193 u194 u195 u196 u197 u198 u199 u200 u201 u202 u203 u204 u205 u206 u207 u208 u209 u210 u211 u212 u213 u214 u215 u216 u217 u218 u219 u220 u221 u222 u223 u224 u225 u226 u227 u228 u229 u230 u231 u232 u233 u234 u235 u236 : Value, q ⟨#[u0, u1, u2, u3, u4, u5, u6, u7, u8, u9, u10, u11, u12, u13, u14, u15, u16, u17, u18, u19, u20, u21, u22, u23, u24, u25, u26, u27, u28, u29, u30, u31, u32, u33, u34, u35, u36, u37, u38, u39, u40, u41, u42, u43, u44, u45, u46, u47, u48, u49, u50, u51, u52, u53, u54, u55, u56, u57, u58, u59, u60, u61, u62, u63, u64, u65, u66, u67, u68, u69, u70, u71, u72, u73, u74, u75, u76, u77, u78, u79, u80, u81, u82, u83, u84, u85, u86, u87, u88, u89, u90, u91, u92, u93, u94, u95, u96, u97, u98, u99, u100, u101, u102, u103, u104, u105, u106, u107, u108, u109, u110, u111, u112, u113, u114, u115, u116, u117, u118, u119, u120, u121, u122, u123, u124, u125, u126, u127, u128, u129, u130, u131, u132, u133, u134, u135, u136, u137, u138, u139, u140, u141, u142, u143, u144, u145, u146, u147, u148, u149, u150, u151, u152, u153, u154, u155, u156, u157, u158, u159, u160, u161, u162, u163, u164, u165, u166, u167, u168, u169, u170, u171, u172, u173, u174, u175, u176, u177, u178, u179, u180, u181, u182, u183, u184, u185, u186, u187, u188, u189, u190, u191, u192, u193, u194, u195, u196, u197, u198, u199, u200, u201, u202, u203, u204, u205, u206, u207, u208, u209, u210, u211, u212, u213, u214, u215, u216, u217, u218, u219, u220, u221, u222, u223, u224, u225, u226, u227, u228, u229, u230, u231, u232, u233, u234, u235, u236], []⟩ → K ⟨#[u0, u1, u2, u3, u4, u5, u6, u7, u8, u9, u10, u11, u12, u13, u14, u15, u16, u17, u18, u19, u20, u21, u22, u23, u24, u25, u26, u27, u28, u29, u30, u31, u32, u33, u34, u35, u36, u37, u38, u39, u40, u41, u42, u43, u44, u45, u46, u47, u48, u49, u50, u51, u52, u53, u54, u55, u56, u57, u58, u59, u60, u61, u62, u63, u64, u65, u66, u67, u68, u69, u70, u71, u72, u73, u74, u75, u76, u77, u78, u79, u80, u81, u82, u83, u84, u85, u86, u87, u88, u89, u90, u91, u92, u93, u94, u95, u96, u97, u98, u99, u100, u101, u102, u103, u104, u105, u106, u107, u108, u109, u110, u111, u112, u113, u114, u115, u116, u117, u118, u119, u120, u121, u122, u123, u124, u125, u126, u127, u128, u129, u130, u131, u132, u133, u134, u135, u136, u137, u138, u139, u140, u141, u142, u143, u144, u145, u146, u147, u148, u149, u150, u151, u152, u153, u154, u155, u156, u157, u158, u159, u160, u161, u162, u163, u164, u165, u166, u167, u168, u169, u170, u171, u172, u173, u174, u175, u176, u177, u178, u179, u180, u181, u182, u183, u184, u185, u186, u187, u188, u189, u190, u191, u192, u193, u194, u195, u196, u197, u198, u199, u200, u201, u202, u203, u204, u205, u206, u207, u208, u209, u210, u211, u212, u213, u214, u215, u216, u217, u218, u219, u220, u221, u222, u223, u224, u225, u226, u227, u228, u229, u230, u231, u232, u233, u234, u235, u236], []⟩ w') (a : Act) (hd : a.defers = []) (hs : a.tmps.size = 237) (hq : q a) : K a w' :=
  act237 (p := fun a => q a → K a w') h a hd hs hq

theorem met_start (a b : Bool) (A : Option Addr) (n c : Nat) (w : World) : ∃ rk, Both w ((((w.alloc (.cells #[.bool a, .bool b, .slice A n c] 36)).alloc (.cells #[.bool a, .bool b] 37)).alloc (.cells #[.int .i64 0, .int .i64 0] 38)).alloc (.cells #[.slice none 0 0, .slice none 0 0] 40)) a b A n c 0 0 rk := by
  obtain ⟨rk, hM⟩ := Meet.start a b
  refine ⟨rk, 0, 0, none, 0, 0, [], none, 0, 0, [], ⟨bAlloc (bAlloc (bAlloc (bAlloc (Below.refl _ _) _) _) _) _, (((SR.new 36 w [.bool a, .bool b, .slice A n c]).alloc _).alloc _).alloc _, ?_, ?_, ?_, OwnQ.nil _ _, OwnQ.nil _ _, rfl, rfl, fun g hg => by simp [Value.ownBlock] at hg⟩, hM⟩
  · have := SR.new 37 (w.alloc (.cells #[.bool a, .bool b, .slice A n c] 36)) [.bool a, .bool b]
    rw [World.size_alloc] at this
    exact (this.alloc _).alloc _
  · have := SR.new 38 ((w.alloc (.cells #[.bool a, .bool b, .slice A n c] 36)).alloc (.cells #[.bool a, .bool b] 37)) [.int .i64 0, .int .i64 0]
    rw [World.size_alloc, World.size_alloc] at this
    exact this.alloc _
  · have := SR.new 40 (((w.alloc (.cells #[.bool a, .bool b, .slice A n c] 36)).alloc (.cells #[.bool a, .bool b] 37)).alloc (.cells #[.int .i64 0, .int .i64 0] 38)) [.slice none 0 0, .slice none 0 0]
    rw [World.size_alloc, World.size_alloc, World.size_alloc] at this
    exact this

set_option maxRecDepth 100000 in
set_option maxHeartbeats 4000000 in
theorem meets_law (a b : Bool) (A : Option Addr) (l : List Ac) (n c : Nat) (hn : n = l.length) (w : World) (hL : Laid w) (hr : RdA w A l c) :
    Calls Tryd.prog 5 #[.agg #[.bool a, .bool b, .slice A n c]] w fun e w' => e = .returned (.bool true) ∧ Below w.heap.size w w' := by
  have HL := keepd hL
  have HR := keepd hr
  have HN := keepd hn
  obtain ⟨rk0, hs0⟩ := met_start a b A n c w
  have HS0 := keepd hs0
  clear hL hr hn hs0
  go_enter Tryd.func5, Tryd.ntmps5
  go_wp2_with fail
  refine wp_loop_ghost (c := metBody1) (fun M f wr => ∃ k, M = 61 - k ∧ MetI a b A n c w k f wr) 61 ⟨0, rfl, ⟨rfl, rfl, rfl, rfl, rfl, rfl⟩, 0, 0, rk0, rfl, rfl, rfl, by omega, by omega, by omega, HS0.out⟩ ?_
  rintro M f wr ⟨k, rfl, hI⟩
  refine met_round a b A l n c HN.out w HL.out HR.out k f wr hI _ _ _ (fun a' w' h h1 => ⟨61 - (k + 1), by omega, k + 1, rfl, h⟩) ?_
  clear hI HS0
  intro a' w' hI
  refine actK (q := fun a' => MetI a b A n c w k a' w') ?_ a' hI.1.1 hI.1.2.1 hI
  clear hI a'
  intro u0 u1 u2 u3 u4 u5 u6 u7 u8 u9 u10 u11 u12 u13 u14 u15 u16 u17 u18 u19 u20 u21 u22 u23 u24 u25 u26 u27 u28 u29 u30 u31 u32 u33 u34 u35 u36 u37 u38 u39 u40 u41 u42 u43 u44 u45 u46 u47 u48 u49 u50 u51 u52 u53 u54 u55 u56 u57 u58 u59 u60 u61 u62 u63 u64 u65 u66 u67 u68 u69 u70 u71 u72 u73 u74 u75 u76 u77 u78 u79 u80 u81 u82 u83 u84 u85 u86 u87 u88 u89 u90 u91 u92 u93 u94 u95 u96 u97 u98 u99 u100 u101 u102 u103 u104 u105 u106 u107 u108 u109 u110 u111 u112 u113 u114 u115 u116 u117 u118 u119 u120 u121 u122 u123 u124 u125 u126 u127 u128 u129 u130 u131 u132 u133 u134 u135 u136 u137 u138 u139 u140 u141 u142 u143 u144 u145 u146 u147 u148 u149 u150 u151 u152 u153 u154 u155 u156 u157 u158 u159 u160 u161 u162 u163 u164 u165 u166 u167 u168 u169 u170 u171 u172 u173 u174 u175 u176 u177 u178 u179 u180 u181 u182 u183 u184 u185 u186 u187 u188 u189 u190 u191 u192 u193 u194 u195 u196 u197 u198 u199 u200 u201 u202 u203 u204 u205 u206 u207 u208 u209 u210 u211 u212 u213 u214 u215 u216 u217 u218 u219 u220 u221 u222 u223 u224 u225 u226 u227 u228 u229 u230 u231 u232 u233 u234 u235 u236 hI
  obtain ⟨⟨_, _, f1, f3, f4, f5⟩, asked, said, rk, f6, f7, _, _, hk60, hak, hB⟩ := hI
  obtain rfl : u1 = _ := Option.some.inj f1
  obtain rfl : u3 = _ := Option.some.inj f3
  obtain rfl : u4 = _ := Option.some.inj f4
  obtain rfl : u5 = _ := Option.some.inj f5
  obtain rfl : u6 = _ := Option.some.inj f6
  obtain rfl : u7 = _ := Option.some.inj f7
  have hrk : rk ≤ 5 := by
    obtain ⟨_, _, _, _, _, _, _, _, _, _, _, hM⟩ := hB
    exact hM.bounds.2.2.2.2.2.2
  have HB := keepd hB
  clear f1 f3 f4 f5 f6 f7 hB
  go_wp2_with fail
  refine wp_loop_ghost (c := metBody2) (fun M f wr => ∃ m, M = 6 - m ∧ MetD a b A n c w m f wr) 6 ⟨0, rfl, ⟨rfl, rfl, rfl, rfl, rfl, rfl⟩, asked, said, rk, rfl, rfl, rfl, by omega, by omega, HB.out⟩ ?_
  clear HB
  rintro M f w2 ⟨m, rfl, hI⟩
  have hm5 : m ≤ 5 := by
    obtain ⟨_, _, _, _, _, _, _, h, _⟩ := hI
    omega
  refine dr_round a b A n c w HL.out m f w2 hI _ _ _ (fun a' w' h => ⟨6 - (m + 1), by omega, m + 1, rfl, h⟩) ?_
  clear hI
  intro a' w3 hI
  refine actK (q := fun a' => MetE a b A n c w a' w3) ?_ a' hI.1.1 hI.1.2.1 hI
  clear hI a'
  intro v0 v1 v2 v3 v4 v5 v6 v7 v8 v9 v10 v11 v12 v13 v14 v15 v16 v17 v18 v19 v20 v21 v22 v23 v24 v25 v26 v27 v28 v29 v30 v31 v32 v33 v34 v35 v36 v37 v38 v39 v40 v41 v42 v43 v44 v45 v46 v47 v48 v49 v50 v51 v52 v53 v54 v55 v56 v57 v58 v59 v60 v61 v62 v63 v64 v65 v66 v67 v68 v69 v70 v71 v72 v73 v74 v75 v76 v77 v78 v79 v80 v81 v82 v83 v84 v85 v86 v87 v88 v89 v90 v91 v92 v93 v94 v95 v96 v97 v98 v99 v100 v101 v102 v103 v104 v105 v106 v107 v108 v109 v110 v111 v112 v113 v114 v115 v116 v117 v118 v119 v120 v121 v122 v123 v124 v125 v126 v127 v128 v129 v130 v131 v132 v133 v134 v135 v136 v137 v138 v139 v140 v141 v142 v143 v144 v145 v146 v147 v148 v149 v150 v151 v152 v153 v154 v155 v156 v157 v158 v159 v160 v161 v162 v163 v164 v165 v166 v167 v168 v169 v170 v171 v172 v173 v174 v175 v176 v177 v178 v179 v180 v181 v182 v183 v184 v185 v186 v187 v188 v189 v190 v191 v192 v193 v194 v195 v196 v197 v198 v199 v200 v201 v202 v203 v204 v205 v206 v207 v208 v209 v210 v211 v212 v213 v214 v215 v216 v217 v218 v219 v220 v221 v222 v223 v224 v225 v226 v227 v228 v229 v230 v231 v232 v233 v234 v235 v236 hI
  obtain ⟨⟨_, _, f1, f3, f4, f5⟩, asked2, said2, rk2, f6, f7, hak2, x0, x1, A0, n0, c0, A1, n1, c1, hJ, hM⟩ := hI
  obtain rfl : v1 = _ := Option.some.inj f1
  obtain rfl : v3 = _ := Option.some.inj f3
  obtain rfl : v4 = _ := Option.some.inj f4
  obtain rfl : v5 = _ := Option.some.inj f5
  obtain rfl : v6 = _ := Option.some.inj f6
  obtain rfl : v7 = _ := Option.some.inj f7
  obtain rfl : n0 = 0 := hJ.len0
  obtain rfl : n1 = 0 := hJ.len1
  obtain ⟨⟨p0, p1, _⟩, _, ⟨q0, q1⟩, ⟨t0, t1⟩, _⟩ := hJ.facts
  have hsa := hM.said_le
  have j1 : decide ((said2 : Int) ≤ 2 * (asked2 : Int)) = true := by simp; omega
  have HB := keepd hJ.bel
  have HL3 := keepd (HL.out.below hJ.bel)
  obtain ⟨rfl, hx⟩ := hM.rest
  clear f1 f3 f4 f5 f6 f7 hJ hM
  rcases hx with rfl | ⟨rfl, rfl, rfl⟩
  all_goals
    go_wp2_with (go_at_call 17; with_reducible refine (awake_any _ HL3.out).mono ?_; rintro e w4 ⟨rfl, hb4⟩)
    go_ret
    exact ⟨rfl, bCall HB.out hb4⟩

end Go.Proofs.YtiohcdedndbbgaaDoor
