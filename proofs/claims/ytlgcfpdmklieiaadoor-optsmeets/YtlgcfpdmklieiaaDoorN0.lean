/-
  OptsMeets: its three loops, and what holds at each round of them.
-/
import Derived.Test.YtlgcfpdmklieiaaDoorM8
import Derived.Deep.LoopGhost
namespace Go.Proofs.YtlgcfpdmklieiaaDoor
open Go.RowKit

/-- The loops of a text, in their order. -/
def loopsOf : Code → List Code
  | .loop c => [c]
  | .seq a b => loopsOf a ++ loopsOf b
  | .block _ c => loopsOf c
  | .scope c => loopsOf c
  | .cond _ a b => loopsOf a ++ loopsOf b
  | _ => []

noncomputable def metBody1 : Code := ((Tryd.f5.body.map loopsOf).getD []).getD 0 .skip
noncomputable def metBody2 : Code := ((Tryd.f5.body.map loopsOf).getD []).getD 1 .skip
noncomputable def metBody3 : Code := ((Tryd.f5.body.map loopsOf).getD []).getD 2 .skip

theorem cons_of {α : Type} {l : List α} {n : Nat} (h : l.length = n + 1) : ∃ x r, l = x :: r ∧ r.length = n := by
  cases l with
  | nil => simp at h
  | cons x r => exact ⟨x, r, rfl, by simpa using h⟩

/-- The variables that lie in memory, what was asked and said, and the frame's size. -/
def Fr (h bO bT : Nat) (asked said : Nat) (a : Act) : Prop := a.defers = [] ∧ a.tmps.size = 260 ∧ a.tmps[1]? = some (.pointer (some ⟨h, 0, none⟩)) ∧ a.tmps[3]? = some (.pointer (some ⟨bO, 0, none⟩)) ∧ a.tmps[4]? = some (.pointer (some ⟨bT, 0, none⟩)) ∧ a.tmps[5]? = some (.int .i64 asked) ∧ a.tmps[6]? = some (.int .i64 said)

/-- The pair's cells. -/
def pairC (ma mb mc md : Four Bool) (A : Option Addr) (n c : Nat) : List Value :=
  [.bool ma.a, .bool ma.b, .bool ma.c, .bool ma.d, .bool mb.a, .bool mb.b, .bool mb.c, .bool mb.d, .bool mc.a, .bool mc.b, .bool mc.c, .bool mc.d, .bool md.a, .bool md.b, .bool md.c, .bool md.d, .slice A n c]

/-- What holds when round k of the first loop begins. -/
def MetI (w : World) (P : List Value) (n : Nat) (k : Nat) (f : Act) (W : World) : Prop :=
  ∃ (bO bT asked said : Nat) (A B : O) (v0 v1 : Value) (s t : List (Int × Int)), Fr w.heap.size bO bT asked said f ∧ f.tmps[7]? = some (.int .i64 k) ∧ k ≤ n ∧ k ≤ 60 ∧ asked ≤ k ∧ s.length + t.length ≤ said ∧ MJ w P bO bT A B v0 v1 s t W ∧ Meets A B s t said asked

/-- What holds when round m of the second loop begins. -/
def MetD (w : World) (P : List Value) (m : Nat) (f : Act) (W : World) : Prop :=
  ∃ (bO bT asked said : Nat) (A B : O) (v0 v1 : Value) (s t : List (Int × Int)), Fr w.heap.size bO bT asked said f ∧ f.tmps[12]? = some (.int .i64 m) ∧ asked ≤ 60 ∧ s.length + t.length + m ≤ said ∧ MJ w P bO bT A B v0 v1 s t W ∧ Meets A B s t said asked

/-- What holds when round i of the third loop begins: nothing is under way. -/
def MetE (w : World) (P : List Value) (i : Nat) (f : Act) (W : World) : Prop :=
  ∃ (bO bT asked said : Nat) (A B : O) (v0 v1 : Value), Fr w.heap.size bO bT asked said f ∧ f.tmps[18]? = some (.int .i64 i) ∧ i ≤ 4 ∧ asked ≤ 60 ∧ MJ w P bO bT A B v0 v1 [] [] W ∧ Meets A B [] [] said asked

/-- What holds behind the second loop. -/
def MetE0 (w : World) (P : List Value) (f : Act) (W : World) : Prop :=
  ∃ (bO bT asked said : Nat) (A B : O) (v0 v1 : Value), Fr w.heap.size bO bT asked said f ∧ asked ≤ 60 ∧ MJ w P bO bT A B v0 v1 [] [] W ∧ Meets A B [] [] said asked

theorem MJ.len0 {w W : World} {P : List Value} {bO bT : Nat} {A B : O} {v0 v1 : Value} {s t : List (Int × Int)} (h : MJ w P bO bT A B v0 v1 s t W) : ∃ A c, v0 = .slice A s.length c ∧ s.length ≤ c ∧ c ≤ maxLen := h.own0.slice
theorem MJ.len1 {w W : World} {P : List Value} {bO bT : Nat} {A B : O} {v0 v1 : Value} {s t : List (Int × Int)} (h : MJ w P bO bT A B v0 v1 s t W) : ∃ A c, v1 = .slice A t.length c ∧ t.length ≤ c ∧ c ≤ maxLen := h.own1.slice

set_option maxRecDepth 100000 in
set_option maxHeartbeats 4000000 in
/-- A frame of 260 slots is its slots. -/
theorem act260 {p : Act → Prop} (h : ∀ u0 u1 u2 u3 u4 u5 u6 u7 u8 u9 u10 u11 u12 u13 u14 u15 u16 u17 u18 u19 u20 u21 u22 u23 u24 u25 u26 u27 u28 u29 u30 u31 u32 u33 u34 u35 u36 u37 u38 u39 u40 u41 u42 u43 u44 u45 u46 u47 u48 u49 u50 u51 u52 u53 u54 u55 u56 u57 u58 u59 u60 u61 u62 u63 u64 u65 u66 u67 u68 u69 u70 u71 u72 u73 u74 u75 u76 u77 u78 u79 u80 u81 u82 u83 u84 u85 u86 u87 u88 u89 u90 u91 u92 u93 u94 u95 u96 u97 u98 u99 u100 u101 u102 u103 u104 u105 u106 u107 u108 u109 u110 u111 u112 u113 u114 u115 u116 u117 u118 u119 u120 u121 u122 u123 u124 u125 u126 u127 u128 u129 u130 u131 u132 u133 u134 u135 u136 u137 u138 u139 u140 u141 u142 u143 u144 u145 u146 u147 u148 u149 u150 u151 u152 u153 u154 u155 u156 u157 u158 u159 u160 u161 u162 u163 u164 u165 u166 u167 u168 u169 u170 u171 u172 u173 u174 u175 u176 u177 u178 u179 u180 u181 u182 u183 u184 u185 u186 u187 u188 u189 u190 u191 u192 u193 u194 u195 u196 u197 u198 u199 u200 u201 u202 u203 u204 u205 u206 u207 u208 u209 u210 u211 u212 u213 u214 u215 u216 u217 u218 u219 u220 u221 u222 u223 u224 u225 u226 u227 u228 u229 u230 u231 u232 u233 u234 u235 u236 u237 u238 u239 u240 u241 u242 u243 u244 u245 u246 u247 u248 u249 u250 u251 u252 u253 u254 u255 u256 u257 u258 u259 : Value, p ⟨#[u0, u1, u2, u3, u4, u5, u6, u7, u8, u9, u10, u11, u12, u13, u14, u15, u16, u17, u18, u19, u20, u21, u22, u23, u24, u25, u26, u27, u28, u29, u30, u31, u32, u33, u34, u35, u36, u37, u38, u39, u40, u41, u42, u43, u44, u45, u46, u47, u48, u49, u50, u51, u52, u53, u54, u55, u56, u57, u58, u59, u60, u61, u62, u63, u64, u65, u66, u67, u68, u69, u70, u71, u72, u73, u74, u75, u76, u77, u78, u79, u80, u81, u82, u83, u84, u85, u86, u87, u88, u89, u90, u91, u92, u93, u94, u95, u96, u97, u98, u99, u100, u101, u102, u103, u104, u105, u106, u107, u108, u109, u110, u111, u112, u113, u114, u115, u116, u117, u118, u119, u120, u121, u122, u123, u124, u125, u126, u127, u128, u129, u130, u131, u132, u133, u134, u135, u136, u137, u138, u139, u140, u141, u142, u143, u144, u145, u146, u147, u148, u149, u150, u151, u152, u153, u154, u155, u156, u157, u158, u159, u160, u161, u162, u163, u164, u165, u166, u167, u168, u169, u170, u171, u172, u173, u174, u175, u176, u177, u178, u179, u180, u181, u182, u183, u184, u185, u186, u187, u188, u189, u190, u191, u192, u193, u194, u195, u196, u197, u198, u199, u200, u201, u202, u203, u204, u205, u206, u207, u208, u209, u210, u211, u212, u213, u214, u215, u216, u217, u218, u219, u220, u221, u222, u223, u224, u225, u226, u227, u228, u229, u230, u231, u232, u233, u234, u235, u236, u237, u238, u239, u240, u241, u242, u243, u244, u245, u246, u247, u248, u249, u250, u251, u252, u253, u254, u255, u256, u257, u258, u259], []⟩) (a : Act) (hd : a.defers = []) (hs : a.tmps.size = 260) : p a := by
  obtain ⟨⟨l0⟩, df⟩ := a
  simp only at hd
  subst hd
  have z0 : l0.length = 260 := by simpa using hs
  clear hs
  obtain ⟨u0, l1, rfl, z1⟩ := cons_of z0
  clear z0
  obtain ⟨u1, l2, rfl, z2⟩ := cons_of z1
  clear z1
  obtain ⟨u2, l3, rfl, z3⟩ := cons_of z2
  clear z2
  obtain ⟨u3, l4, rfl, z4⟩ := cons_of z3
  clear z3
  obtain ⟨u4, l5, rfl, z5⟩ := cons_of z4
  clear z4
  obtain ⟨u5, l6, rfl, z6⟩ := cons_of z5
  clear z5
  obtain ⟨u6, l7, rfl, z7⟩ := cons_of z6
  clear z6
  obtain ⟨u7, l8, rfl, z8⟩ := cons_of z7
  clear z7
  obtain ⟨u8, l9, rfl, z9⟩ := cons_of z8
  clear z8
  obtain ⟨u9, l10, rfl, z10⟩ := cons_of z9
  clear z9
  obtain ⟨u10, l11, rfl, z11⟩ := cons_of z10
  clear z10
  obtain ⟨u11, l12, rfl, z12⟩ := cons_of z11
  clear z11
  obtain ⟨u12, l13, rfl, z13⟩ := cons_of z12
  clear z12
  obtain ⟨u13, l14, rfl, z14⟩ := cons_of z13
  clear z13
  obtain ⟨u14, l15, rfl, z15⟩ := cons_of z14
  clear z14
  obtain ⟨u15, l16, rfl, z16⟩ := cons_of z15
  clear z15
  obtain ⟨u16, l17, rfl, z17⟩ := cons_of z16
  clear z16
  obtain ⟨u17, l18, rfl, z18⟩ := cons_of z17
  clear z17
  obtain ⟨u18, l19, rfl, z19⟩ := cons_of z18
  clear z18
  obtain ⟨u19, l20, rfl, z20⟩ := cons_of z19
  clear z19
  obtain ⟨u20, l21, rfl, z21⟩ := cons_of z20
  clear z20
  obtain ⟨u21, l22, rfl, z22⟩ := cons_of z21
  clear z21
  obtain ⟨u22, l23, rfl, z23⟩ := cons_of z22
  clear z22
  obtain ⟨u23, l24, rfl, z24⟩ := cons_of z23
  clear z23
  obtain ⟨u24, l25, rfl, z25⟩ := cons_of z24
  clear z24
  obtain ⟨u25, l26, rfl, z26⟩ := cons_of z25
  clear z25
  obtain ⟨u26, l27, rfl, z27⟩ := cons_of z26
  clear z26
  obtain ⟨u27, l28, rfl, z28⟩ := cons_of z27
  clear z27
  obtain ⟨u28, l29, rfl, z29⟩ := cons_of z28
  clear z28
  obtain ⟨u29, l30, rfl, z30⟩ := cons_of z29
  clear z29
  obtain ⟨u30, l31, rfl, z31⟩ := cons_of z30
  clear z30
  obtain ⟨u31, l32, rfl, z32⟩ := cons_of z31
  clear z31
  obtain ⟨u32, l33, rfl, z33⟩ := cons_of z32
  clear z32
  obtain ⟨u33, l34, rfl, z34⟩ := cons_of z33
  clear z33
  obtain ⟨u34, l35, rfl, z35⟩ := cons_of z34
  clear z34
  obtain ⟨u35, l36, rfl, z36⟩ := cons_of z35
  clear z35
  obtain ⟨u36, l37, rfl, z37⟩ := cons_of z36
  clear z36
  obtain ⟨u37, l38, rfl, z38⟩ := cons_of z37
  clear z37
  obtain ⟨u38, l39, rfl, z39⟩ := cons_of z38
  clear z38
  obtain ⟨u39, l40, rfl, z40⟩ := cons_of z39
  clear z39
  obtain ⟨u40, l41, rfl, z41⟩ := cons_of z40
  clear z40
  obtain ⟨u41, l42, rfl, z42⟩ := cons_of z41
  clear z41
  obtain ⟨u42, l43, rfl, z43⟩ := cons_of z42
  clear z42
  obtain ⟨u43, l44, rfl, z44⟩ := cons_of z43
  clear z43
  obtain ⟨u44, l45, rfl, z45⟩ := cons_of z44
  clear z44
  obtain ⟨u45, l46, rfl, z46⟩ := cons_of z45
  clear z45
  obtain ⟨u46, l47, rfl, z47⟩ := cons_of z46
  clear z46
  obtain ⟨u47, l48, rfl, z48⟩ := cons_of z47
  clear z47
  obtain ⟨u48, l49, rfl, z49⟩ := cons_of z48
  clear z48
  obtain ⟨u49, l50, rfl, z50⟩ := cons_of z49
  clear z49
  obtain ⟨u50, l51, rfl, z51⟩ := cons_of z50
  clear z50
  obtain ⟨u51, l52, rfl, z52⟩ := cons_of z51
  clear z51
  obtain ⟨u52, l53, rfl, z53⟩ := cons_of z52
  clear z52
  obtain ⟨u53, l54, rfl, z54⟩ := cons_of z53
  clear z53
  obtain ⟨u54, l55, rfl, z55⟩ := cons_of z54
  clear z54
  obtain ⟨u55, l56, rfl, z56⟩ := cons_of z55
  clear z55
  obtain ⟨u56, l57, rfl, z57⟩ := cons_of z56
  clear z56
  obtain ⟨u57, l58, rfl, z58⟩ := cons_of z57
  clear z57
  obtain ⟨u58, l59, rfl, z59⟩ := cons_of z58
  clear z58
  obtain ⟨u59, l60, rfl, z60⟩ := cons_of z59
  clear z59
  obtain ⟨u60, l61, rfl, z61⟩ := cons_of z60
  clear z60
  obtain ⟨u61, l62, rfl, z62⟩ := cons_of z61
  clear z61
  obtain ⟨u62, l63, rfl, z63⟩ := cons_of z62
  clear z62
  obtain ⟨u63, l64, rfl, z64⟩ := cons_of z63
  clear z63
  obtain ⟨u64, l65, rfl, z65⟩ := cons_of z64
  clear z64
  obtain ⟨u65, l66, rfl, z66⟩ := cons_of z65
  clear z65
  obtain ⟨u66, l67, rfl, z67⟩ := cons_of z66
  clear z66
  obtain ⟨u67, l68, rfl, z68⟩ := cons_of z67
  clear z67
  obtain ⟨u68, l69, rfl, z69⟩ := cons_of z68
  clear z68
  obtain ⟨u69, l70, rfl, z70⟩ := cons_of z69
  clear z69
  obtain ⟨u70, l71, rfl, z71⟩ := cons_of z70
  clear z70
  obtain ⟨u71, l72, rfl, z72⟩ := cons_of z71
  clear z71
  obtain ⟨u72, l73, rfl, z73⟩ := cons_of z72
  clear z72
  obtain ⟨u73, l74, rfl, z74⟩ := cons_of z73
  clear z73
  obtain ⟨u74, l75, rfl, z75⟩ := cons_of z74
  clear z74
  obtain ⟨u75, l76, rfl, z76⟩ := cons_of z75
  clear z75
  obtain ⟨u76, l77, rfl, z77⟩ := cons_of z76
  clear z76
  obtain ⟨u77, l78, rfl, z78⟩ := cons_of z77
  clear z77
  obtain ⟨u78, l79, rfl, z79⟩ := cons_of z78
  clear z78
  obtain ⟨u79, l80, rfl, z80⟩ := cons_of z79
  clear z79
  obtain ⟨u80, l81, rfl, z81⟩ := cons_of z80
  clear z80
  obtain ⟨u81, l82, rfl, z82⟩ := cons_of z81
  clear z81
  obtain ⟨u82, l83, rfl, z83⟩ := cons_of z82
  clear z82
  obtain ⟨u83, l84, rfl, z84⟩ := cons_of z83
  clear z83
  obtain ⟨u84, l85, rfl, z85⟩ := cons_of z84
  clear z84
  obtain ⟨u85, l86, rfl, z86⟩ := cons_of z85
  clear z85
  obtain ⟨u86, l87, rfl, z87⟩ := cons_of z86
  clear z86
  obtain ⟨u87, l88, rfl, z88⟩ := cons_of z87
  clear z87
  obtain ⟨u88, l89, rfl, z89⟩ := cons_of z88
  clear z88
  obtain ⟨u89, l90, rfl, z90⟩ := cons_of z89
  clear z89
  obtain ⟨u90, l91, rfl, z91⟩ := cons_of z90
  clear z90
  obtain ⟨u91, l92, rfl, z92⟩ := cons_of z91
  clear z91
  obtain ⟨u92, l93, rfl, z93⟩ := cons_of z92
  clear z92
  obtain ⟨u93, l94, rfl, z94⟩ := cons_of z93
  clear z93
  obtain ⟨u94, l95, rfl, z95⟩ := cons_of z94
  clear z94
  obtain ⟨u95, l96, rfl, z96⟩ := cons_of z95
  clear z95
  obtain ⟨u96, l97, rfl, z97⟩ := cons_of z96
  clear z96
  obtain ⟨u97, l98, rfl, z98⟩ := cons_of z97
  clear z97
  obtain ⟨u98, l99, rfl, z99⟩ := cons_of z98
  clear z98
  obtain ⟨u99, l100, rfl, z100⟩ := cons_of z99
  clear z99
  obtain ⟨u100, l101, rfl, z101⟩ := cons_of z100
  clear z100
  obtain ⟨u101, l102, rfl, z102⟩ := cons_of z101
  clear z101
  obtain ⟨u102, l103, rfl, z103⟩ := cons_of z102
  clear z102
  obtain ⟨u103, l104, rfl, z104⟩ := cons_of z103
  clear z103
  obtain ⟨u104, l105, rfl, z105⟩ := cons_of z104
  clear z104
  obtain ⟨u105, l106, rfl, z106⟩ := cons_of z105
  clear z105
  obtain ⟨u106, l107, rfl, z107⟩ := cons_of z106
  clear z106
  obtain ⟨u107, l108, rfl, z108⟩ := cons_of z107
  clear z107
  obtain ⟨u108, l109, rfl, z109⟩ := cons_of z108
  clear z108
  obtain ⟨u109, l110, rfl, z110⟩ := cons_of z109
  clear z109
  obtain ⟨u110, l111, rfl, z111⟩ := cons_of z110
  clear z110
  obtain ⟨u111, l112, rfl, z112⟩ := cons_of z111
  clear z111
  obtain ⟨u112, l113, rfl, z113⟩ := cons_of z112
  clear z112
  obtain ⟨u113, l114, rfl, z114⟩ := cons_of z113
  clear z113
  obtain ⟨u114, l115, rfl, z115⟩ := cons_of z114
  clear z114
  obtain ⟨u115, l116, rfl, z116⟩ := cons_of z115
  clear z115
  obtain ⟨u116, l117, rfl, z117⟩ := cons_of z116
  clear z116
  obtain ⟨u117, l118, rfl, z118⟩ := cons_of z117
  clear z117
  obtain ⟨u118, l119, rfl, z119⟩ := cons_of z118
  clear z118
  obtain ⟨u119, l120, rfl, z120⟩ := cons_of z119
  clear z119
  obtain ⟨u120, l121, rfl, z121⟩ := cons_of z120
  clear z120
  obtain ⟨u121, l122, rfl, z122⟩ := cons_of z121
  clear z121
  obtain ⟨u122, l123, rfl, z123⟩ := cons_of z122
  clear z122
  obtain ⟨u123, l124, rfl, z124⟩ := cons_of z123
  clear z123
  obtain ⟨u124, l125, rfl, z125⟩ := cons_of z124
  clear z124
  obtain ⟨u125, l126, rfl, z126⟩ := cons_of z125
  clear z125
  obtain ⟨u126, l127, rfl, z127⟩ := cons_of z126
  clear z126
  obtain ⟨u127, l128, rfl, z128⟩ := cons_of z127
  clear z127
  obtain ⟨u128, l129, rfl, z129⟩ := cons_of z128
  clear z128
  obtain ⟨u129, l130, rfl, z130⟩ := cons_of z129
  clear z129
  obtain ⟨u130, l131, rfl, z131⟩ := cons_of z130
  clear z130
  obtain ⟨u131, l132, rfl, z132⟩ := cons_of z131
  clear z131
  obtain ⟨u132, l133, rfl, z133⟩ := cons_of z132
  clear z132
  obtain ⟨u133, l134, rfl, z134⟩ := cons_of z133
  clear z133
  obtain ⟨u134, l135, rfl, z135⟩ := cons_of z134
  clear z134
  obtain ⟨u135, l136, rfl, z136⟩ := cons_of z135
  clear z135
  obtain ⟨u136, l137, rfl, z137⟩ := cons_of z136
  clear z136
  obtain ⟨u137, l138, rfl, z138⟩ := cons_of z137
  clear z137
  obtain ⟨u138, l139, rfl, z139⟩ := cons_of z138
  clear z138
  obtain ⟨u139, l140, rfl, z140⟩ := cons_of z139
  clear z139
  obtain ⟨u140, l141, rfl, z141⟩ := cons_of z140
  clear z140
  obtain ⟨u141, l142, rfl, z142⟩ := cons_of z141
  clear z141
  obtain ⟨u142, l143, rfl, z143⟩ := cons_of z142
  clear z142
  obtain ⟨u143, l144, rfl, z144⟩ := cons_of z143
  clear z143
  obtain ⟨u144, l145, rfl, z145⟩ := cons_of z144
  clear z144
  obtain ⟨u145, l146, rfl, z146⟩ := cons_of z145
  clear z145
  obtain ⟨u146, l147, rfl, z147⟩ := cons_of z146
  clear z146
  obtain ⟨u147, l148, rfl, z148⟩ := cons_of z147
  clear z147
  obtain ⟨u148, l149, rfl, z149⟩ := cons_of z148
  clear z148
  obtain ⟨u149, l150, rfl, z150⟩ := cons_of z149
  clear z149
  obtain ⟨u150, l151, rfl, z151⟩ := cons_of z150
  clear z150
  obtain ⟨u151, l152, rfl, z152⟩ := cons_of z151
  clear z151
  obtain ⟨u152, l153, rfl, z153⟩ := cons_of z152
  clear z152
  obtain ⟨u153, l154, rfl, z154⟩ := cons_of z153
  clear z153
  obtain ⟨u154, l155, rfl, z155⟩ := cons_of z154
  clear z154
  obtain ⟨u155, l156, rfl, z156⟩ := cons_of z155
  clear z155
  obtain ⟨u156, l157, rfl, z157⟩ := cons_of z156
  clear z156
  obtain ⟨u157, l158, rfl, z158⟩ := cons_of z157
  clear z157
  obtain ⟨u158, l159, rfl, z159⟩ := cons_of z158
  clear z158
  obtain ⟨u159, l160, rfl, z160⟩ := cons_of z159
  clear z159
  obtain ⟨u160, l161, rfl, z161⟩ := cons_of z160
  clear z160
  obtain ⟨u161, l162, rfl, z162⟩ := cons_of z161
  clear z161
  obtain ⟨u162, l163, rfl, z163⟩ := cons_of z162
  clear z162
  obtain ⟨u163, l164, rfl, z164⟩ := cons_of z163
  clear z163
  obtain ⟨u164, l165, rfl, z165⟩ := cons_of z164
  clear z164
  obtain ⟨u165, l166, rfl, z166⟩ := cons_of z165
  clear z165
  obtain ⟨u166, l167, rfl, z167⟩ := cons_of z166
  clear z166
  obtain ⟨u167, l168, rfl, z168⟩ := cons_of z167
  clear z167
  obtain ⟨u168, l169, rfl, z169⟩ := cons_of z168
  clear z168
  obtain ⟨u169, l170, rfl, z170⟩ := cons_of z169
  clear z169
  obtain ⟨u170, l171, rfl, z171⟩ := cons_of z170
  clear z170
  obtain ⟨u171, l172, rfl, z172⟩ := cons_of z171
  clear z171
  obtain ⟨u172, l173, rfl, z173⟩ := cons_of z172
  clear z172
  obtain ⟨u173, l174, rfl, z174⟩ := cons_of z173
  clear z173
  obtain ⟨u174, l175, rfl, z175⟩ := cons_of z174
  clear z174
  obtain ⟨u175, l176, rfl, z176⟩ := cons_of z175
  clear z175
  obtain ⟨u176, l177, rfl, z177⟩ := cons_of z176
  clear z176
  obtain ⟨u177, l178, rfl, z178⟩ := cons_of z177
  clear z177
  obtain ⟨u178, l179, rfl, z179⟩ := cons_of z178
  clear z178
  obtain ⟨u179, l180, rfl, z180⟩ := cons_of z179
  clear z179
  obtain ⟨u180, l181, rfl, z181⟩ := cons_of z180
  clear z180
  obtain ⟨u181, l182, rfl, z182⟩ := cons_of z181
  clear z181
  obtain ⟨u182, l183, rfl, z183⟩ := cons_of z182
  clear z182
  obtain ⟨u183, l184, rfl, z184⟩ := cons_of z183
  clear z183
  obtain ⟨u184, l185, rfl, z185⟩ := cons_of z184
  clear z184
  obtain ⟨u185, l186, rfl, z186⟩ := cons_of z185
  clear z185
  obtain ⟨u186, l187, rfl, z187⟩ := cons_of z186
  clear z186
  obtain ⟨u187, l188, rfl, z188⟩ := cons_of z187
  clear z187
  obtain ⟨u188, l189, rfl, z189⟩ := cons_of z188
  clear z188
  obtain ⟨u189, l190, rfl, z190⟩ := cons_of z189
  clear z189
  obtain ⟨u190, l191, rfl, z191⟩ := cons_of z190
  clear z190
  obtain ⟨u191, l192, rfl, z192⟩ := cons_of z191
  clear z191
  obtain ⟨u192, l193, rfl, z193⟩ := cons_of z192
  clear z192
  obtain ⟨u193, l194, rfl, z194⟩ := cons_of z193
  clear z193
  obtain ⟨u194, l195, rfl, z195⟩ := cons_of z194
  clear z194
  obtain ⟨u195, l196, rfl, z196⟩ := cons_of z195
  clear z195
  obtain ⟨u196, l197, rfl, z197⟩ := cons_of z196
  clear z196
  obtain ⟨u197, l198, rfl, z198⟩ := cons_of z197
  clear z197
  obtain ⟨u198, l199, rfl, z199⟩ := cons_of z198
  clear z198
  obtain ⟨u199, l200, rfl, z200⟩ := cons_of z199
  clear z199
  obtain ⟨u200, l201, rfl, z201⟩ := cons_of z200
  clear z200
  obtain ⟨u201, l202, rfl, z202⟩ := cons_of z201
  clear z201
  obtain ⟨u202, l203, rfl, z203⟩ := cons_of z202
  clear z202
  obtain ⟨u203, l204, rfl, z204⟩ := cons_of z203
  clear z203
  obtain ⟨u204, l205, rfl, z205⟩ := cons_of z204
  clear z204
  obtain ⟨u205, l206, rfl, z206⟩ := cons_of z205
  clear z205
  obtain ⟨u206, l207, rfl, z207⟩ := cons_of z206
  clear z206
  obtain ⟨u207, l208, rfl, z208⟩ := cons_of z207
  clear z207
  obtain ⟨u208, l209, rfl, z209⟩ := cons_of z208
  clear z208
  obtain ⟨u209, l210, rfl, z210⟩ := cons_of z209
  clear z209
  obtain ⟨u210, l211, rfl, z211⟩ := cons_of z210
  clear z210
  obtain ⟨u211, l212, rfl, z212⟩ := cons_of z211
  clear z211
  obtain ⟨u212, l213, rfl, z213⟩ := cons_of z212
  clear z212
  obtain ⟨u213, l214, rfl, z214⟩ := cons_of z213
  clear z213
  obtain ⟨u214, l215, rfl, z215⟩ := cons_of z214
  clear z214
  obtain ⟨u215, l216, rfl, z216⟩ := cons_of z215
  clear z215
  obtain ⟨u216, l217, rfl, z217⟩ := cons_of z216
  clear z216
  obtain ⟨u217, l218, rfl, z218⟩ := cons_of z217
  clear z217
  obtain ⟨u218, l219, rfl, z219⟩ := cons_of z218
  clear z218
  obtain ⟨u219, l220, rfl, z220⟩ := cons_of z219
  clear z219
  obtain ⟨u220, l221, rfl, z221⟩ := cons_of z220
  clear z220
  obtain ⟨u221, l222, rfl, z222⟩ := cons_of z221
  clear z221
  obtain ⟨u222, l223, rfl, z223⟩ := cons_of z222
  clear z222
  obtain ⟨u223, l224, rfl, z224⟩ := cons_of z223
  clear z223
  obtain ⟨u224, l225, rfl, z225⟩ := cons_of z224
  clear z224
  obtain ⟨u225, l226, rfl, z226⟩ := cons_of z225
  clear z225
  obtain ⟨u226, l227, rfl, z227⟩ := cons_of z226
  clear z226
  obtain ⟨u227, l228, rfl, z228⟩ := cons_of z227
  clear z227
  obtain ⟨u228, l229, rfl, z229⟩ := cons_of z228
  clear z228
  obtain ⟨u229, l230, rfl, z230⟩ := cons_of z229
  clear z229
  obtain ⟨u230, l231, rfl, z231⟩ := cons_of z230
  clear z230
  obtain ⟨u231, l232, rfl, z232⟩ := cons_of z231
  clear z231
  obtain ⟨u232, l233, rfl, z233⟩ := cons_of z232
  clear z232
  obtain ⟨u233, l234, rfl, z234⟩ := cons_of z233
  clear z233
  obtain ⟨u234, l235, rfl, z235⟩ := cons_of z234
  clear z234
  obtain ⟨u235, l236, rfl, z236⟩ := cons_of z235
  clear z235
  obtain ⟨u236, l237, rfl, z237⟩ := cons_of z236
  clear z236
  obtain ⟨u237, l238, rfl, z238⟩ := cons_of z237
  clear z237
  obtain ⟨u238, l239, rfl, z239⟩ := cons_of z238
  clear z238
  obtain ⟨u239, l240, rfl, z240⟩ := cons_of z239
  clear z239
  obtain ⟨u240, l241, rfl, z241⟩ := cons_of z240
  clear z240
  obtain ⟨u241, l242, rfl, z242⟩ := cons_of z241
  clear z241
  obtain ⟨u242, l243, rfl, z243⟩ := cons_of z242
  clear z242
  obtain ⟨u243, l244, rfl, z244⟩ := cons_of z243
  clear z243
  obtain ⟨u244, l245, rfl, z245⟩ := cons_of z244
  clear z244
  obtain ⟨u245, l246, rfl, z246⟩ := cons_of z245
  clear z245
  obtain ⟨u246, l247, rfl, z247⟩ := cons_of z246
  clear z246
  obtain ⟨u247, l248, rfl, z248⟩ := cons_of z247
  clear z247
  obtain ⟨u248, l249, rfl, z249⟩ := cons_of z248
  clear z248
  obtain ⟨u249, l250, rfl, z250⟩ := cons_of z249
  clear z249
  obtain ⟨u250, l251, rfl, z251⟩ := cons_of z250
  clear z250
  obtain ⟨u251, l252, rfl, z252⟩ := cons_of z251
  clear z251
  obtain ⟨u252, l253, rfl, z253⟩ := cons_of z252
  clear z252
  obtain ⟨u253, l254, rfl, z254⟩ := cons_of z253
  clear z253
  obtain ⟨u254, l255, rfl, z255⟩ := cons_of z254
  clear z254
  obtain ⟨u255, l256, rfl, z256⟩ := cons_of z255
  clear z255
  obtain ⟨u256, l257, rfl, z257⟩ := cons_of z256
  clear z256
  obtain ⟨u257, l258, rfl, z258⟩ := cons_of z257
  clear z257
  obtain ⟨u258, l259, rfl, z259⟩ := cons_of z258
  clear z258
  obtain ⟨u259, l260, rfl, z260⟩ := cons_of z259
  clear z259
  obtain rfl := List.eq_nil_of_length_eq_zero z260
  exact h u0 u1 u2 u3 u4 u5 u6 u7 u8 u9 u10 u11 u12 u13 u14 u15 u16 u17 u18 u19 u20 u21 u22 u23 u24 u25 u26 u27 u28 u29 u30 u31 u32 u33 u34 u35 u36 u37 u38 u39 u40 u41 u42 u43 u44 u45 u46 u47 u48 u49 u50 u51 u52 u53 u54 u55 u56 u57 u58 u59 u60 u61 u62 u63 u64 u65 u66 u67 u68 u69 u70 u71 u72 u73 u74 u75 u76 u77 u78 u79 u80 u81 u82 u83 u84 u85 u86 u87 u88 u89 u90 u91 u92 u93 u94 u95 u96 u97 u98 u99 u100 u101 u102 u103 u104 u105 u106 u107 u108 u109 u110 u111 u112 u113 u114 u115 u116 u117 u118 u119 u120 u121 u122 u123 u124 u125 u126 u127 u128 u129 u130 u131 u132 u133 u134 u135 u136 u137 u138 u139 u140 u141 u142 u143 u144 u145 u146 u147 u148 u149 u150 u151 u152 u153 u154 u155 u156 u157 u158 u159 u160 u161 u162 u163 u164 u165 u166 u167 u168 u169 u170 u171 u172 u173 u174 u175 u176 u177 u178 u179 u180 u181 u182 u183 u184 u185 u186 u187 u188 u189 u190 u191 u192 u193 u194 u195 u196 u197 u198 u199 u200 u201 u202 u203 u204 u205 u206 u207 u208 u209 u210 u211 u212 u213 u214 u215 u216 u217 u218 u219 u220 u221 u222 u223 u224 u225 u226 u227 u228 u229 u230 u231 u232 u233 u234 u235 u236 u237 u238 u239 u240 u241 u242 u243 u244 u245 u246 u247 u248 u249 u250 u251 u252 u253 u254 u255 u256 u257 u258 u259

end Go.Proofs.YtlgcfpdmklieiaaDoor
