/-
  QbitRow: its loop, and what holds at each round.
-/
import Derived.Test.YtiohcdedndbbgaaDoorT5
import Derived.Test.YtiohcdedndbbgaaDoorOpenL
import Derived.Deep.LoopGhost
namespace Go.Proofs.YtiohcdedndbbgaaDoor
open Go.RowKit

/-- Where it is, what was said last, and whether yes came: all that can be. -/
def RowR (q last : Int) (came : Bool) : Prop :=
  (q = 0 ∧ (last = 0 ∨ last = 2)) ∨ (q = 1 ∧ (last = 0 ∨ last = 1) ∧ came = true) ∨ (q = 2 ∧ last = 2 ∧ came = true) ∨ (q = 3 ∧ last = 2 ∧ came = true) ∨ (q = 4 ∧ last = 1) ∨ (q = 5 ∧ last = 1)

theorem gf0f (m : Bool) : gF 0 false m = (0, 0, 0) := by cases m <;> rfl
theorem gf1f (m : Bool) : gF 1 false m = (0, 2, 0) := by cases m <;> rfl
theorem gf1t (m : Bool) : gF 1 true m = (1, 0, 0) := by cases m <;> rfl
theorem gf2f (m : Bool) : gF 2 false m = (0, 0, 0) := by cases m <;> rfl
theorem gf2t (m : Bool) : gF 2 true m = (0, 0, 5) := by cases m <;> rfl
theorem gf3f (m : Bool) : gF 3 false m = (4, 1, 0) := by cases m <;> rfl
theorem gf3t (m : Bool) : gF 3 true m = (1, 0, 5) := by cases m <;> rfl
theorem gf4f (m : Bool) : gF 4 false m = (0, 0, 0) := by cases m <;> rfl
theorem gf4t (m : Bool) : gF 4 true m = (1, 0, 0) := by cases m <;> rfl
theorem gf5f (m : Bool) : gF 5 false m = (0, 0, 0) := by cases m <;> rfl
theorem gf5t (m : Bool) : gF 5 true m = (2, 2, 0) := by cases m <;> rfl

/-- The first loop of a text. -/
def firstLoop : Code → Option Code
  | .loop c => some c
  | .seq a b => match firstLoop a with
    | some c => some c
    | none => firstLoop b
  | .block _ c => firstLoop c
  | .scope c => firstLoop c
  | .cond _ a b => match firstLoop a with
    | some c => some c
    | none => firstLoop b
  | _ => none

noncomputable def rowBody : Code := (Tryd.f7.body.bind firstLoop).getD .skip

/-- What holds when round k begins. -/
def RowI (m : Bool) (A : Option Addr) (n c : Nat) (w : World) (k : Nat) (a : Act) (wr : World) : Prop :=
  a.defers = [] ∧ a.tmps.size = 141 ∧ a.tmps[0]? = some (.bool m) ∧ a.tmps[1]? = some (.slice A n c) ∧ a.tmps[8]? = some (.int .i64 k) ∧ k ≤ n ∧ k ≤ 100 ∧ Below w.heap.size w wr ∧
  ∃ q last came, a.tmps[5]? = some (.int .i64 q) ∧ a.tmps[6]? = some (.int .i64 last) ∧ a.tmps[7]? = some (.bool came) ∧ RowR q last came

theorem cons_of {α : Type} {l : List α} {n : Nat} (h : l.length = n + 1) : ∃ x r, l = x :: r ∧ r.length = n := by
  cases l with
  | nil => simp at h
  | cons x r => exact ⟨x, r, rfl, by simpa using h⟩

set_option maxRecDepth 100000 in
set_option maxHeartbeats 4000000 in
/-- A frame of 141 slots is its slots. -/
theorem act141 {p : Act → Prop} (h : ∀ u0 u1 u2 u3 u4 u5 u6 u7 u8 u9 u10 u11 u12 u13 u14 u15 u16 u17 u18 u19 u20 u21 u22 u23 u24 u25 u26 u27 u28 u29 u30 u31 u32 u33 u34 u35 u36 u37 u38 u39 u40 u41 u42 u43 u44 u45 u46 u47 u48 u49 u50 u51 u52 u53 u54 u55 u56 u57 u58 u59 u60 u61 u62 u63 u64 u65 u66 u67 u68 u69 u70 u71 u72 u73 u74 u75 u76 u77 u78 u79 u80 u81 u82 u83 u84 u85 u86 u87 u88 u89 u90 u91 u92 u93 u94 u95 u96 u97 u98 u99 u100 u101 u102 u103 u104 u105 u106 u107 u108 u109 u110 u111 u112 u113 u114 u115 u116 u117 u118 u119 u120 u121 u122 u123 u124 u125 u126 u127 u128 u129 u130 u131 u132 u133 u134 u135 u136 u137 u138 u139 u140 : Value, p ⟨#[u0, u1, u2, u3, u4, u5, u6, u7, u8, u9, u10, u11, u12, u13, u14, u15, u16, u17, u18, u19, u20, u21, u22, u23, u24, u25, u26, u27, u28, u29, u30, u31, u32, u33, u34, u35, u36, u37, u38, u39, u40, u41, u42, u43, u44, u45, u46, u47, u48, u49, u50, u51, u52, u53, u54, u55, u56, u57, u58, u59, u60, u61, u62, u63, u64, u65, u66, u67, u68, u69, u70, u71, u72, u73, u74, u75, u76, u77, u78, u79, u80, u81, u82, u83, u84, u85, u86, u87, u88, u89, u90, u91, u92, u93, u94, u95, u96, u97, u98, u99, u100, u101, u102, u103, u104, u105, u106, u107, u108, u109, u110, u111, u112, u113, u114, u115, u116, u117, u118, u119, u120, u121, u122, u123, u124, u125, u126, u127, u128, u129, u130, u131, u132, u133, u134, u135, u136, u137, u138, u139, u140], []⟩) (a : Act) (hd : a.defers = []) (hs : a.tmps.size = 141) : p a := by
  obtain ⟨⟨l0⟩, df⟩ := a
  simp only at hd
  subst hd
  have z0 : l0.length = 141 := by simpa using hs
  clear hs
  obtain ⟨u0, l1, rfl, z1⟩ := cons_of z0
  clear z0
  obtain ⟨u1, l2, rfl, z2⟩ := cons_of z1
  clear z1
  obtain ⟨u2, l3, rfl, z3⟩ := cons_of z2
  clear z2
  obtain ⟨u3, l4, rfl, z4⟩ := cons_of z3
  clear z3
  obtain ⟨u4, l5, rfl, z5⟩ := cons_of z4
  clear z4
  obtain ⟨u5, l6, rfl, z6⟩ := cons_of z5
  clear z5
  obtain ⟨u6, l7, rfl, z7⟩ := cons_of z6
  clear z6
  obtain ⟨u7, l8, rfl, z8⟩ := cons_of z7
  clear z7
  obtain ⟨u8, l9, rfl, z9⟩ := cons_of z8
  clear z8
  obtain ⟨u9, l10, rfl, z10⟩ := cons_of z9
  clear z9
  obtain ⟨u10, l11, rfl, z11⟩ := cons_of z10
  clear z10
  obtain ⟨u11, l12, rfl, z12⟩ := cons_of z11
  clear z11
  obtain ⟨u12, l13, rfl, z13⟩ := cons_of z12
  clear z12
  obtain ⟨u13, l14, rfl, z14⟩ := cons_of z13
  clear z13
  obtain ⟨u14, l15, rfl, z15⟩ := cons_of z14
  clear z14
  obtain ⟨u15, l16, rfl, z16⟩ := cons_of z15
  clear z15
  obtain ⟨u16, l17, rfl, z17⟩ := cons_of z16
  clear z16
  obtain ⟨u17, l18, rfl, z18⟩ := cons_of z17
  clear z17
  obtain ⟨u18, l19, rfl, z19⟩ := cons_of z18
  clear z18
  obtain ⟨u19, l20, rfl, z20⟩ := cons_of z19
  clear z19
  obtain ⟨u20, l21, rfl, z21⟩ := cons_of z20
  clear z20
  obtain ⟨u21, l22, rfl, z22⟩ := cons_of z21
  clear z21
  obtain ⟨u22, l23, rfl, z23⟩ := cons_of z22
  clear z22
  obtain ⟨u23, l24, rfl, z24⟩ := cons_of z23
  clear z23
  obtain ⟨u24, l25, rfl, z25⟩ := cons_of z24
  clear z24
  obtain ⟨u25, l26, rfl, z26⟩ := cons_of z25
  clear z25
  obtain ⟨u26, l27, rfl, z27⟩ := cons_of z26
  clear z26
  obtain ⟨u27, l28, rfl, z28⟩ := cons_of z27
  clear z27
  obtain ⟨u28, l29, rfl, z29⟩ := cons_of z28
  clear z28
  obtain ⟨u29, l30, rfl, z30⟩ := cons_of z29
  clear z29
  obtain ⟨u30, l31, rfl, z31⟩ := cons_of z30
  clear z30
  obtain ⟨u31, l32, rfl, z32⟩ := cons_of z31
  clear z31
  obtain ⟨u32, l33, rfl, z33⟩ := cons_of z32
  clear z32
  obtain ⟨u33, l34, rfl, z34⟩ := cons_of z33
  clear z33
  obtain ⟨u34, l35, rfl, z35⟩ := cons_of z34
  clear z34
  obtain ⟨u35, l36, rfl, z36⟩ := cons_of z35
  clear z35
  obtain ⟨u36, l37, rfl, z37⟩ := cons_of z36
  clear z36
  obtain ⟨u37, l38, rfl, z38⟩ := cons_of z37
  clear z37
  obtain ⟨u38, l39, rfl, z39⟩ := cons_of z38
  clear z38
  obtain ⟨u39, l40, rfl, z40⟩ := cons_of z39
  clear z39
  obtain ⟨u40, l41, rfl, z41⟩ := cons_of z40
  clear z40
  obtain ⟨u41, l42, rfl, z42⟩ := cons_of z41
  clear z41
  obtain ⟨u42, l43, rfl, z43⟩ := cons_of z42
  clear z42
  obtain ⟨u43, l44, rfl, z44⟩ := cons_of z43
  clear z43
  obtain ⟨u44, l45, rfl, z45⟩ := cons_of z44
  clear z44
  obtain ⟨u45, l46, rfl, z46⟩ := cons_of z45
  clear z45
  obtain ⟨u46, l47, rfl, z47⟩ := cons_of z46
  clear z46
  obtain ⟨u47, l48, rfl, z48⟩ := cons_of z47
  clear z47
  obtain ⟨u48, l49, rfl, z49⟩ := cons_of z48
  clear z48
  obtain ⟨u49, l50, rfl, z50⟩ := cons_of z49
  clear z49
  obtain ⟨u50, l51, rfl, z51⟩ := cons_of z50
  clear z50
  obtain ⟨u51, l52, rfl, z52⟩ := cons_of z51
  clear z51
  obtain ⟨u52, l53, rfl, z53⟩ := cons_of z52
  clear z52
  obtain ⟨u53, l54, rfl, z54⟩ := cons_of z53
  clear z53
  obtain ⟨u54, l55, rfl, z55⟩ := cons_of z54
  clear z54
  obtain ⟨u55, l56, rfl, z56⟩ := cons_of z55
  clear z55
  obtain ⟨u56, l57, rfl, z57⟩ := cons_of z56
  clear z56
  obtain ⟨u57, l58, rfl, z58⟩ := cons_of z57
  clear z57
  obtain ⟨u58, l59, rfl, z59⟩ := cons_of z58
  clear z58
  obtain ⟨u59, l60, rfl, z60⟩ := cons_of z59
  clear z59
  obtain ⟨u60, l61, rfl, z61⟩ := cons_of z60
  clear z60
  obtain ⟨u61, l62, rfl, z62⟩ := cons_of z61
  clear z61
  obtain ⟨u62, l63, rfl, z63⟩ := cons_of z62
  clear z62
  obtain ⟨u63, l64, rfl, z64⟩ := cons_of z63
  clear z63
  obtain ⟨u64, l65, rfl, z65⟩ := cons_of z64
  clear z64
  obtain ⟨u65, l66, rfl, z66⟩ := cons_of z65
  clear z65
  obtain ⟨u66, l67, rfl, z67⟩ := cons_of z66
  clear z66
  obtain ⟨u67, l68, rfl, z68⟩ := cons_of z67
  clear z67
  obtain ⟨u68, l69, rfl, z69⟩ := cons_of z68
  clear z68
  obtain ⟨u69, l70, rfl, z70⟩ := cons_of z69
  clear z69
  obtain ⟨u70, l71, rfl, z71⟩ := cons_of z70
  clear z70
  obtain ⟨u71, l72, rfl, z72⟩ := cons_of z71
  clear z71
  obtain ⟨u72, l73, rfl, z73⟩ := cons_of z72
  clear z72
  obtain ⟨u73, l74, rfl, z74⟩ := cons_of z73
  clear z73
  obtain ⟨u74, l75, rfl, z75⟩ := cons_of z74
  clear z74
  obtain ⟨u75, l76, rfl, z76⟩ := cons_of z75
  clear z75
  obtain ⟨u76, l77, rfl, z77⟩ := cons_of z76
  clear z76
  obtain ⟨u77, l78, rfl, z78⟩ := cons_of z77
  clear z77
  obtain ⟨u78, l79, rfl, z79⟩ := cons_of z78
  clear z78
  obtain ⟨u79, l80, rfl, z80⟩ := cons_of z79
  clear z79
  obtain ⟨u80, l81, rfl, z81⟩ := cons_of z80
  clear z80
  obtain ⟨u81, l82, rfl, z82⟩ := cons_of z81
  clear z81
  obtain ⟨u82, l83, rfl, z83⟩ := cons_of z82
  clear z82
  obtain ⟨u83, l84, rfl, z84⟩ := cons_of z83
  clear z83
  obtain ⟨u84, l85, rfl, z85⟩ := cons_of z84
  clear z84
  obtain ⟨u85, l86, rfl, z86⟩ := cons_of z85
  clear z85
  obtain ⟨u86, l87, rfl, z87⟩ := cons_of z86
  clear z86
  obtain ⟨u87, l88, rfl, z88⟩ := cons_of z87
  clear z87
  obtain ⟨u88, l89, rfl, z89⟩ := cons_of z88
  clear z88
  obtain ⟨u89, l90, rfl, z90⟩ := cons_of z89
  clear z89
  obtain ⟨u90, l91, rfl, z91⟩ := cons_of z90
  clear z90
  obtain ⟨u91, l92, rfl, z92⟩ := cons_of z91
  clear z91
  obtain ⟨u92, l93, rfl, z93⟩ := cons_of z92
  clear z92
  obtain ⟨u93, l94, rfl, z94⟩ := cons_of z93
  clear z93
  obtain ⟨u94, l95, rfl, z95⟩ := cons_of z94
  clear z94
  obtain ⟨u95, l96, rfl, z96⟩ := cons_of z95
  clear z95
  obtain ⟨u96, l97, rfl, z97⟩ := cons_of z96
  clear z96
  obtain ⟨u97, l98, rfl, z98⟩ := cons_of z97
  clear z97
  obtain ⟨u98, l99, rfl, z99⟩ := cons_of z98
  clear z98
  obtain ⟨u99, l100, rfl, z100⟩ := cons_of z99
  clear z99
  obtain ⟨u100, l101, rfl, z101⟩ := cons_of z100
  clear z100
  obtain ⟨u101, l102, rfl, z102⟩ := cons_of z101
  clear z101
  obtain ⟨u102, l103, rfl, z103⟩ := cons_of z102
  clear z102
  obtain ⟨u103, l104, rfl, z104⟩ := cons_of z103
  clear z103
  obtain ⟨u104, l105, rfl, z105⟩ := cons_of z104
  clear z104
  obtain ⟨u105, l106, rfl, z106⟩ := cons_of z105
  clear z105
  obtain ⟨u106, l107, rfl, z107⟩ := cons_of z106
  clear z106
  obtain ⟨u107, l108, rfl, z108⟩ := cons_of z107
  clear z107
  obtain ⟨u108, l109, rfl, z109⟩ := cons_of z108
  clear z108
  obtain ⟨u109, l110, rfl, z110⟩ := cons_of z109
  clear z109
  obtain ⟨u110, l111, rfl, z111⟩ := cons_of z110
  clear z110
  obtain ⟨u111, l112, rfl, z112⟩ := cons_of z111
  clear z111
  obtain ⟨u112, l113, rfl, z113⟩ := cons_of z112
  clear z112
  obtain ⟨u113, l114, rfl, z114⟩ := cons_of z113
  clear z113
  obtain ⟨u114, l115, rfl, z115⟩ := cons_of z114
  clear z114
  obtain ⟨u115, l116, rfl, z116⟩ := cons_of z115
  clear z115
  obtain ⟨u116, l117, rfl, z117⟩ := cons_of z116
  clear z116
  obtain ⟨u117, l118, rfl, z118⟩ := cons_of z117
  clear z117
  obtain ⟨u118, l119, rfl, z119⟩ := cons_of z118
  clear z118
  obtain ⟨u119, l120, rfl, z120⟩ := cons_of z119
  clear z119
  obtain ⟨u120, l121, rfl, z121⟩ := cons_of z120
  clear z120
  obtain ⟨u121, l122, rfl, z122⟩ := cons_of z121
  clear z121
  obtain ⟨u122, l123, rfl, z123⟩ := cons_of z122
  clear z122
  obtain ⟨u123, l124, rfl, z124⟩ := cons_of z123
  clear z123
  obtain ⟨u124, l125, rfl, z125⟩ := cons_of z124
  clear z124
  obtain ⟨u125, l126, rfl, z126⟩ := cons_of z125
  clear z125
  obtain ⟨u126, l127, rfl, z127⟩ := cons_of z126
  clear z126
  obtain ⟨u127, l128, rfl, z128⟩ := cons_of z127
  clear z127
  obtain ⟨u128, l129, rfl, z129⟩ := cons_of z128
  clear z128
  obtain ⟨u129, l130, rfl, z130⟩ := cons_of z129
  clear z129
  obtain ⟨u130, l131, rfl, z131⟩ := cons_of z130
  clear z130
  obtain ⟨u131, l132, rfl, z132⟩ := cons_of z131
  clear z131
  obtain ⟨u132, l133, rfl, z133⟩ := cons_of z132
  clear z132
  obtain ⟨u133, l134, rfl, z134⟩ := cons_of z133
  clear z133
  obtain ⟨u134, l135, rfl, z135⟩ := cons_of z134
  clear z134
  obtain ⟨u135, l136, rfl, z136⟩ := cons_of z135
  clear z135
  obtain ⟨u136, l137, rfl, z137⟩ := cons_of z136
  clear z136
  obtain ⟨u137, l138, rfl, z138⟩ := cons_of z137
  clear z137
  obtain ⟨u138, l139, rfl, z139⟩ := cons_of z138
  clear z138
  obtain ⟨u139, l140, rfl, z140⟩ := cons_of z139
  clear z139
  obtain ⟨u140, l141, rfl, z141⟩ := cons_of z140
  clear z140
  obtain rfl := List.eq_nil_of_length_eq_zero z141
  exact h u0 u1 u2 u3 u4 u5 u6 u7 u8 u9 u10 u11 u12 u13 u14 u15 u16 u17 u18 u19 u20 u21 u22 u23 u24 u25 u26 u27 u28 u29 u30 u31 u32 u33 u34 u35 u36 u37 u38 u39 u40 u41 u42 u43 u44 u45 u46 u47 u48 u49 u50 u51 u52 u53 u54 u55 u56 u57 u58 u59 u60 u61 u62 u63 u64 u65 u66 u67 u68 u69 u70 u71 u72 u73 u74 u75 u76 u77 u78 u79 u80 u81 u82 u83 u84 u85 u86 u87 u88 u89 u90 u91 u92 u93 u94 u95 u96 u97 u98 u99 u100 u101 u102 u103 u104 u105 u106 u107 u108 u109 u110 u111 u112 u113 u114 u115 u116 u117 u118 u119 u120 u121 u122 u123 u124 u125 u126 u127 u128 u129 u130 u131 u132 u133 u134 u135 u136 u137 u138 u139 u140

end Go.Proofs.YtiohcdedndbbgaaDoor
