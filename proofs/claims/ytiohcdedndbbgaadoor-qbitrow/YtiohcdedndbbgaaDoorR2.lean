/-
  QbitRow: the rounds that begin at place 1.
-/
import Derived.Test.YtiohcdedndbbgaaDoorR0
namespace Go.Proofs.YtiohcdedndbbgaaDoor
open Go.RowKit

set_option maxRecDepth 100000 in
set_option maxHeartbeats 4000000 in
theorem row1af (m : Bool) (last : Int) (_hl0 : last = 0 ∨ last = 1) (b off n c k : Nat) (w wr : World) (hL : Laid wr) (hB : Below w.heap.size w wr) (_hc : n ≤ c) (_hm : c ≤ 9223372036854775807) (hlt : k < n) (h100 : k < 100) (hbl : b < w.heap.size)
    (c1 : w.cell? ⟨b, off + k * 3 + 1, none⟩ = some (.bool false)) (c2 : w.cell? ⟨b, off + k * 3 + 2, none⟩ = some (.bool false)) (K : Act → World → Prop) (Q0 : Exit → Act → World → Prop)
    (hK : ∀ a' w', RowI m (some ⟨b, off, none⟩) n c w (k + 1) a' w' → K a' w')
    (u2 u3 u4 u9 u10 u11 u12 u13 u14 u15 u16 u17 u18 u19 u20 u21 u22 u23 u24 u25 u26 u27 u28 u29 u30 u31 u32 u33 u34 u35 u36 u37 u38 u39 u40 u41 u42 u43 u44 u45 u46 u47 u48 u49 u50 u51 u52 u53 u54 u55 u56 u57 u58 u59 u60 u61 u62 u63 u64 u65 u66 u67 u68 u69 u70 u71 u72 u73 u74 u75 u76 u77 u78 u79 u80 u81 u82 u83 u84 u85 u86 u87 u88 u89 u90 u91 u92 u93 u94 u95 u96 u97 u98 u99 u100 u101 u102 u103 u104 u105 u106 u107 u108 u109 u110 u111 u112 u113 u114 u115 u116 u117 u118 u119 u120 u121 u122 u123 u124 u125 u126 u127 u128 u129 u130 u131 u132 u133 u134 u135 u136 u137 u138 u139 u140 : Value) :
    Code.wp Tryd.prog rowBody (Exit.then K Q0) ⟨#[.bool m, .slice (some ⟨b, off, none⟩) n c, u2, u3, u4, .int .i64 1, .int .i64 last, .bool true, .int .i64 k, u9, u10, u11, u12, u13, u14, u15, u16, u17, u18, u19, u20, u21, u22, u23, u24, u25, u26, u27, u28, u29, u30, u31, u32, u33, u34, u35, u36, u37, u38, u39, u40, u41, u42, u43, u44, u45, u46, u47, u48, u49, u50, u51, u52, u53, u54, u55, u56, u57, u58, u59, u60, u61, u62, u63, u64, u65, u66, u67, u68, u69, u70, u71, u72, u73, u74, u75, u76, u77, u78, u79, u80, u81, u82, u83, u84, u85, u86, u87, u88, u89, u90, u91, u92, u93, u94, u95, u96, u97, u98, u99, u100, u101, u102, u103, u104, u105, u106, u107, u108, u109, u110, u111, u112, u113, u114, u115, u116, u117, u118, u119, u120, u121, u122, u123, u124, u125, u126, u127, u128, u129, u130, u131, u132, u133, u134, u135, u136, u137, u138, u139, u140], []⟩ wr := by
  have HK := keepd hK
  have HB := keepd hB
  have HLr := keepd hL
  have HC2 := keepd c2
  have e1 := (hB.cell (p := ⟨b, off + k * 3 + 1, none⟩) hbl).trans c1
  have e2 := (hB.cell (p := ⟨b, off + k * 3 + 2, none⟩) hbl).trans c2
  have i1 : decide ((k : Int) < (n : Int)) = true := by simp; omega
  have i2 : decide ((k : Int) < 100) = true := by simp; omega
  have i0 : (0 : Int) ≤ (k : Int) := by omega
  have i3 : (k : Int) < (n : Int) := by omega
  clear hK hB hL c1 c2
  conv => arg 2; whnf
  go_wp2_with fail
  with_reducible refine (ask_at 1 false 2 2 0 rfl _ HLr.out).mono ?_
  rintro e w1 ⟨rfl, hb1⟩
  have HB1 := keepd (bCall HB.out hb1)
  have e3 := (HB1.out.cell (p := ⟨b, off + k * 3 + 2, none⟩) hbl).trans HC2.out
  clear hb1 HLr e1 e2 HB
  go_wp2_with (go_at_call 13; with_reducible refine (check_in 2 _ (by omega) (by omega)).mono ?_; rintro e w2 ⟨rfl, rfl⟩)
  exact HK.out _ _ ⟨rfl, rfl, rfl, rfl, rfl, by omega, by omega, HB1.out, 2, 2, true, rfl, rfl, rfl, Or.inr (Or.inr (Or.inl ⟨rfl, rfl, rfl⟩))⟩

set_option maxRecDepth 100000 in
set_option maxHeartbeats 4000000 in
theorem row1at (m : Bool) (last : Int) (hl0 : last = 0 ∨ last = 1) (b off n c k : Nat) (w wr : World) (hL : Laid wr) (hB : Below w.heap.size w wr) (_hc : n ≤ c) (_hm : c ≤ 9223372036854775807) (hlt : k < n) (h100 : k < 100) (hbl : b < w.heap.size)
    (c1 : w.cell? ⟨b, off + k * 3 + 1, none⟩ = some (.bool false)) (c2 : w.cell? ⟨b, off + k * 3 + 2, none⟩ = some (.bool true)) (K : Act → World → Prop) (Q0 : Exit → Act → World → Prop)
    (hK : ∀ a' w', RowI m (some ⟨b, off, none⟩) n c w (k + 1) a' w' → K a' w')
    (u2 u3 u4 u9 u10 u11 u12 u13 u14 u15 u16 u17 u18 u19 u20 u21 u22 u23 u24 u25 u26 u27 u28 u29 u30 u31 u32 u33 u34 u35 u36 u37 u38 u39 u40 u41 u42 u43 u44 u45 u46 u47 u48 u49 u50 u51 u52 u53 u54 u55 u56 u57 u58 u59 u60 u61 u62 u63 u64 u65 u66 u67 u68 u69 u70 u71 u72 u73 u74 u75 u76 u77 u78 u79 u80 u81 u82 u83 u84 u85 u86 u87 u88 u89 u90 u91 u92 u93 u94 u95 u96 u97 u98 u99 u100 u101 u102 u103 u104 u105 u106 u107 u108 u109 u110 u111 u112 u113 u114 u115 u116 u117 u118 u119 u120 u121 u122 u123 u124 u125 u126 u127 u128 u129 u130 u131 u132 u133 u134 u135 u136 u137 u138 u139 u140 : Value) :
    Code.wp Tryd.prog rowBody (Exit.then K Q0) ⟨#[.bool m, .slice (some ⟨b, off, none⟩) n c, u2, u3, u4, .int .i64 1, .int .i64 last, .bool true, .int .i64 k, u9, u10, u11, u12, u13, u14, u15, u16, u17, u18, u19, u20, u21, u22, u23, u24, u25, u26, u27, u28, u29, u30, u31, u32, u33, u34, u35, u36, u37, u38, u39, u40, u41, u42, u43, u44, u45, u46, u47, u48, u49, u50, u51, u52, u53, u54, u55, u56, u57, u58, u59, u60, u61, u62, u63, u64, u65, u66, u67, u68, u69, u70, u71, u72, u73, u74, u75, u76, u77, u78, u79, u80, u81, u82, u83, u84, u85, u86, u87, u88, u89, u90, u91, u92, u93, u94, u95, u96, u97, u98, u99, u100, u101, u102, u103, u104, u105, u106, u107, u108, u109, u110, u111, u112, u113, u114, u115, u116, u117, u118, u119, u120, u121, u122, u123, u124, u125, u126, u127, u128, u129, u130, u131, u132, u133, u134, u135, u136, u137, u138, u139, u140], []⟩ wr := by
  have HK := keepd hK
  have HB := keepd hB
  have HLr := keepd hL
  have HC2 := keepd c2
  have e1 := (hB.cell (p := ⟨b, off + k * 3 + 1, none⟩) hbl).trans c1
  have e2 := (hB.cell (p := ⟨b, off + k * 3 + 2, none⟩) hbl).trans c2
  have i1 : decide ((k : Int) < (n : Int)) = true := by simp; omega
  have i2 : decide ((k : Int) < 100) = true := by simp; omega
  have i0 : (0 : Int) ≤ (k : Int) := by omega
  have i3 : (k : Int) < (n : Int) := by omega
  clear hK hB hL c1 c2
  conv => arg 2; whnf
  go_wp2_with fail
  with_reducible refine (ask_at 1 true 1 0 5 rfl _ HLr.out).mono ?_
  rintro e w1 ⟨rfl, hb1⟩
  have HB1 := keepd (bCall HB.out hb1)
  have e3 := (HB1.out.cell (p := ⟨b, off + k * 3 + 2, none⟩) hbl).trans HC2.out
  clear hb1 HLr e1 e2 HB
  go_wp2_with (go_at_call 13; with_reducible refine (check_in 1 _ (by omega) (by omega)).mono ?_; rintro e w2 ⟨rfl, rfl⟩)
  exact HK.out _ _ ⟨rfl, rfl, rfl, rfl, rfl, by omega, by omega, HB1.out, 1, last, true, rfl, rfl, rfl, Or.inr (Or.inl ⟨rfl, hl0, rfl⟩)⟩

set_option maxRecDepth 100000 in
set_option maxHeartbeats 4000000 in
theorem row1cf (m : Bool) (last : Int) (_hl0 : last = 0 ∨ last = 1) (b off n c k : Nat) (w wr : World) (hL : Laid wr) (hB : Below w.heap.size w wr) (_hc : n ≤ c) (_hm : c ≤ 9223372036854775807) (hlt : k < n) (h100 : k < 100) (hbl : b < w.heap.size)
    (c1 : w.cell? ⟨b, off + k * 3 + 1, none⟩ = some (.bool true)) (c2 : w.cell? ⟨b, off + k * 3 + 2, none⟩ = some (.bool false)) (K : Act → World → Prop) (Q0 : Exit → Act → World → Prop)
    (hK : ∀ a' w', RowI m (some ⟨b, off, none⟩) n c w (k + 1) a' w' → K a' w')
    (u2 u3 u4 u9 u10 u11 u12 u13 u14 u15 u16 u17 u18 u19 u20 u21 u22 u23 u24 u25 u26 u27 u28 u29 u30 u31 u32 u33 u34 u35 u36 u37 u38 u39 u40 u41 u42 u43 u44 u45 u46 u47 u48 u49 u50 u51 u52 u53 u54 u55 u56 u57 u58 u59 u60 u61 u62 u63 u64 u65 u66 u67 u68 u69 u70 u71 u72 u73 u74 u75 u76 u77 u78 u79 u80 u81 u82 u83 u84 u85 u86 u87 u88 u89 u90 u91 u92 u93 u94 u95 u96 u97 u98 u99 u100 u101 u102 u103 u104 u105 u106 u107 u108 u109 u110 u111 u112 u113 u114 u115 u116 u117 u118 u119 u120 u121 u122 u123 u124 u125 u126 u127 u128 u129 u130 u131 u132 u133 u134 u135 u136 u137 u138 u139 u140 : Value) :
    Code.wp Tryd.prog rowBody (Exit.then K Q0) ⟨#[.bool m, .slice (some ⟨b, off, none⟩) n c, u2, u3, u4, .int .i64 1, .int .i64 last, .bool true, .int .i64 k, u9, u10, u11, u12, u13, u14, u15, u16, u17, u18, u19, u20, u21, u22, u23, u24, u25, u26, u27, u28, u29, u30, u31, u32, u33, u34, u35, u36, u37, u38, u39, u40, u41, u42, u43, u44, u45, u46, u47, u48, u49, u50, u51, u52, u53, u54, u55, u56, u57, u58, u59, u60, u61, u62, u63, u64, u65, u66, u67, u68, u69, u70, u71, u72, u73, u74, u75, u76, u77, u78, u79, u80, u81, u82, u83, u84, u85, u86, u87, u88, u89, u90, u91, u92, u93, u94, u95, u96, u97, u98, u99, u100, u101, u102, u103, u104, u105, u106, u107, u108, u109, u110, u111, u112, u113, u114, u115, u116, u117, u118, u119, u120, u121, u122, u123, u124, u125, u126, u127, u128, u129, u130, u131, u132, u133, u134, u135, u136, u137, u138, u139, u140], []⟩ wr := by
  have HK := keepd hK
  have HB := keepd hB
  have HLr := keepd hL
  have HC2 := keepd c2
  have e1 := (hB.cell (p := ⟨b, off + k * 3 + 1, none⟩) hbl).trans c1
  have e2 := (hB.cell (p := ⟨b, off + k * 3 + 2, none⟩) hbl).trans c2
  have i1 : decide ((k : Int) < (n : Int)) = true := by simp; omega
  have i2 : decide ((k : Int) < 100) = true := by simp; omega
  have i0 : (0 : Int) ≤ (k : Int) := by omega
  have i3 : (k : Int) < (n : Int) := by omega
  clear hK hB hL c1 c2
  conv => arg 2; whnf
  go_wp2_with fail
  with_reducible refine (got_at 1 false m 0 2 0 (gf1f m) _ HLr.out).mono ?_
  rintro e w1 ⟨rfl, hb1⟩
  have HB1 := keepd (bCall HB.out hb1)
  have e3 := (HB1.out.cell (p := ⟨b, off + k * 3 + 2, none⟩) hbl).trans HC2.out
  clear hb1 HLr e1 e2 HB
  go_wp2_with (go_at_call 13; with_reducible refine (check_in 0 _ (by omega) (by omega)).mono ?_; rintro e w2 ⟨rfl, rfl⟩)
  exact HK.out _ _ ⟨rfl, rfl, rfl, rfl, rfl, by omega, by omega, HB1.out, 0, 2, true, rfl, rfl, rfl, Or.inl ⟨rfl, Or.inr rfl⟩⟩

set_option maxRecDepth 100000 in
set_option maxHeartbeats 4000000 in
theorem row1ct (m : Bool) (last : Int) (hl0 : last = 0 ∨ last = 1) (b off n c k : Nat) (w wr : World) (hL : Laid wr) (hB : Below w.heap.size w wr) (_hc : n ≤ c) (_hm : c ≤ 9223372036854775807) (hlt : k < n) (h100 : k < 100) (hbl : b < w.heap.size)
    (c1 : w.cell? ⟨b, off + k * 3 + 1, none⟩ = some (.bool true)) (c2 : w.cell? ⟨b, off + k * 3 + 2, none⟩ = some (.bool true)) (K : Act → World → Prop) (Q0 : Exit → Act → World → Prop)
    (hK : ∀ a' w', RowI m (some ⟨b, off, none⟩) n c w (k + 1) a' w' → K a' w')
    (u2 u3 u4 u9 u10 u11 u12 u13 u14 u15 u16 u17 u18 u19 u20 u21 u22 u23 u24 u25 u26 u27 u28 u29 u30 u31 u32 u33 u34 u35 u36 u37 u38 u39 u40 u41 u42 u43 u44 u45 u46 u47 u48 u49 u50 u51 u52 u53 u54 u55 u56 u57 u58 u59 u60 u61 u62 u63 u64 u65 u66 u67 u68 u69 u70 u71 u72 u73 u74 u75 u76 u77 u78 u79 u80 u81 u82 u83 u84 u85 u86 u87 u88 u89 u90 u91 u92 u93 u94 u95 u96 u97 u98 u99 u100 u101 u102 u103 u104 u105 u106 u107 u108 u109 u110 u111 u112 u113 u114 u115 u116 u117 u118 u119 u120 u121 u122 u123 u124 u125 u126 u127 u128 u129 u130 u131 u132 u133 u134 u135 u136 u137 u138 u139 u140 : Value) :
    Code.wp Tryd.prog rowBody (Exit.then K Q0) ⟨#[.bool m, .slice (some ⟨b, off, none⟩) n c, u2, u3, u4, .int .i64 1, .int .i64 last, .bool true, .int .i64 k, u9, u10, u11, u12, u13, u14, u15, u16, u17, u18, u19, u20, u21, u22, u23, u24, u25, u26, u27, u28, u29, u30, u31, u32, u33, u34, u35, u36, u37, u38, u39, u40, u41, u42, u43, u44, u45, u46, u47, u48, u49, u50, u51, u52, u53, u54, u55, u56, u57, u58, u59, u60, u61, u62, u63, u64, u65, u66, u67, u68, u69, u70, u71, u72, u73, u74, u75, u76, u77, u78, u79, u80, u81, u82, u83, u84, u85, u86, u87, u88, u89, u90, u91, u92, u93, u94, u95, u96, u97, u98, u99, u100, u101, u102, u103, u104, u105, u106, u107, u108, u109, u110, u111, u112, u113, u114, u115, u116, u117, u118, u119, u120, u121, u122, u123, u124, u125, u126, u127, u128, u129, u130, u131, u132, u133, u134, u135, u136, u137, u138, u139, u140], []⟩ wr := by
  have HK := keepd hK
  have HB := keepd hB
  have HLr := keepd hL
  have HC2 := keepd c2
  have e1 := (hB.cell (p := ⟨b, off + k * 3 + 1, none⟩) hbl).trans c1
  have e2 := (hB.cell (p := ⟨b, off + k * 3 + 2, none⟩) hbl).trans c2
  have i1 : decide ((k : Int) < (n : Int)) = true := by simp; omega
  have i2 : decide ((k : Int) < 100) = true := by simp; omega
  have i0 : (0 : Int) ≤ (k : Int) := by omega
  have i3 : (k : Int) < (n : Int) := by omega
  clear hK hB hL c1 c2
  conv => arg 2; whnf
  go_wp2_with fail
  with_reducible refine (got_at 1 true m 1 0 0 (gf1t m) _ HLr.out).mono ?_
  rintro e w1 ⟨rfl, hb1⟩
  have HB1 := keepd (bCall HB.out hb1)
  have e3 := (HB1.out.cell (p := ⟨b, off + k * 3 + 2, none⟩) hbl).trans HC2.out
  clear hb1 HLr e1 e2 HB
  go_wp2_with (go_at_call 13; with_reducible refine (check_in 1 _ (by omega) (by omega)).mono ?_; rintro e w2 ⟨rfl, rfl⟩)
  exact HK.out _ _ ⟨rfl, rfl, rfl, rfl, rfl, by omega, by omega, HB1.out, 1, last, true, rfl, rfl, rfl, Or.inr (Or.inl ⟨rfl, hl0, rfl⟩)⟩

end Go.Proofs.YtiohcdedndbbgaaDoor
