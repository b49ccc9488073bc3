/-
  QbitMeets: rounds of the second loop.
-/
import Derived.Test.YtiohcdedndbbgaaDoorN0
import Derived.Test.YtiohcdedndbbgaaDoorM4
import Derived.Test.YtiohcdedndbbgaaDoorM5
namespace Go.Proofs.YtiohcdedndbbgaaDoor
open Go.RowKit

set_option maxRecDepth 100000 in
set_option maxHeartbeats 4000000 in
theorem dr10 (a b : Bool) (A : Option Addr) (n c m asked said rk : Nat) (x0 x1 : Int) (A0 : Option Addr) (n0 c0 : Nat) (A1 : Option Addr) (n1 c1 : Nat) (y : Bool) (r : List Bool) (z s e : Int) (hz : gF x1 y b = (z, s, e)) (w wr : World)
    (hL0 : Laid w) (hJ : MJ w wr a b A n c x0 x1 A0 n0 c0 [] A1 n1 c1 (y :: r)) (hM : Meet a b x0 x1 [] (y :: r) said asked rk) (hs : s = 0) 
    (hmr : m + rk ≤ 5) (hak : asked ≤ 60) (K KX : Act → World → Prop) (Post : Ending → World → Prop) (hK : ∀ a' w', MetD a b A n c w (m + 1) a' w' → K a' w')
    (u0 u2 u8 u9 u10 u11 u12 u14 u15 u16 u17 u18 u19 u20 u21 u22 u23 u24 u25 u26 u27 u28 u29 u30 u31 u32 u33 u34 u35 u36 u37 u38 u39 u40 u41 u42 u43 u44 u45 u46 u47 u48 u49 u50 u51 u52 u53 u54 u55 u56 u57 u58 u59 u60 u61 u62 u63 u64 u65 u66 u67 u68 u69 u70 u71 u72 u73 u74 u75 u76 u77 u78 u79 u80 u81 u82 u83 u84 u85 u86 u87 u88 u89 u90 u91 u92 u93 u94 u95 u96 u97 u98 u99 u100 u101 u102 u103 u104 u105 u106 u107 u108 u109 u110 u111 u112 u113 u114 u115 u116 u117 u118 u119 u120 u121 u122 u123 u124 u125 u126 u127 u128 u129 u130 u131 u132 u133 u134 u135 u136 u137 u138 u139 u140 u141 u142 u143 u144 u145 u146 u147 u148 u149 u150 u151 u152 u153 u154 u155 u156 u157 u158 u159 u160 u161 u162 u163 u164 u165 u166 u167 u168 u169 u170 u171 u172 u173 u174 u175 u176 u177 u178 u179 u180 u181 u182 u183 u184 u185 u186 u187 u188 u189 u190 u191 u192 u193 u194 u195 u196 u197 u198 u199 u200 u201 u202 u203 u204 u205 u206 u207 u208 u209 u210 u211 u212 u213 u214 u215 u216 u217 u218 u219 u220 u221 u222 u223 u224 u225 u226 u227 u228 u229 u230 u231 u232 u233 u234 u235 u236 : Value) :
    Code.wp Tryd.prog metBody2 (Exit.then K (Exit.inBlock 2 (Exit.then KX (bodyPost Tryd.prog Tryd.f5 Post)))) ⟨#[u0, .pointer (some ⟨w.heap.size, 0, none⟩), u2, .pointer (some ⟨w.heap.size + 1, 0, none⟩), .pointer (some ⟨w.heap.size + 2, 0, none⟩), .pointer (some ⟨w.heap.size + 3, 0, none⟩), .int .i64 asked, .int .i64 said, u8, u9, u10, u11, u12, .int .i64 m, u14, u15, u16, u17, u18, u19, u20, u21, u22, u23, u24, u25, u26, u27, u28, u29, u30, u31, u32, u33, u34, u35, u36, u37, u38, u39, u40, u41, u42, u43, u44, u45, u46, u47, u48, u49, u50, u51, u52, u53, u54, u55, u56, u57, u58, u59, u60, u61, u62, u63, u64, u65, u66, u67, u68, u69, u70, u71, u72, u73, u74, u75, u76, u77, u78, u79, u80, u81, u82, u83, u84, u85, u86, u87, u88, u89, u90, u91, u92, u93, u94, u95, u96, u97, u98, u99, u100, u101, u102, u103, u104, u105, u106, u107, u108, u109, u110, u111, u112, u113, u114, u115, u116, u117, u118, u119, u120, u121, u122, u123, u124, u125, u126, u127, u128, u129, u130, u131, u132, u133, u134, u135, u136, u137, u138, u139, u140, u141, u142, u143, u144, u145, u146, u147, u148, u149, u150, u151, u152, u153, u154, u155, u156, u157, u158, u159, u160, u161, u162, u163, u164, u165, u166, u167, u168, u169, u170, u171, u172, u173, u174, u175, u176, u177, u178, u179, u180, u181, u182, u183, u184, u185, u186, u187, u188, u189, u190, u191, u192, u193, u194, u195, u196, u197, u198, u199, u200, u201, u202, u203, u204, u205, u206, u207, u208, u209, u210, u211, u212, u213, u214, u215, u216, u217, u218, u219, u220, u221, u222, u223, u224, u225, u226, u227, u228, u229, u230, u231, u232, u233, u234, u235, u236], []⟩ wr := by
  have HK := keepd hK
  have HM := keepd hM
  have HS := keepd hs
  have hsa := hM.said_le
  have hbd := hM.bounds
  simp only [List.length_cons] at hbd
  obtain ⟨⟨p0, p1, p2⟩, ⟨m0, m1⟩, ⟨q0, q1⟩, ⟨t0, t1⟩, ⟨f0, f1⟩, ⟨g0, g1⟩⟩ := hJ.facts
  have i1 : decide ((m : Int) < 400) = true := by simp; omega

  obtain rfl : n0 = 0 := hJ.len0
  obtain ⟨gb, go, rfl, rfl, hn0, hm0, hy, A', c', hA', hc', hJ2⟩ := hJ.pop1
  have hsl := sl1 (some ⟨gb, go, none⟩) (r.length + 1) c1 (by omega)
  rw [hA', hc', Nat.add_sub_cancel] at hsl
  have HJ2 := keepd hJ2
  have hr1 : r.length ≤ 1 := by omega
  have i4 : decide ((0 : Int) < (r.length : Int) + 1) = true := decide_eq_true (by omega)
  clear hK hM hs hJ hJ2
  conv => arg 2; whnf
  go_wp2_with fail
  have HL2 := keepd (show Laid (wr.setCell ⟨w.heap.size + 3, 1, none⟩ (.slice A' r.length c')).drew from hL0.below HJ2.out.bel.drew)
  generalize wr.setCell ⟨w.heap.size + 3, 1, none⟩ (.slice A' r.length c') = W2 at *
  clear p0 p1 p2 m0 m1 q0 q1 t0 t1 f0 f1 g0 g1 hy hsl hA' hc' i4
  obtain ⟨_, ⟨m0, m1⟩, ⟨q0, q1⟩, _, _, _⟩ := HJ2.out.facts
  have HG := keepd (fun W hL => got_at x1 y b z s e hz W hL)
  go_cut [16, 17, 18] (fun s16 s17 s18 wx => s16 = .int .i64 z ∧ s17 = .int .i64 s ∧ s18 = .int .i64 e ∧ Hid (MJ w wx a b A n c x0 x1 A0 0 c0 [] A' r.length c' r))
  case first =>
    have Q0 := keepd q1
    have M0 := keepd m1
    have hq := HJ2.out.pl.lt
    have hm := HJ2.out.may.lt
    go_region_held3 (fun W => W.cell? ⟨w.heap.size + 2, 1, none⟩ = some (.int .i64 x1) ∧ W.cell? ⟨w.heap.size + 1, 1, none⟩ = some (.bool b) ∧ Below W2.heap.size W2 W)
      ((refine heldG Q0.out M0.out hq hm ?_; repeat (first | assumption | exact Below.refl _ _ | with_reducible refine Below.drew ?_)))
      (first | (go_at_call 9; (with_reducible refine (HG.out _ HL2.out).mono ?_); rintro e w1 ⟨rfl, hb1⟩; have hbb : Below W2.heap.size W2 w1 := noDrew hb1))
    have HJ3 := keepd (HJ2.out.call hbb)
    clear hb1 hbb
    all_goals go_wp2_with fail
    all_goals go_meet
    all_goals exact ⟨rfl, rfl, rfl, HJ3.out⟩
  case rest =>
  obtain ⟨rfl, rfl, rfl, HJ3⟩ := hcut
  clear m0 m1 q0 q1 HG HL2 HJ2
  obtain ⟨rfl, rk', hrk, hM'⟩ := HM.out.quiet1 hz HS.out
  obtain rfl := HS.out
  replace hrk := hrk rfl
  have HM' := keepd hM'
  clear HM hM' HS hz
  obtain ⟨_, _, _, ⟨t0, t1⟩, ⟨f0, f1⟩, ⟨g0, g1⟩⟩ := HJ3.out.facts
  go_wp2_with fail
  have HJ4 := keepd (HJ3.out.setX1 z)
  clear t0 t1 f0 f1 g0 g1 HJ3
  generalize wc.setCell ⟨w.heap.size + 2, 1, none⟩ (.int .i64 z) = W3 at *
  obtain ⟨_, _, _, ⟨t0, t1⟩, _, ⟨g0, g1⟩⟩ := HJ4.out.facts
  with_reducible refine (under0 _ _ _ _).mono ?_
  rintro e w2 ⟨rfl, rfl⟩
  go_wp2
  exact HK.out _ _ ⟨⟨rfl, rfl, rfl, rfl, rfl, rfl⟩, asked, said, rk', rfl, rfl, rfl, by omega, by omega, _, _, _, _, _, _, _, _, _, _, HJ4.out.same0, HM'.out⟩

end Go.Proofs.YtiohcdedndbbgaaDoor
