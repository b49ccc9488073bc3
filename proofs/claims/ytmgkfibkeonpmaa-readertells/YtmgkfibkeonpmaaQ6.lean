/-
  Contracts over the document's answers for layer 4: One, place by place. No conditions beyond those each theorem states.
-/
import Derived.Test.YtmgkfibkeonpmaaQ5
namespace Go.Proofs.Ytmgkfibkeonpmaa
open Go.RowKit


set_option maxRecDepth 100000 in
set_option maxHeartbeats 2000000 in
theorem done_0 (a b : Int) (A : Option Addr) (n c : Nat) (u : UInt8) (z : Int) (hz : z = (u.toNat : Int)) (w : World) :
    Calls Try.prog 22 #[.agg #[.int .i64 0, .int .i64 a, .int .i64 b, .slice A n c], .int .u8 z] w (GotOne w (sData u)) := by
  have HD := keepd (fun w => dinData_any u z hz w)
  obtain ⟨_, F1, F2, _⟩ := oneV_facts w 0 a b A n c
  have H1 := keepd F1
  have H2 := keepd F2
  clear hz F1 F2
  go_enter Try.func22, Try.ntmps22
  go_wp2_with fail
  with_reducible refine (HD.out _).mono ?_
  rintro e w2 ⟨Q, B, d, L, rfl, h1, h2, h3, h4, h5, h6⟩
  have q := H1.out.call h5 H1.out.lt
  obtain ⟨⟨c0, c1, c2, c3⟩, f0, f1, f2, f3⟩ := q.facts4
  have HE := keepd (pass_end H2.out H1.out h1 h2 h3 h4 h5 h6)
  clear h1 h2 h3 h4 h5 h6 q
  go_wp2
  refine bodyPost_ret (v := .tuple #[.agg #[.int .i64 Q.k, .int .i64 Q.a, .int .i64 Q.b, .slice Q.A Q.l.length Q.c], .slice B L.length d]) (by simp [results, Try.results22, go_sem, c0, c1, c2, c3]) rfl HE.out


set_option maxRecDepth 100000 in
set_option maxHeartbeats 2000000 in
theorem done_1a (a b : Int) (A : Option Addr) (n c : Nat) (u : UInt8) (z : Int) (hz : z = (u.toNat : Int)) (h : u = 10) (w : World) :
    Calls Try.prog 22 #[.agg #[.int .i64 1, .int .i64 a, .int .i64 b, .slice A n c], .int .u8 z] w (GotOne w (inn 0, [])) := by
  have HI := keepd in_any
  obtain rfl := u8_is u 10 z 10 hz rfl h
  obtain ⟨_, F1, F2, _⟩ := oneV_facts w 1 a b A n c
  have H1 := keepd F1
  have H2 := keepd F2
  clear hz F1 F2
  go_enter Try.func22, Try.ntmps22
  go_wp2_with fail
  with_reducible refine (HI.out 0 _).mono ?_
  rintro e w2 ⟨rfl, h5⟩
  have q := H1.out.call h5 H1.out.lt
  obtain ⟨⟨c0, c1, c2, c3⟩, f0, f1, f2, f3⟩ := q.facts4
  have HE := keepd (pass_end (Q := ⟨0, 0, 0, none, [], 0⟩) (L := []) (x := (inn 0, [])) H2.out H1.out rfl rfl (Rd.nil w2 _) (RdI.nil w2) h5 (fun g off e => by cases e))
  clear h5 q
  go_wp2
  refine bodyPost_ret (v := .tuple #[.agg #[.int .i64 0, .int .i64 0, .int .i64 0, .slice none 0 0], .slice none 0 0]) (by simp [results, Try.results22, go_sem, c0, c1, c2, c3]) rfl HE.out


set_option maxRecDepth 100000 in
set_option maxHeartbeats 2000000 in
theorem done_1b (a b : Int) (A : Option Addr) (n c : Nat) (u : UInt8) (z : Int) (hz : z = (u.toNat : Int)) (h : u = 0) (w : World) :
    Calls Try.prog 22 #[.agg #[.int .i64 1, .int .i64 a, .int .i64 b, .slice A n c], .int .u8 z] w (GotOne w (inn 0, [])) := by
  have HI := keepd in_any
  obtain rfl := u8_is u 0 z 0 hz rfl h
  obtain ⟨_, F1, F2, _⟩ := oneV_facts w 1 a b A n c
  have H1 := keepd F1
  have H2 := keepd F2
  clear hz F1 F2
  go_enter Try.func22, Try.ntmps22
  go_wp2_with fail
  with_reducible refine (HI.out 0 _).mono ?_
  rintro e w2 ⟨rfl, h5⟩
  have q := H1.out.call h5 H1.out.lt
  obtain ⟨⟨c0, c1, c2, c3⟩, f0, f1, f2, f3⟩ := q.facts4
  have HE := keepd (pass_end (Q := ⟨0, 0, 0, none, [], 0⟩) (L := []) (x := (inn 0, [])) H2.out H1.out rfl rfl (Rd.nil w2 _) (RdI.nil w2) h5 (fun g off e => by cases e))
  clear h5 q
  go_wp2
  refine bodyPost_ret (v := .tuple #[.agg #[.int .i64 0, .int .i64 0, .int .i64 0, .slice none 0 0], .slice none 0 0]) (by simp [results, Try.results22, go_sem, c0, c1, c2, c3]) rfl HE.out


set_option maxRecDepth 100000 in
set_option maxHeartbeats 2000000 in
theorem done_1c (a b : Int) (A : Option Addr) (n c : Nat) (u : UInt8) (z : Int) (hz : z = (u.toNat : Int)) (h : u ≠ 10) (h2 : u ≠ 0) (w : World) :
    Calls Try.prog 22 #[.agg #[.int .i64 1, .int .i64 a, .int .i64 b, .slice A n c], .int .u8 z] w (GotOne w (sData u)) := by
  have HD := keepd (fun w => dinData_any u z hz w)
  have g10 := u8_isnt u 10 z 10 hz rfl h
  have g0 := u8_isnt u 0 z 0 hz rfl h2
  obtain ⟨_, F1, F2, _⟩ := oneV_facts w 1 a b A n c
  have H1 := keepd F1
  have H2 := keepd F2
  clear hz F1 F2
  go_enter Try.func22, Try.ntmps22
  go_wp2_with fail
  with_reducible refine (HD.out _).mono ?_
  rintro e w2 ⟨Q, B, d, L, rfl, h1, h2, h3, h4, h5, h6⟩
  have q := H1.out.call h5 H1.out.lt
  obtain ⟨⟨c0, c1, c2, c3⟩, f0, f1, f2, f3⟩ := q.facts4
  have HE := keepd (pass_end H2.out H1.out h1 h2 h3 h4 h5 h6)
  clear h1 h2 h3 h4 h5 h6 q
  go_wp2
  refine bodyPost_ret (v := .tuple #[.agg #[.int .i64 Q.k, .int .i64 Q.a, .int .i64 Q.b, .slice Q.A Q.l.length Q.c], .slice B L.length d]) (by simp [results, Try.results22, go_sem, c0, c1, c2, c3]) rfl HE.out


set_option maxRecDepth 100000 in
set_option maxHeartbeats 2000000 in
theorem done_2 (a b : Int) (A : Option Addr) (n c : Nat) (u : UInt8) (z : Int) (hz : z = (u.toNat : Int)) (w : World) :
    Calls Try.prog 22 #[.agg #[.int .i64 2, .int .i64 a, .int .i64 b, .slice A n c], .int .u8 z] w (GotOne w (sCmd u)) := by
  have HD := keepd (fun w => dinCmd_any u z hz w)
  obtain ⟨_, F1, F2, _⟩ := oneV_facts w 2 a b A n c
  have H1 := keepd F1
  have H2 := keepd F2
  clear hz F1 F2
  go_enter Try.func22, Try.ntmps22
  go_wp2_with fail
  with_reducible refine (HD.out _).mono ?_
  rintro e w2 ⟨Q, B, d, L, rfl, h1, h2, h3, h4, h5, h6⟩
  have q := H1.out.call h5 H1.out.lt
  obtain ⟨⟨c0, c1, c2, c3⟩, f0, f1, f2, f3⟩ := q.facts4
  have HE := keepd (pass_end H2.out H1.out h1 h2 h3 h4 h5 h6)
  clear h1 h2 h3 h4 h5 h6 q
  go_wp2
  refine bodyPost_ret (v := .tuple #[.agg #[.int .i64 Q.k, .int .i64 Q.a, .int .i64 Q.b, .slice Q.A Q.l.length Q.c], .slice B L.length d]) (by simp [results, Try.results22, go_sem, c0, c1, c2, c3]) rfl HE.out


set_option maxRecDepth 100000 in
set_option maxHeartbeats 2000000 in
theorem done_6c (a b : Int) (A : Option Addr) (n c : Nat) (u : UInt8) (z : Int) (hz : z = (u.toNat : Int)) (h : u ≠ 255) (h2 : u ≠ 240) (w : World) :
    Calls Try.prog 22 #[.agg #[.int .i64 6, .int .i64 a, .int .i64 b, .slice A n c], .int .u8 z] w (GotOne w (sCmd u)) := by
  have HD := keepd (fun w => dinCmd_any u z hz w)
  have g255 := u8_isnt u 255 z 255 hz rfl h
  have g240 := u8_isnt u 240 z 240 hz rfl h2
  obtain ⟨_, F1, F2, _⟩ := oneV_facts w 6 a b A n c
  have H1 := keepd F1
  have H2 := keepd F2
  clear hz F1 F2
  go_enter Try.func22, Try.ntmps22
  go_wp2_with fail
  with_reducible refine (HD.out _).mono ?_
  rintro e w2 ⟨Q, B, d, L, rfl, h1, h2, h3, h4, h5, h6⟩
  have q := H1.out.call h5 H1.out.lt
  obtain ⟨⟨c0, c1, c2, c3⟩, f0, f1, f2, f3⟩ := q.facts4
  have HE := keepd (pass_end H2.out H1.out h1 h2 h3 h4 h5 h6)
  clear h1 h2 h3 h4 h5 h6 q
  go_wp2
  refine bodyPost_ret (v := .tuple #[.agg #[.int .i64 Q.k, .int .i64 Q.a, .int .i64 Q.b, .slice Q.A Q.l.length Q.c], .slice B L.length d]) (by simp [results, Try.results22, go_sem, c0, c1, c2, c3]) rfl HE.out


set_option maxRecDepth 100000 in
set_option maxHeartbeats 2000000 in
theorem done_7a (a b : Int) (A : Option Addr) (n c : Nat) (u : UInt8) (z : Int) (hz : z = (u.toNat : Int)) (h : u = 255) (w : World) :
    Calls Try.prog 22 #[.agg #[.int .i64 7, .int .i64 a, .int .i64 b, .slice A n c], .int .u8 z] w (GotOne w (inn 8, [])) := by
  have HI := keepd in_any
  obtain rfl := u8_is u 255 z 255 hz rfl h
  obtain ⟨_, F1, F2, _⟩ := oneV_facts w 7 a b A n c
  have H1 := keepd F1
  have H2 := keepd F2
  clear hz F1 F2
  go_enter Try.func22, Try.ntmps22
  go_wp2_with fail
  with_reducible refine (HI.out 8 _).mono ?_
  rintro e w2 ⟨rfl, h5⟩
  have q := H1.out.call h5 H1.out.lt
  obtain ⟨⟨c0, c1, c2, c3⟩, f0, f1, f2, f3⟩ := q.facts4
  have HE := keepd (pass_end (Q := ⟨8, 0, 0, none, [], 0⟩) (L := []) (x := (inn 8, [])) H2.out H1.out rfl rfl (Rd.nil w2 _) (RdI.nil w2) h5 (fun g off e => by cases e))
  clear h5 q
  go_wp2
  refine bodyPost_ret (v := .tuple #[.agg #[.int .i64 8, .int .i64 0, .int .i64 0, .slice none 0 0], .slice none 0 0]) (by simp [results, Try.results22, go_sem, c0, c1, c2, c3]) rfl HE.out


set_option maxRecDepth 100000 in
set_option maxHeartbeats 2000000 in
theorem done_7b (a b : Int) (A : Option Addr) (n c : Nat) (u : UInt8) (z : Int) (hz : z = (u.toNat : Int)) (h : u ≠ 255) (w : World) :
    Calls Try.prog 22 #[.agg #[.int .i64 7, .int .i64 a, .int .i64 b, .slice A n c], .int .u8 z] w (GotOne w (inn 7, [])) := by
  have HI := keepd in_any
  have g255 := u8_isnt u 255 z 255 hz rfl h
  obtain ⟨_, F1, F2, _⟩ := oneV_facts w 7 a b A n c
  have H1 := keepd F1
  have H2 := keepd F2
  clear hz F1 F2
  go_enter Try.func22, Try.ntmps22
  go_wp2_with fail
  with_reducible refine (HI.out 7 _).mono ?_
  rintro e w2 ⟨rfl, h5⟩
  have q := H1.out.call h5 H1.out.lt
  obtain ⟨⟨c0, c1, c2, c3⟩, f0, f1, f2, f3⟩ := q.facts4
  have HE := keepd (pass_end (Q := ⟨7, 0, 0, none, [], 0⟩) (L := []) (x := (inn 7, [])) H2.out H1.out rfl rfl (Rd.nil w2 _) (RdI.nil w2) h5 (fun g off e => by cases e))
  clear h5 q
  go_wp2
  refine bodyPost_ret (v := .tuple #[.agg #[.int .i64 7, .int .i64 0, .int .i64 0, .slice none 0 0], .slice none 0 0]) (by simp [results, Try.results22, go_sem, c0, c1, c2, c3]) rfl HE.out


set_option maxRecDepth 100000 in
set_option maxHeartbeats 2000000 in
theorem done_8a (a b : Int) (A : Option Addr) (n c : Nat) (u : UInt8) (z : Int) (hz : z = (u.toNat : Int)) (h : u = 255) (w : World) :
    Calls Try.prog 22 #[.agg #[.int .i64 8, .int .i64 a, .int .i64 b, .slice A n c], .int .u8 z] w (GotOne w (inn 7, [])) := by
  have HI := keepd in_any
  obtain rfl := u8_is u 255 z 255 hz rfl h
  obtain ⟨_, F1, F2, _⟩ := oneV_facts w 8 a b A n c
  have H1 := keepd F1
  have H2 := keepd F2
  clear hz F1 F2
  go_enter Try.func22, Try.ntmps22
  go_wp2_with fail
  with_reducible refine (HI.out 7 _).mono ?_
  rintro e w2 ⟨rfl, h5⟩
  have q := H1.out.call h5 H1.out.lt
  obtain ⟨⟨c0, c1, c2, c3⟩, f0, f1, f2, f3⟩ := q.facts4
  have HE := keepd (pass_end (Q := ⟨7, 0, 0, none, [], 0⟩) (L := []) (x := (inn 7, [])) H2.out H1.out rfl rfl (Rd.nil w2 _) (RdI.nil w2) h5 (fun g off e => by cases e))
  clear h5 q
  go_wp2
  refine bodyPost_ret (v := .tuple #[.agg #[.int .i64 7, .int .i64 0, .int .i64 0, .slice none 0 0], .slice none 0 0]) (by simp [results, Try.results22, go_sem, c0, c1, c2, c3]) rfl HE.out


set_option maxRecDepth 100000 in
set_option maxHeartbeats 2000000 in
theorem done_8b (a b : Int) (A : Option Addr) (n c : Nat) (u : UInt8) (z : Int) (hz : z = (u.toNat : Int)) (h : u = 240) (w : World) :
    Calls Try.prog 22 #[.agg #[.int .i64 8, .int .i64 a, .int .i64 b, .slice A n c], .int .u8 z] w (GotOne w (inn 0, [])) := by
  have HI := keepd in_any
  obtain rfl := u8_is u 240 z 240 hz rfl h
  obtain ⟨_, F1, F2, _⟩ := oneV_facts w 8 a b A n c
  have H1 := keepd F1
  have H2 := keepd F2
  clear hz F1 F2
  go_enter Try.func22, Try.ntmps22
  go_wp2_with fail
  with_reducible refine (HI.out 0 _).mono ?_
  rintro e w2 ⟨rfl, h5⟩
  have q := H1.out.call h5 H1.out.lt
  obtain ⟨⟨c0, c1, c2, c3⟩, f0, f1, f2, f3⟩ := q.facts4
  have HE := keepd (pass_end (Q := ⟨0, 0, 0, none, [], 0⟩) (L := []) (x := (inn 0, [])) H2.out H1.out rfl rfl (Rd.nil w2 _) (RdI.nil w2) h5 (fun g off e => by cases e))
  clear h5 q
  go_wp2
  refine bodyPost_ret (v := .tuple #[.agg #[.int .i64 0, .int .i64 0, .int .i64 0, .slice none 0 0], .slice none 0 0]) (by simp [results, Try.results22, go_sem, c0, c1, c2, c3]) rfl HE.out


set_option maxRecDepth 100000 in
set_option maxHeartbeats 2000000 in
theorem done_8c (a b : Int) (A : Option Addr) (n c : Nat) (u : UInt8) (z : Int) (hz : z = (u.toNat : Int)) (h : u ≠ 255) (h2 : u ≠ 240) (w : World) :
    Calls Try.prog 22 #[.agg #[.int .i64 8, .int .i64 a, .int .i64 b, .slice A n c], .int .u8 z] w (GotOne w (sCmd u)) := by
  have HD := keepd (fun w => dinCmd_any u z hz w)
  have g255 := u8_isnt u 255 z 255 hz rfl h
  have g240 := u8_isnt u 240 z 240 hz rfl h2
  obtain ⟨_, F1, F2, _⟩ := oneV_facts w 8 a b A n c
  have H1 := keepd F1
  have H2 := keepd F2
  clear hz F1 F2
  go_enter Try.func22, Try.ntmps22
  go_wp2_with fail
  with_reducible refine (HD.out _).mono ?_
  rintro e w2 ⟨Q, B, d, L, rfl, h1, h2, h3, h4, h5, h6⟩
  have q := H1.out.call h5 H1.out.lt
  obtain ⟨⟨c0, c1, c2, c3⟩, f0, f1, f2, f3⟩ := q.facts4
  have HE := keepd (pass_end H2.out H1.out h1 h2 h3 h4 h5 h6)
  clear h1 h2 h3 h4 h5 h6 q
  go_wp2
  refine bodyPost_ret (v := .tuple #[.agg #[.int .i64 Q.k, .int .i64 Q.a, .int .i64 Q.b, .slice Q.A Q.l.length Q.c], .slice B L.length d]) (by simp [results, Try.results22, go_sem, c0, c1, c2, c3]) rfl HE.out


end Go.Proofs.Ytmgkfibkeonpmaa
