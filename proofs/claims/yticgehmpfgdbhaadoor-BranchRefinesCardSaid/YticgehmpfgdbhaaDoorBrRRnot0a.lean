/- The document's Refine: a way through its table. Conditions: none but the numbers' own form. -/
import Derived.Test.YticgehmpfgdbhaaDoorBrREnds
import Derived.Test.YticgehmpfgdbhaaDoorARHolds
import Derived.Test.YticgehmpfgdbhaaDoorSpRMeet
namespace Go.Proofs.YticgehmpfgdbhaaDoor
open Go.RowKit
set_option maxRecDepth 100000
set_option maxHeartbeats 4000000
section
variable {w : World}
theorem rr_not0_1no (n : Int) (a b c d : Nat) (g1 : ¬ n < 1) (g9 : ¬ 9 < n) (g8 : n < 9) (M1 : Hid (∀ W, Ans 20 #[.agg #[.int .u64 (a : Int), .int .u64 (b : Int)]] (.bool true) W)) (M2 : Hid (∀ W, Ans 20 #[.agg #[.int .u64 (c : Int), .int .u64 (d : Int)]] (.bool true) W)) (s1 : ((a : Int) == b) = false) (NT : Hid (∀ W, Calls Tryd.prog 22 #[.int .i64 n] W fun e w' => e = .returned (.tuple #[.int .i64 1, .int .i64 0]) ∧ Below W.heap.size W w')) (x y : Nat) (MT : Hid (∀ W, Ans 23 #[.agg #[.int .u64 (a : Int), .int .u64 (b : Int)], .agg #[.int .u64 (c : Int), .int .u64 (d : Int)]] (.tuple #[spv ⟨x, y⟩, .int .i64 6]) W)) : Ans 11 #[.int .i64 n, .agg #[.int .u64 (a : Int), .int .u64 (b : Int)], .agg #[.int .u64 (c : Int), .int .u64 (d : Int)], .bool false] (.tuple #[spv sp0, spv sp0, .bool false, .int .i64 0]) w := by
  simp only [spv] at MT
  go_enter Tryd.func11, Tryd.ntmps11
  go_wp2_with (first
    | (go_at_call 20; (with_reducible refine (M1.out _).mono ?_); rintro e wc ⟨rfl, hbc⟩; have FC := Lib.hid ((Fr.z5 w a b c d).step hbc); clear hbc; obtain ⟨q0, q1⟩ := FC.out.q1; obtain ⟨q2, q3⟩ := FC.out.2.q1; obtain ⟨q4, q5⟩ := FC.out.2.2.q1; obtain ⟨q6, q7⟩ := FC.out.2.2.2.q1; obtain ⟨q8, q9⟩ := FC.out.2.2.2.2.q1; obtain ⟨z4, z5⟩ := FC.out.2.2.i1; obtain ⟨z6, z7⟩ := FC.out.2.2.2.i1)
    | (go_at_call 20; (with_reducible refine (M2.out _).mono ?_); rintro e wc ⟨rfl, hbc⟩; have FC := Lib.hid (FC.out.step hbc); clear hbc; (try clear q0 q1); obtain ⟨q0, q1⟩ := FC.out.q1; (try clear q2 q3); obtain ⟨q2, q3⟩ := FC.out.2.q1; (try clear q4 q5); obtain ⟨q4, q5⟩ := FC.out.2.2.q1; (try clear q6 q7); obtain ⟨q6, q7⟩ := FC.out.2.2.2.q1; (try clear q8 q9); obtain ⟨q8, q9⟩ := FC.out.2.2.2.2.q1; (try clear z4 z5); obtain ⟨z4, z5⟩ := FC.out.2.2.i1; (try clear z6 z7); obtain ⟨z6, z7⟩ := FC.out.2.2.2.i1)
    | (go_at_call 22; (with_reducible refine (NT.out _).mono ?_); rintro e wc ⟨rfl, hbc⟩; have FC := Lib.hid (FC.out.step hbc); clear hbc; (try clear q0 q1); obtain ⟨q0, q1⟩ := FC.out.q1; (try clear q2 q3); obtain ⟨q2, q3⟩ := FC.out.2.q1; (try clear q4 q5); obtain ⟨q4, q5⟩ := FC.out.2.2.q1; (try clear q6 q7); obtain ⟨q6, q7⟩ := FC.out.2.2.2.q1; (try clear q8 q9); obtain ⟨q8, q9⟩ := FC.out.2.2.2.2.q1; (try clear z4 z5); obtain ⟨z4, z5⟩ := FC.out.2.2.i1; (try clear z6 z7); obtain ⟨z6, z7⟩ := FC.out.2.2.2.i1; have al00 := FC.out.1.al0; have al10 := FC.out.1.al1; have bl00 := FC.out.1.bl0; have bl10 := FC.out.1.bl1; have al01 := FC.out.2.1.al0; have al11 := FC.out.2.1.al1; have bl01 := FC.out.2.1.bl0; have bl11 := FC.out.2.1.bl1; have HG := Lib.hid FC.out.2.2.2.2.1.lt)
    | (go_at_call 23; (with_reducible refine (MT.out _).mono ?_); rintro e we ⟨rfl, hbc⟩; have hl := HG.out; have e0 : ¬ w.heap.size = wc.heap.size := (by omega); have e1 : ¬ w.heap.size + 1 = wc.heap.size := (by omega); have e2 : ¬ w.heap.size + 1 + 1 = wc.heap.size := (by omega); have e3 : ¬ w.heap.size + 1 + 1 + 1 = wc.heap.size := (by omega); have e4 : ¬ w.heap.size + 1 + 1 + 1 + 1 = wc.heap.size := (by omega); clear hl; have FC := Lib.hid ((FC.out.put2 a b c d).step hbc); clear hbc; have hl := FC.out.2.2.2.2.2.2.1.lt; have hg := HG.out; have f0 : ¬ w.heap.size = we.heap.size := (by omega); have f1 : ¬ w.heap.size + 1 = we.heap.size := (by omega); have f2 : ¬ w.heap.size + 1 + 1 = we.heap.size := (by omega); have f3 : ¬ w.heap.size + 1 + 1 + 1 = we.heap.size := (by omega); have f4 : ¬ w.heap.size + 1 + 1 + 1 + 1 = we.heap.size := (by omega); have f5 : ¬ wc.heap.size = we.heap.size := (by omega); have f6 : ¬ wc.heap.size + 1 = we.heap.size := (by omega); clear hl hg; have FC := Lib.hid (FC.out.step (show Below we.heap.size we (we.alloc (.cells #[.int .u64 (x : Int), .int .u64 (y : Int)] 24)) by go_grown)); (try clear q4 q5); obtain ⟨q4, q5⟩ := FC.out.2.2.q1; (try clear q6 q7); obtain ⟨q6, q7⟩ := FC.out.2.2.2.q1; (try clear q8 q9); obtain ⟨q8, q9⟩ := FC.out.2.2.2.2.q1; obtain ⟨q10, q11⟩ := FC.out.2.2.2.2.2.q1; obtain ⟨q12, q13⟩ := FC.out.2.2.2.2.2.2.q1; (try clear z4 z5); obtain ⟨z4, z5⟩ := FC.out.2.2.i1; (try clear z6 z7); obtain ⟨z6, z7⟩ := FC.out.2.2.2.i1; obtain ⟨z10, z11⟩ := FC.out.2.2.2.2.2.i1; obtain ⟨z12, z13⟩ := FC.out.2.2.2.2.2.2.i1))
  generalize we.alloc (.cells #[.int .u64 (x : Int), .int .u64 (y : Int)] 24) = wz at *
  go_region
  all_goals
    go_wp2_with fail
    have K := put4 FC.out.2.2.1 FC.out.2.2.2.1 (by omega) (.int .u64 (0 : Int)) (.int .u64 (0 : Int)) (.int .u64 (0 : Int)) (.int .u64 (0 : Int))
    exact done4 (b := no3) rfl rfl rfl rfl rfl rfl (drewB K.1) (drewB K.2) rfl rfl rfl rfl rfl rfl (below4 FC.out.below (by omega) (by omega) _ _ _ _).drew
theorem rr_not0_1ok (n : Int) (a b c d : Nat) (g1 : ¬ n < 1) (g9 : ¬ 9 < n) (g8 : n < 9) (M1 : Hid (∀ W, Ans 20 #[.agg #[.int .u64 (a : Int), .int .u64 (b : Int)]] (.bool true) W)) (M2 : Hid (∀ W, Ans 20 #[.agg #[.int .u64 (c : Int), .int .u64 (d : Int)]] (.bool true) W)) (s1 : ((a : Int) == b) = false) (NT : Hid (∀ W, Calls Tryd.prog 22 #[.int .i64 n] W fun e w' => e = .returned (.tuple #[.int .i64 1, .int .i64 0]) ∧ Below W.heap.size W w')) (x y : Nat) (MT : Hid (∀ W, Ans 23 #[.agg #[.int .u64 (a : Int), .int .u64 (b : Int)], .agg #[.int .u64 (c : Int), .int .u64 (d : Int)]] (.tuple #[spv ⟨x, y⟩, .int .i64 0]) W)) : Ans 11 #[.int .i64 n, .agg #[.int .u64 (a : Int), .int .u64 (b : Int)], .agg #[.int .u64 (c : Int), .int .u64 (d : Int)], .bool false] (.tuple #[spv ⟨x, y⟩, spv ⟨x, y⟩, .bool true, .int .i64 0]) w := by
  simp only [spv] at MT
  go_enter Tryd.func11, Tryd.ntmps11
  go_wp2_with (first
    | (go_at_call 20; (with_reducible refine (M1.out _).mono ?_); rintro e wc ⟨rfl, hbc⟩; have FC := Lib.hid ((Fr.z5 w a b c d).step hbc); clear hbc; obtain ⟨q0, q1⟩ := FC.out.q1; obtain ⟨q2, q3⟩ := FC.out.2.q1; obtain ⟨q4, q5⟩ := FC.out.2.2.q1; obtain ⟨q6, q7⟩ := FC.out.2.2.2.q1; obtain ⟨q8, q9⟩ := FC.out.2.2.2.2.q1; obtain ⟨z4, z5⟩ := FC.out.2.2.i1; obtain ⟨z6, z7⟩ := FC.out.2.2.2.i1)
    | (go_at_call 20; (with_reducible refine (M2.out _).mono ?_); rintro e wc ⟨rfl, hbc⟩; have FC := Lib.hid (FC.out.step hbc); clear hbc; (try clear q0 q1); obtain ⟨q0, q1⟩ := FC.out.q1; (try clear q2 q3); obtain ⟨q2, q3⟩ := FC.out.2.q1; (try clear q4 q5); obtain ⟨q4, q5⟩ := FC.out.2.2.q1; (try clear q6 q7); obtain ⟨q6, q7⟩ := FC.out.2.2.2.q1; (try clear q8 q9); obtain ⟨q8, q9⟩ := FC.out.2.2.2.2.q1; (try clear z4 z5); obtain ⟨z4, z5⟩ := FC.out.2.2.i1; (try clear z6 z7); obtain ⟨z6, z7⟩ := FC.out.2.2.2.i1)
    | (go_at_call 22; (with_reducible refine (NT.out _).mono ?_); rintro e wc ⟨rfl, hbc⟩; have FC := Lib.hid (FC.out.step hbc); clear hbc; (try clear q0 q1); obtain ⟨q0, q1⟩ := FC.out.q1; (try clear q2 q3); obtain ⟨q2, q3⟩ := FC.out.2.q1; (try clear q4 q5); obtain ⟨q4, q5⟩ := FC.out.2.2.q1; (try clear q6 q7); obtain ⟨q6, q7⟩ := FC.out.2.2.2.q1; (try clear q8 q9); obtain ⟨q8, q9⟩ := FC.out.2.2.2.2.q1; (try clear z4 z5); obtain ⟨z4, z5⟩ := FC.out.2.2.i1; (try clear z6 z7); obtain ⟨z6, z7⟩ := FC.out.2.2.2.i1; have al00 := FC.out.1.al0; have al10 := FC.out.1.al1; have bl00 := FC.out.1.bl0; have bl10 := FC.out.1.bl1; have al01 := FC.out.2.1.al0; have al11 := FC.out.2.1.al1; have bl01 := FC.out.2.1.bl0; have bl11 := FC.out.2.1.bl1; have HG := Lib.hid FC.out.2.2.2.2.1.lt)
    | (go_at_call 23; (with_reducible refine (MT.out _).mono ?_); rintro e we ⟨rfl, hbc⟩; have hl := HG.out; have e0 : ¬ w.heap.size = wc.heap.size := (by omega); have e1 : ¬ w.heap.size + 1 = wc.heap.size := (by omega); have e2 : ¬ w.heap.size + 1 + 1 = wc.heap.size := (by omega); have e3 : ¬ w.heap.size + 1 + 1 + 1 = wc.heap.size := (by omega); have e4 : ¬ w.heap.size + 1 + 1 + 1 + 1 = wc.heap.size := (by omega); clear hl; have FC := Lib.hid ((FC.out.put2 a b c d).step hbc); clear hbc; have hl := FC.out.2.2.2.2.2.2.1.lt; have hg := HG.out; have f0 : ¬ w.heap.size = we.heap.size := (by omega); have f1 : ¬ w.heap.size + 1 = we.heap.size := (by omega); have f2 : ¬ w.heap.size + 1 + 1 = we.heap.size := (by omega); have f3 : ¬ w.heap.size + 1 + 1 + 1 = we.heap.size := (by omega); have f4 : ¬ w.heap.size + 1 + 1 + 1 + 1 = we.heap.size := (by omega); have f5 : ¬ wc.heap.size = we.heap.size := (by omega); have f6 : ¬ wc.heap.size + 1 = we.heap.size := (by omega); clear hl hg; have FC := Lib.hid (FC.out.step (show Below we.heap.size we (we.alloc (.cells #[.int .u64 (x : Int), .int .u64 (y : Int)] 24)) by go_grown)); (try clear q4 q5); obtain ⟨q4, q5⟩ := FC.out.2.2.q1; (try clear q6 q7); obtain ⟨q6, q7⟩ := FC.out.2.2.2.q1; (try clear q8 q9); obtain ⟨q8, q9⟩ := FC.out.2.2.2.2.q1; obtain ⟨q10, q11⟩ := FC.out.2.2.2.2.2.q1; obtain ⟨q12, q13⟩ := FC.out.2.2.2.2.2.2.q1; (try clear z4 z5); obtain ⟨z4, z5⟩ := FC.out.2.2.i1; (try clear z6 z7); obtain ⟨z6, z7⟩ := FC.out.2.2.2.i1; obtain ⟨z10, z11⟩ := FC.out.2.2.2.2.2.i1; obtain ⟨z12, z13⟩ := FC.out.2.2.2.2.2.2.i1))
  have FC := Lib.hid ((FC.out.m7u HG.out x y).m7v HG.out x y)
  generalize ((((we.alloc (.cells #[.int .u64 (x : Int), .int .u64 (y : Int)] 24)).setCell ⟨wc.heap.size, 0, none⟩ (.int .u64 (x : Int))).setCell ⟨wc.heap.size, 1, none⟩ (.int .u64 (y : Int))).setCell ⟨wc.heap.size + 1, 0, none⟩ (.int .u64 (x : Int))).setCell ⟨wc.heap.size + 1, 1, none⟩ (.int .u64 (y : Int)) = wz at FC ⊢
  obtain ⟨k4, k5⟩ := FC.out.2.2.q1; obtain ⟨k6, k7⟩ := FC.out.2.2.2.q1; obtain ⟨k10, k11⟩ := FC.out.2.2.2.2.2.q1; obtain ⟨k12, k13⟩ := FC.out.2.2.2.2.2.2.q1; obtain ⟨j4, j5⟩ := FC.out.2.2.i1; obtain ⟨j6, j7⟩ := FC.out.2.2.2.i1
  go_region
  all_goals
    go_wp2_with fail
    have K := put4 FC.out.2.2.1 FC.out.2.2.2.1 (by omega) (.int .u64 (x : Int)) (.int .u64 (y : Int)) (.int .u64 (x : Int)) (.int .u64 (y : Int))
    exact done4 (b := ⟨⟨x, y⟩, ⟨x, y⟩, true⟩) rfl rfl rfl rfl rfl rfl (drewB K.1) (drewB K.2) rfl rfl rfl rfl rfl rfl (below4 FC.out.below (by omega) (by omega) _ _ _ _).drew
theorem rr_not0_2 (n : Int) (a b c d : Nat) (g1 : ¬ n < 1) (g9 : ¬ 9 < n) (g8 : n < 9) (M1 : Hid (∀ W, Ans 20 #[.agg #[.int .u64 (a : Int), .int .u64 (b : Int)]] (.bool true) W)) (M2 : Hid (∀ W, Ans 20 #[.agg #[.int .u64 (c : Int), .int .u64 (d : Int)]] (.bool true) W)) (s1 : ((a : Int) == b) = false) (NT : Hid (∀ W, Calls Tryd.prog 22 #[.int .i64 n] W fun e w' => e = .returned (.tuple #[.int .i64 2, .int .i64 0]) ∧ Below W.heap.size W w')) (x y z v : Nat) (E1 : Hid (∀ W, Ans 24 #[.agg #[.int .u64 (a : Int), .int .u64 (b : Int)], .agg #[.int .u64 (c : Int), .int .u64 (d : Int)]] (spv ⟨x, y⟩) W)) (E2 : Hid (∀ W, Ans 24 #[.agg #[.int .u64 (c : Int), .int .u64 (d : Int)], .agg #[.int .u64 (a : Int), .int .u64 (b : Int)]] (spv ⟨z, v⟩) W)) : Ans 11 #[.int .i64 n, .agg #[.int .u64 (a : Int), .int .u64 (b : Int)], .agg #[.int .u64 (c : Int), .int .u64 (d : Int)], .bool false] (.tuple #[spv ⟨x, y⟩, spv ⟨z, v⟩, .bool true, .int .i64 0]) w := by
  simp only [spv] at E1 E2
  go_enter Tryd.func11, Tryd.ntmps11
  go_wp2_with (first
    | (go_at_call 20; (with_reducible refine (M1.out _).mono ?_); rintro e wc ⟨rfl, hbc⟩; have FC := Lib.hid ((Fr.z5 w a b c d).step hbc); clear hbc; obtain ⟨q0, q1⟩ := FC.out.q1; obtain ⟨q2, q3⟩ := FC.out.2.q1; obtain ⟨q4, q5⟩ := FC.out.2.2.q1; obtain ⟨q6, q7⟩ := FC.out.2.2.2.q1; obtain ⟨q8, q9⟩ := FC.out.2.2.2.2.q1; obtain ⟨z4, z5⟩ := FC.out.2.2.i1; obtain ⟨z6, z7⟩ := FC.out.2.2.2.i1)
    | (go_at_call 20; (with_reducible refine (M2.out _).mono ?_); rintro e wc ⟨rfl, hbc⟩; have FC := Lib.hid (FC.out.step hbc); clear hbc; (try clear q0 q1); obtain ⟨q0, q1⟩ := FC.out.q1; (try clear q2 q3); obtain ⟨q2, q3⟩ := FC.out.2.q1; (try clear q4 q5); obtain ⟨q4, q5⟩ := FC.out.2.2.q1; (try clear q6 q7); obtain ⟨q6, q7⟩ := FC.out.2.2.2.q1; (try clear q8 q9); obtain ⟨q8, q9⟩ := FC.out.2.2.2.2.q1; (try clear z4 z5); obtain ⟨z4, z5⟩ := FC.out.2.2.i1; (try clear z6 z7); obtain ⟨z6, z7⟩ := FC.out.2.2.2.i1)
    | (go_at_call 22; (with_reducible refine (NT.out _).mono ?_); rintro e wc ⟨rfl, hbc⟩; have FC := Lib.hid (FC.out.step hbc); clear hbc; (try clear q0 q1); obtain ⟨q0, q1⟩ := FC.out.q1; (try clear q2 q3); obtain ⟨q2, q3⟩ := FC.out.2.q1; (try clear q4 q5); obtain ⟨q4, q5⟩ := FC.out.2.2.q1; (try clear q6 q7); obtain ⟨q6, q7⟩ := FC.out.2.2.2.q1; (try clear q8 q9); obtain ⟨q8, q9⟩ := FC.out.2.2.2.2.q1; (try clear z4 z5); obtain ⟨z4, z5⟩ := FC.out.2.2.i1; (try clear z6 z7); obtain ⟨z6, z7⟩ := FC.out.2.2.2.i1; have al00 := FC.out.1.al0; have al10 := FC.out.1.al1; have bl00 := FC.out.1.bl0; have bl10 := FC.out.1.bl1; have al01 := FC.out.2.1.al0; have al11 := FC.out.2.1.al1; have bl01 := FC.out.2.1.bl0; have bl11 := FC.out.2.1.bl1; have HG := Lib.hid FC.out.2.2.2.2.1.lt)
    | (go_at_call 24; (with_reducible refine (E1.out _).mono ?_); rintro e wf ⟨rfl, hbc⟩; have hl := HG.out; have e0 : ¬ w.heap.size = wc.heap.size := (by omega); have e1 : ¬ w.heap.size + 1 = wc.heap.size := (by omega); have e2 : ¬ w.heap.size + 1 + 1 = wc.heap.size := (by omega); have e3 : ¬ w.heap.size + 1 + 1 + 1 = wc.heap.size := (by omega); have e4 : ¬ w.heap.size + 1 + 1 + 1 + 1 = wc.heap.size := (by omega); clear hl; have FC := Lib.hid ((FC.out.put2 a b c d).step hbc); clear hbc; (try clear q0 q1); obtain ⟨q0, q1⟩ := FC.out.q1; (try clear q2 q3); obtain ⟨q2, q3⟩ := FC.out.2.q1; (try clear q4 q5); obtain ⟨q4, q5⟩ := FC.out.2.2.q1; (try clear q6 q7); obtain ⟨q6, q7⟩ := FC.out.2.2.2.q1; (try clear q10 q11); obtain ⟨q10, q11⟩ := FC.out.2.2.2.2.2.q1; (try clear q12 q13); obtain ⟨q12, q13⟩ := FC.out.2.2.2.2.2.2.q1; (try clear z4 z5); obtain ⟨z4, z5⟩ := FC.out.2.2.i1; (try clear z6 z7); obtain ⟨z6, z7⟩ := FC.out.2.2.2.i1; (try clear z10 z11); obtain ⟨z10, z11⟩ := FC.out.2.2.2.2.2.i1; (try clear z12 z13); obtain ⟨z12, z13⟩ := FC.out.2.2.2.2.2.2.i1)
    | (go_at_call 24; (with_reducible refine (E2.out _).mono ?_); rintro e wg ⟨rfl, hbc⟩; have FC := Lib.hid ((FC.out.m7u HG.out x y).step hbc); clear hbc; (try clear q0 q1); obtain ⟨q0, q1⟩ := FC.out.q1; (try clear q2 q3); obtain ⟨q2, q3⟩ := FC.out.2.q1; (try clear q4 q5); obtain ⟨q4, q5⟩ := FC.out.2.2.q1; (try clear q6 q7); obtain ⟨q6, q7⟩ := FC.out.2.2.2.q1; (try clear q10 q11); obtain ⟨q10, q11⟩ := FC.out.2.2.2.2.2.q1; (try clear q12 q13); obtain ⟨q12, q13⟩ := FC.out.2.2.2.2.2.2.q1; (try clear z4 z5); obtain ⟨z4, z5⟩ := FC.out.2.2.i1; (try clear z6 z7); obtain ⟨z6, z7⟩ := FC.out.2.2.2.i1; (try clear z10 z11); obtain ⟨z10, z11⟩ := FC.out.2.2.2.2.2.i1; (try clear z12 z13); obtain ⟨z12, z13⟩ := FC.out.2.2.2.2.2.2.i1))
  have FC := Lib.hid (FC.out.m7v HG.out z v)
  generalize (wg.setCell ⟨wc.heap.size + 1, 0, none⟩ (.int .u64 (z : Int))).setCell ⟨wc.heap.size + 1, 1, none⟩ (.int .u64 (v : Int)) = wz at FC ⊢
  obtain ⟨k4, k5⟩ := FC.out.2.2.q1; obtain ⟨k6, k7⟩ := FC.out.2.2.2.q1; obtain ⟨k10, k11⟩ := FC.out.2.2.2.2.2.q1; obtain ⟨k12, k13⟩ := FC.out.2.2.2.2.2.2.q1; obtain ⟨j4, j5⟩ := FC.out.2.2.i1; obtain ⟨j6, j7⟩ := FC.out.2.2.2.i1
  go_region
  all_goals
    go_wp2_with fail
    have K := put4 FC.out.2.2.1 FC.out.2.2.2.1 (by omega) (.int .u64 (x : Int)) (.int .u64 (y : Int)) (.int .u64 (z : Int)) (.int .u64 (v : Int))
    exact done4 (b := ⟨⟨x, y⟩, ⟨z, v⟩, true⟩) rfl rfl rfl rfl rfl rfl (drewB K.1) (drewB K.2) rfl rfl rfl rfl rfl rfl (below4 FC.out.below (by omega) (by omega) _ _ _ _).drew
theorem rr_not0_4no (n : Int) (a b c d : Nat) (g1 : ¬ n < 1) (g9 : ¬ 9 < n) (g8 : n < 9) (M1 : Hid (∀ W, Ans 20 #[.agg #[.int .u64 (a : Int), .int .u64 (b : Int)]] (.bool true) W)) (M2 : Hid (∀ W, Ans 20 #[.agg #[.int .u64 (c : Int), .int .u64 (d : Int)]] (.bool true) W)) (s1 : ((a : Int) == b) = false) (NT : Hid (∀ W, Calls Tryd.prog 22 #[.int .i64 n] W fun e w' => e = .returned (.tuple #[.int .i64 4, .int .i64 0]) ∧ Below W.heap.size W w')) (h : d < a) : Ans 11 #[.int .i64 n, .agg #[.int .u64 (a : Int), .int .u64 (b : Int)], .agg #[.int .u64 (c : Int), .int .u64 (d : Int)], .bool false] (.tuple #[spv sp0, spv sp0, .bool false, .int .i64 0]) w := by
  go_enter Tryd.func11, Tryd.ntmps11
  go_wp2_with (first
    | (go_at_call 20; (with_reducible refine (M1.out _).mono ?_); rintro e wc ⟨rfl, hbc⟩; have FC := Lib.hid ((Fr.z5 w a b c d).step hbc); clear hbc; obtain ⟨q0, q1⟩ := FC.out.q1; obtain ⟨q2, q3⟩ := FC.out.2.q1; obtain ⟨q4, q5⟩ := FC.out.2.2.q1; obtain ⟨q6, q7⟩ := FC.out.2.2.2.q1; obtain ⟨q8, q9⟩ := FC.out.2.2.2.2.q1; obtain ⟨z4, z5⟩ := FC.out.2.2.i1; obtain ⟨z6, z7⟩ := FC.out.2.2.2.i1)
    | (go_at_call 20; (with_reducible refine (M2.out _).mono ?_); rintro e wc ⟨rfl, hbc⟩; have FC := Lib.hid (FC.out.step hbc); clear hbc; (try clear q0 q1); obtain ⟨q0, q1⟩ := FC.out.q1; (try clear q2 q3); obtain ⟨q2, q3⟩ := FC.out.2.q1; (try clear q4 q5); obtain ⟨q4, q5⟩ := FC.out.2.2.q1; (try clear q6 q7); obtain ⟨q6, q7⟩ := FC.out.2.2.2.q1; (try clear q8 q9); obtain ⟨q8, q9⟩ := FC.out.2.2.2.2.q1; (try clear z4 z5); obtain ⟨z4, z5⟩ := FC.out.2.2.i1; (try clear z6 z7); obtain ⟨z6, z7⟩ := FC.out.2.2.2.i1)
    | (go_at_call 22; (with_reducible refine (NT.out _).mono ?_); rintro e wc ⟨rfl, hbc⟩; have FC := Lib.hid (FC.out.step hbc); clear hbc; (try clear q0 q1); obtain ⟨q0, q1⟩ := FC.out.q1; (try clear q2 q3); obtain ⟨q2, q3⟩ := FC.out.2.q1; (try clear q4 q5); obtain ⟨q4, q5⟩ := FC.out.2.2.q1; (try clear q6 q7); obtain ⟨q6, q7⟩ := FC.out.2.2.2.q1; (try clear q8 q9); obtain ⟨q8, q9⟩ := FC.out.2.2.2.2.q1; (try clear z4 z5); obtain ⟨z4, z5⟩ := FC.out.2.2.i1; (try clear z6 z7); obtain ⟨z6, z7⟩ := FC.out.2.2.2.i1; have al00 := FC.out.1.al0; have al10 := FC.out.1.al1; have bl00 := FC.out.1.bl0; have bl10 := FC.out.1.bl1; have al01 := FC.out.2.1.al0; have al11 := FC.out.2.1.al1; have bl01 := FC.out.2.1.bl0; have bl11 := FC.out.2.1.bl1))
  have hl := FC.out.2.2.2.2.1.lt
  have e0 : ¬ w.heap.size = wc.heap.size := by omega
  have e1 : ¬ w.heap.size + 1 = wc.heap.size := by omega
  have e2 : ¬ w.heap.size + 1 + 1 = wc.heap.size := by omega
  have e3 : ¬ w.heap.size + 1 + 1 + 1 = wc.heap.size := by omega
  have e4 : ¬ w.heap.size + 1 + 1 + 1 + 1 = wc.heap.size := by omega
  clear hl
  have FC := Lib.hid (FC.out.put2 a b c d)
  generalize (wc.alloc (.cells #[.int .u64 (a : Int), .int .u64 (b : Int)] 24)).alloc (.cells #[.int .u64 (c : Int), .int .u64 (d : Int)] 24) = wz at FC ⊢
  obtain ⟨q4, q5⟩ := FC.out.2.2.q1; obtain ⟨q6, q7⟩ := FC.out.2.2.2.q1; obtain ⟨q8, q9⟩ := FC.out.2.2.2.2.q1; obtain ⟨z4, z5⟩ := FC.out.2.2.i1; obtain ⟨z6, z7⟩ := FC.out.2.2.2.i1
  go_region
  all_goals
    go_wp2_with fail
    have K := put4 FC.out.2.2.1 FC.out.2.2.2.1 (by omega) (.int .u64 (0 : Int)) (.int .u64 (0 : Int)) (.int .u64 (0 : Int)) (.int .u64 (0 : Int))
    exact done4 (b := no3) rfl rfl rfl rfl rfl rfl (drewB K.1) (drewB K.2) rfl rfl rfl rfl rfl rfl (below4 FC.out.below (by omega) (by omega) _ _ _ _).drew
theorem rr_not0_4ok (n : Int) (a b c d : Nat) (g1 : ¬ n < 1) (g9 : ¬ 9 < n) (g8 : n < 9) (M1 : Hid (∀ W, Ans 20 #[.agg #[.int .u64 (a : Int), .int .u64 (b : Int)]] (.bool true) W)) (M2 : Hid (∀ W, Ans 20 #[.agg #[.int .u64 (c : Int), .int .u64 (d : Int)]] (.bool true) W)) (s1 : ((a : Int) == b) = false) (NT : Hid (∀ W, Calls Tryd.prog 22 #[.int .i64 n] W fun e w' => e = .returned (.tuple #[.int .i64 4, .int .i64 0]) ∧ Below W.heap.size W w')) (x y : Nat) (h : ¬ d < a) (hx : x = min b d) (hy : y = max c a) : Ans 11 #[.int .i64 n, .agg #[.int .u64 (a : Int), .int .u64 (b : Int)], .agg #[.int .u64 (c : Int), .int .u64 (d : Int)], .bool false] (.tuple #[spv ⟨a, x⟩, spv ⟨y, d⟩, .bool true, .int .i64 0]) w := by
  by_cases h1 : d < b <;> by_cases h2 : c < a
  · obtain rfl : d = x := by omega
    obtain rfl : a = y := by omega
    clear hx hy
    go_enter Tryd.func11, Tryd.ntmps11
    go_wp2_with (first
      | (go_at_call 20; (with_reducible refine (M1.out _).mono ?_); rintro e wc ⟨rfl, hbc⟩; have FC := Lib.hid ((Fr.z5 w a b c d).step hbc); clear hbc; obtain ⟨q0, q1⟩ := FC.out.q1; obtain ⟨q2, q3⟩ := FC.out.2.q1; obtain ⟨q4, q5⟩ := FC.out.2.2.q1; obtain ⟨q6, q7⟩ := FC.out.2.2.2.q1; obtain ⟨q8, q9⟩ := FC.out.2.2.2.2.q1; obtain ⟨z4, z5⟩ := FC.out.2.2.i1; obtain ⟨z6, z7⟩ := FC.out.2.2.2.i1)
      | (go_at_call 20; (with_reducible refine (M2.out _).mono ?_); rintro e wc ⟨rfl, hbc⟩; have FC := Lib.hid (FC.out.step hbc); clear hbc; (try clear q0 q1); obtain ⟨q0, q1⟩ := FC.out.q1; (try clear q2 q3); obtain ⟨q2, q3⟩ := FC.out.2.q1; (try clear q4 q5); obtain ⟨q4, q5⟩ := FC.out.2.2.q1; (try clear q6 q7); obtain ⟨q6, q7⟩ := FC.out.2.2.2.q1; (try clear q8 q9); obtain ⟨q8, q9⟩ := FC.out.2.2.2.2.q1; (try clear z4 z5); obtain ⟨z4, z5⟩ := FC.out.2.2.i1; (try clear z6 z7); obtain ⟨z6, z7⟩ := FC.out.2.2.2.i1)
      | (go_at_call 22; (with_reducible refine (NT.out _).mono ?_); rintro e wc ⟨rfl, hbc⟩; have FC := Lib.hid (FC.out.step hbc); clear hbc; (try clear q0 q1); obtain ⟨q0, q1⟩ := FC.out.q1; (try clear q2 q3); obtain ⟨q2, q3⟩ := FC.out.2.q1; (try clear q4 q5); obtain ⟨q4, q5⟩ := FC.out.2.2.q1; (try clear q6 q7); obtain ⟨q6, q7⟩ := FC.out.2.2.2.q1; (try clear q8 q9); obtain ⟨q8, q9⟩ := FC.out.2.2.2.2.q1; (try clear z4 z5); obtain ⟨z4, z5⟩ := FC.out.2.2.i1; (try clear z6 z7); obtain ⟨z6, z7⟩ := FC.out.2.2.2.i1; have al00 := FC.out.1.al0; have al10 := FC.out.1.al1; have bl00 := FC.out.1.bl0; have bl10 := FC.out.1.bl1; have al01 := FC.out.2.1.al0; have al11 := FC.out.2.1.al1; have bl01 := FC.out.2.1.bl0; have bl11 := FC.out.2.1.bl1))
    have hl := FC.out.2.2.2.2.1.lt
    have e0 : ¬ w.heap.size = wc.heap.size := by omega
    have e1 : ¬ w.heap.size + 1 = wc.heap.size := by omega
    have e2 : ¬ w.heap.size + 1 + 1 = wc.heap.size := by omega
    have e3 : ¬ w.heap.size + 1 + 1 + 1 = wc.heap.size := by omega
    have e4 : ¬ w.heap.size + 1 + 1 + 1 + 1 = wc.heap.size := by omega
    clear hl
    have FC := Lib.hid (FC.out.put2 a d a d)
    generalize (wc.alloc (.cells #[.int .u64 (a : Int), .int .u64 (d : Int)] 24)).alloc (.cells #[.int .u64 (a : Int), .int .u64 (d : Int)] 24) = wz at FC ⊢
    obtain ⟨q4, q5⟩ := FC.out.2.2.q1; obtain ⟨q6, q7⟩ := FC.out.2.2.2.q1; obtain ⟨q10, q11⟩ := FC.out.2.2.2.2.2.q1; obtain ⟨q12, q13⟩ := FC.out.2.2.2.2.2.2.q1; obtain ⟨z4, z5⟩ := FC.out.2.2.i1; obtain ⟨z6, z7⟩ := FC.out.2.2.2.i1
    go_region
    all_goals
      go_wp2_with fail
      have K := put4 FC.out.2.2.1 FC.out.2.2.2.1 (by omega) (.int .u64 (a : Int)) (.int .u64 (d : Int)) (.int .u64 (a : Int)) (.int .u64 (d : Int))
      exact done4 (b := ⟨⟨a, d⟩, ⟨a, d⟩, true⟩) rfl rfl rfl rfl rfl rfl (drewB K.1) (drewB K.2) rfl rfl rfl rfl rfl rfl (below4 FC.out.below (by omega) (by omega) _ _ _ _).drew
  · obtain rfl : d = x := by omega
    obtain rfl : c = y := by omega
    clear hx hy
    go_enter Tryd.func11, Tryd.ntmps11
    go_wp2_with (first
      | (go_at_call 20; (with_reducible refine (M1.out _).mono ?_); rintro e wc ⟨rfl, hbc⟩; have FC := Lib.hid ((Fr.z5 w a b c d).step hbc); clear hbc; obtain ⟨q0, q1⟩ := FC.out.q1; obtain ⟨q2, q3⟩ := FC.out.2.q1; obtain ⟨q4, q5⟩ := FC.out.2.2.q1; obtain ⟨q6, q7⟩ := FC.out.2.2.2.q1; obtain ⟨q8, q9⟩ := FC.out.2.2.2.2.q1; obtain ⟨z4, z5⟩ := FC.out.2.2.i1; obtain ⟨z6, z7⟩ := FC.out.2.2.2.i1)
      | (go_at_call 20; (with_reducible refine (M2.out _).mono ?_); rintro e wc ⟨rfl, hbc⟩; have FC := Lib.hid (FC.out.step hbc); clear hbc; (try clear q0 q1); obtain ⟨q0, q1⟩ := FC.out.q1; (try clear q2 q3); obtain ⟨q2, q3⟩ := FC.out.2.q1; (try clear q4 q5); obtain ⟨q4, q5⟩ := FC.out.2.2.q1; (try clear q6 q7); obtain ⟨q6, q7⟩ := FC.out.2.2.2.q1; (try clear q8 q9); obtain ⟨q8, q9⟩ := FC.out.2.2.2.2.q1; (try clear z4 z5); obtain ⟨z4, z5⟩ := FC.out.2.2.i1; (try clear z6 z7); obtain ⟨z6, z7⟩ := FC.out.2.2.2.i1)
      | (go_at_call 22; (with_reducible refine (NT.out _).mono ?_); rintro e wc ⟨rfl, hbc⟩; have FC := Lib.hid (FC.out.step hbc); clear hbc; (try clear q0 q1); obtain ⟨q0, q1⟩ := FC.out.q1; (try clear q2 q3); obtain ⟨q2, q3⟩ := FC.out.2.q1; (try clear q4 q5); obtain ⟨q4, q5⟩ := FC.out.2.2.q1; (try clear q6 q7); obtain ⟨q6, q7⟩ := FC.out.2.2.2.q1; (try clear q8 q9); obtain ⟨q8, q9⟩ := FC.out.2.2.2.2.q1; (try clear z4 z5); obtain ⟨z4, z5⟩ := FC.out.2.2.i1; (try clear z6 z7); obtain ⟨z6, z7⟩ := FC.out.2.2.2.i1; have al00 := FC.out.1.al0; have al10 := FC.out.1.al1; have bl00 := FC.out.1.bl0; have bl10 := FC.out.1.bl1; have al01 := FC.out.2.1.al0; have al11 := FC.out.2.1.al1; have bl01 := FC.out.2.1.bl0; have bl11 := FC.out.2.1.bl1))
    have hl := FC.out.2.2.2.2.1.lt
    have e0 : ¬ w.heap.size = wc.heap.size := by omega
    have e1 : ¬ w.heap.size + 1 = wc.heap.size := by omega
    have e2 : ¬ w.heap.size + 1 + 1 = wc.heap.size := by omega
    have e3 : ¬ w.heap.size + 1 + 1 + 1 = wc.heap.size := by omega
    have e4 : ¬ w.heap.size + 1 + 1 + 1 + 1 = wc.heap.size := by omega
    clear hl
    have FC := Lib.hid (FC.out.put2 a d c d)
    generalize (wc.alloc (.cells #[.int .u64 (a : Int), .int .u64 (d : Int)] 24)).alloc (.cells #[.int .u64 (c : Int), .int .u64 (d : Int)] 24) = wz at FC ⊢
    obtain ⟨q4, q5⟩ := FC.out.2.2.q1; obtain ⟨q6, q7⟩ := FC.out.2.2.2.q1; obtain ⟨q10, q11⟩ := FC.out.2.2.2.2.2.q1; obtain ⟨q12, q13⟩ := FC.out.2.2.2.2.2.2.q1; obtain ⟨z4, z5⟩ := FC.out.2.2.i1; obtain ⟨z6, z7⟩ := FC.out.2.2.2.i1
    go_region
    all_goals
      go_wp2_with fail
      have K := put4 FC.out.2.2.1 FC.out.2.2.2.1 (by omega) (.int .u64 (a : Int)) (.int .u64 (d : Int)) (.int .u64 (c : Int)) (.int .u64 (d : Int))
      exact done4 (b := ⟨⟨a, d⟩, ⟨c, d⟩, true⟩) rfl rfl rfl rfl rfl rfl (drewB K.1) (drewB K.2) rfl rfl rfl rfl rfl rfl (below4 FC.out.below (by omega) (by omega) _ _ _ _).drew
  · obtain rfl : b = x := by omega
    obtain rfl : a = y := by omega
    clear hx hy
    go_enter Tryd.func11, Tryd.ntmps11
    go_wp2_with (first
      | (go_at_call 20; (with_reducible refine (M1.out _).mono ?_); rintro e wc ⟨rfl, hbc⟩; have FC := Lib.hid ((Fr.z5 w a b c d).step hbc); clear hbc; obtain ⟨q0, q1⟩ := FC.out.q1; obtain ⟨q2, q3⟩ := FC.out.2.q1; obtain ⟨q4, q5⟩ := FC.out.2.2.q1; obtain ⟨q6, q7⟩ := FC.out.2.2.2.q1; obtain ⟨q8, q9⟩ := FC.out.2.2.2.2.q1; obtain ⟨z4, z5⟩ := FC.out.2.2.i1; obtain ⟨z6, z7⟩ := FC.out.2.2.2.i1)
      | (go_at_call 20; (with_reducible refine (M2.out _).mono ?_); rintro e wc ⟨rfl, hbc⟩; have FC := Lib.hid (FC.out.step hbc); clear hbc; (try clear q0 q1); obtain ⟨q0, q1⟩ := FC.out.q1; (try clear q2 q3); obtain ⟨q2, q3⟩ := FC.out.2.q1; (try clear q4 q5); obtain ⟨q4, q5⟩ := FC.out.2.2.q1; (try clear q6 q7); obtain ⟨q6, q7⟩ := FC.out.2.2.2.q1; (try clear q8 q9); obtain ⟨q8, q9⟩ := FC.out.2.2.2.2.q1; (try clear z4 z5); obtain ⟨z4, z5⟩ := FC.out.2.2.i1; (try clear z6 z7); obtain ⟨z6, z7⟩ := FC.out.2.2.2.i1)
      | (go_at_call 22; (with_reducible refine (NT.out _).mono ?_); rintro e wc ⟨rfl, hbc⟩; have FC := Lib.hid (FC.out.step hbc); clear hbc; (try clear q0 q1); obtain ⟨q0, q1⟩ := FC.out.q1; (try clear q2 q3); obtain ⟨q2, q3⟩ := FC.out.2.q1; (try clear q4 q5); obtain ⟨q4, q5⟩ := FC.out.2.2.q1; (try clear q6 q7); obtain ⟨q6, q7⟩ := FC.out.2.2.2.q1; (try clear q8 q9); obtain ⟨q8, q9⟩ := FC.out.2.2.2.2.q1; (try clear z4 z5); obtain ⟨z4, z5⟩ := FC.out.2.2.i1; (try clear z6 z7); obtain ⟨z6, z7⟩ := FC.out.2.2.2.i1; have al00 := FC.out.1.al0; have al10 := FC.out.1.al1; have bl00 := FC.out.1.bl0; have bl10 := FC.out.1.bl1; have al01 := FC.out.2.1.al0; have al11 := FC.out.2.1.al1; have bl01 := FC.out.2.1.bl0; have bl11 := FC.out.2.1.bl1))
    have hl := FC.out.2.2.2.2.1.lt
    have e0 : ¬ w.heap.size = wc.heap.size := by omega
    have e1 : ¬ w.heap.size + 1 = wc.heap.size := by omega
    have e2 : ¬ w.heap.size + 1 + 1 = wc.heap.size := by omega
    have e3 : ¬ w.heap.size + 1 + 1 + 1 = wc.heap.size := by omega
    have e4 : ¬ w.heap.size + 1 + 1 + 1 + 1 = wc.heap.size := by omega
    clear hl
    have FC := Lib.hid (FC.out.put2 a b a d)
    generalize (wc.alloc (.cells #[.int .u64 (a : Int), .int .u64 (b : Int)] 24)).alloc (.cells #[.int .u64 (a : Int), .int .u64 (d : Int)] 24) = wz at FC ⊢
    obtain ⟨q4, q5⟩ := FC.out.2.2.q1; obtain ⟨q6, q7⟩ := FC.out.2.2.2.q1; obtain ⟨q10, q11⟩ := FC.out.2.2.2.2.2.q1; obtain ⟨q12, q13⟩ := FC.out.2.2.2.2.2.2.q1; obtain ⟨z4, z5⟩ := FC.out.2.2.i1; obtain ⟨z6, z7⟩ := FC.out.2.2.2.i1
    go_region
    all_goals
      go_wp2_with fail
      have K := put4 FC.out.2.2.1 FC.out.2.2.2.1 (by omega) (.int .u64 (a : Int)) (.int .u64 (b : Int)) (.int .u64 (a : Int)) (.int .u64 (d : Int))
      exact done4 (b := ⟨⟨a, b⟩, ⟨a, d⟩, true⟩) rfl rfl rfl rfl rfl rfl (drewB K.1) (drewB K.2) rfl rfl rfl rfl rfl rfl (below4 FC.out.below (by omega) (by omega) _ _ _ _).drew
  · obtain rfl : b = x := by omega
    obtain rfl : c = y := by omega
    clear hx hy
    go_enter Tryd.func11, Tryd.ntmps11
    go_wp2_with (first
      | (go_at_call 20; (with_reducible refine (M1.out _).mono ?_); rintro e wc ⟨rfl, hbc⟩; have FC := Lib.hid ((Fr.z5 w a b c d).step hbc); clear hbc; obtain ⟨q0, q1⟩ := FC.out.q1; obtain ⟨q2, q3⟩ := FC.out.2.q1; obtain ⟨q4, q5⟩ := FC.out.2.2.q1; obtain ⟨q6, q7⟩ := FC.out.2.2.2.q1; obtain ⟨q8, q9⟩ := FC.out.2.2.2.2.q1; obtain ⟨z4, z5⟩ := FC.out.2.2.i1; obtain ⟨z6, z7⟩ := FC.out.2.2.2.i1)
      | (go_at_call 20; (with_reducible refine (M2.out _).mono ?_); rintro e wc ⟨rfl, hbc⟩; have FC := Lib.hid (FC.out.step hbc); clear hbc; (try clear q0 q1); obtain ⟨q0, q1⟩ := FC.out.q1; (try clear q2 q3); obtain ⟨q2, q3⟩ := FC.out.2.q1; (try clear q4 q5); obtain ⟨q4, q5⟩ := FC.out.2.2.q1; (try clear q6 q7); obtain ⟨q6, q7⟩ := FC.out.2.2.2.q1; (try clear q8 q9); obtain ⟨q8, q9⟩ := FC.out.2.2.2.2.q1; (try clear z4 z5); obtain ⟨z4, z5⟩ := FC.out.2.2.i1; (try clear z6 z7); obtain ⟨z6, z7⟩ := FC.out.2.2.2.i1)
      | (go_at_call 22; (with_reducible refine (NT.out _).mono ?_); rintro e wc ⟨rfl, hbc⟩; have FC := Lib.hid (FC.out.step hbc); clear hbc; (try clear q0 q1); obtain ⟨q0, q1⟩ := FC.out.q1; (try clear q2 q3); obtain ⟨q2, q3⟩ := FC.out.2.q1; (try clear q4 q5); obtain ⟨q4, q5⟩ := FC.out.2.2.q1; (try clear q6 q7); obtain ⟨q6, q7⟩ := FC.out.2.2.2.q1; (try clear q8 q9); obtain ⟨q8, q9⟩ := FC.out.2.2.2.2.q1; (try clear z4 z5); obtain ⟨z4, z5⟩ := FC.out.2.2.i1; (try clear z6 z7); obtain ⟨z6, z7⟩ := FC.out.2.2.2.i1; have al00 := FC.out.1.al0; have al10 := FC.out.1.al1; have bl00 := FC.out.1.bl0; have bl10 := FC.out.1.bl1; have al01 := FC.out.2.1.al0; have al11 := FC.out.2.1.al1; have bl01 := FC.out.2.1.bl0; have bl11 := FC.out.2.1.bl1))
    have hl := FC.out.2.2.2.2.1.lt
    have e0 : ¬ w.heap.size = wc.heap.size := by omega
    have e1 : ¬ w.heap.size + 1 = wc.heap.size := by omega
    have e2 : ¬ w.heap.size + 1 + 1 = wc.heap.size := by omega
    have e3 : ¬ w.heap.size + 1 + 1 + 1 = wc.heap.size := by omega
    have e4 : ¬ w.heap.size + 1 + 1 + 1 + 1 = wc.heap.size := by omega
    clear hl
    have FC := Lib.hid (FC.out.put2 a b c d)
    generalize (wc.alloc (.cells #[.int .u64 (a : Int), .int .u64 (b : Int)] 24)).alloc (.cells #[.int .u64 (c : Int), .int .u64 (d : Int)] 24) = wz at FC ⊢
    obtain ⟨q4, q5⟩ := FC.out.2.2.q1; obtain ⟨q6, q7⟩ := FC.out.2.2.2.q1; obtain ⟨q10, q11⟩ := FC.out.2.2.2.2.2.q1; obtain ⟨q12, q13⟩ := FC.out.2.2.2.2.2.2.q1; obtain ⟨z4, z5⟩ := FC.out.2.2.i1; obtain ⟨z6, z7⟩ := FC.out.2.2.2.i1
    go_region
    all_goals
      go_wp2_with fail
      have K := put4 FC.out.2.2.1 FC.out.2.2.2.1 (by omega) (.int .u64 (a : Int)) (.int .u64 (b : Int)) (.int .u64 (c : Int)) (.int .u64 (d : Int))
      exact done4 (b := ⟨⟨a, b⟩, ⟨c, d⟩, true⟩) rfl rfl rfl rfl rfl rfl (drewB K.1) (drewB K.2) rfl rfl rfl rfl rfl rfl (below4 FC.out.below (by omega) (by omega) _ _ _ _).drew
end
end Go.Proofs.YticgehmpfgdbhaaDoor
