/- branch.Refine where not both spans are single (nine). Conditions: none but the numbers' own form. -/
import Derived.Test.YticgehmpfgdbhaaDoorBrHeld
import Derived.Test.YticgehmpfgdbhaaDoorAHolds
import Derived.Test.YticgehmpfgdbhaaDoorBrMap
namespace Go.Proofs.YticgehmpfgdbhaaDoor
open Go.RowKit
set_option maxRecDepth 100000
set_option maxHeartbeats 4000000
section
variable {w : World}
theorem ref_nine_true0 (n m : Int) (a b c d x y z v : Nat) (f k : Bool) (H : Hid (∀ W, Calls Tryd.prog 13 #[.int .i64 n, .int .u64 (a : Int), .int .u64 (c : Int)] W fun e w' => e = .returned (.tuple #[.bool f, .int .i64 0]) ∧ W = w')) (M1 : Hid (∀ W, Ans 14 #[.agg #[.int .u64 (a : Int), .int .u64 (b : Int)]] (.bool true) W)) (M2 : Hid (∀ W, Ans 14 #[.agg #[.int .u64 (c : Int), .int .u64 (d : Int)]] (.bool true) W)) (I1 : Hid (∀ W, Ans 17 #[.agg #[.int .u64 (a : Int), .int .u64 (b : Int)]] (.bool false) W)) (HW : Hid ((Lit.int .i64 n).wf = true)) (HM : Hid (ask n m true)) (h9 : n = 9) (MH : Hid (∀ W, Ans 19 #[.int .i64 m, .agg #[.int .u64 (c : Int), .int .u64 (d : Int)], .agg #[.int .u64 (a : Int), .int .u64 (b : Int)]] (.tuple #[spv ⟨z, v⟩, spv ⟨x, y⟩, .bool k]) W)) : Ans 10 #[.int .i64 n, .agg #[.int .u64 (a : Int), .int .u64 (b : Int)], .agg #[.int .u64 (c : Int), .int .u64 (d : Int)], .bool false] (.tuple #[spv ⟨x, y⟩, spv ⟨z, v⟩, .bool k, .int .i64 0]) w := by
  have hmm := @run_makeMap Tryd.prog
  simp only [spv] at MH
  have hn9 : (n == 9) = true := by simp [h9]
  have hn8 : (n != 9) = false := by simp [h9]
  clear h9
  go_enter Tryd.func10, Tryd.ntmps10
  go_wp2_with (first
    | (go_at_call 13; (with_reducible refine (H.out _).mono ?_); rintro e wc ⟨rfl, rfl⟩)
    | (go_at_call 14; (with_reducible refine (M1.out _).mono ?_); rintro e wc ⟨rfl, hbc⟩; have FC := Lib.hid ((Fr.z4 w a b c d).step hbc); clear hbc; obtain ⟨q0, q1⟩ := FC.out.q1; obtain ⟨q2, q3⟩ := FC.out.2.q1; obtain ⟨q4, q5⟩ := FC.out.2.2.q1; obtain ⟨q6, q7⟩ := FC.out.2.2.2.q1; obtain ⟨z4, z5⟩ := FC.out.2.2.i1; obtain ⟨z6, z7⟩ := FC.out.2.2.2.i1)
    | (go_at_call 14; (with_reducible refine (M2.out _).mono ?_); rintro e wc ⟨rfl, hbc⟩; have FC := Lib.hid (FC.out.step hbc); clear hbc; (try clear q0 q1); obtain ⟨q0, q1⟩ := FC.out.q1; (try clear q2 q3); obtain ⟨q2, q3⟩ := FC.out.2.q1; (try clear q4 q5); obtain ⟨q4, q5⟩ := FC.out.2.2.q1; (try clear q6 q7); obtain ⟨q6, q7⟩ := FC.out.2.2.2.q1; (try clear z4 z5); obtain ⟨z4, z5⟩ := FC.out.2.2.i1; (try clear z6 z7); obtain ⟨z6, z7⟩ := FC.out.2.2.2.i1)
    | (go_at_call 17; (with_reducible refine (I1.out _).mono ?_); rintro e wc ⟨rfl, hbc⟩; have FC := Lib.hid (FC.out.step hbc); clear hbc; (try clear q0 q1); (try clear q2 q3); (try clear q4 q5); (try clear q6 q7); (try clear z4 z5); (try clear z6 z7); obtain ⟨w1, w2, r1, r2, r3, hbm⟩ := map_ready wc _ m _ HW.out HM.out; have FC := Lib.hid (FC.out.step hbm); clear hbm; obtain ⟨q0, q1⟩ := FC.out.q1; obtain ⟨q2, q3⟩ := FC.out.2.q1; obtain ⟨q4, q5⟩ := FC.out.2.2.q1; obtain ⟨q6, q7⟩ := FC.out.2.2.2.q1; obtain ⟨z4, z5⟩ := FC.out.2.2.i1; obtain ⟨z6, z7⟩ := FC.out.2.2.2.i1)
    | (go_at_call 19; (with_reducible refine (MH.out _).mono ?_); rintro e wc ⟨rfl, hbc⟩; have FC := Lib.hid (FC.out.step hbc); clear hbc; (try clear q0 q1); obtain ⟨q0, q1⟩ := FC.out.q1; (try clear q2 q3); obtain ⟨q2, q3⟩ := FC.out.2.q1; (try clear q4 q5); obtain ⟨q4, q5⟩ := FC.out.2.2.q1; (try clear q6 q7); obtain ⟨q6, q7⟩ := FC.out.2.2.2.q1; (try clear z4 z5); obtain ⟨z4, z5⟩ := FC.out.2.2.i1; (try clear z6 z7); obtain ⟨z6, z7⟩ := FC.out.2.2.2.i1))
  have FC := Lib.hid (FC.out.vu x y z v)
  generalize (((wc.setCell ⟨w.heap.size + 1 + 1 + 1, 0, none⟩ (.int .u64 (z : Int))).setCell ⟨w.heap.size + 1 + 1 + 1, 1, none⟩ (.int .u64 (v : Int))).setCell ⟨w.heap.size + 1 + 1, 0, none⟩ (.int .u64 (x : Int))).setCell ⟨w.heap.size + 1 + 1, 1, none⟩ (.int .u64 (y : Int)) = wz at FC ⊢
  clear q0 q1 q2 q3 q4 q5 q6 q7 z4 z5 z6 z7
  obtain ⟨q0, q1⟩ := FC.out.q1; obtain ⟨q2, q3⟩ := FC.out.2.q1; obtain ⟨z0, z1⟩ := FC.out.i1; obtain ⟨z2, z3⟩ := FC.out.2.i1
  go_region
  all_goals
    go_wp2_with fail
    have K := put4 FC.out.1 FC.out.2.1 (by omega) (.int .u64 (x : Int)) (.int .u64 (y : Int)) (.int .u64 (z : Int)) (.int .u64 (v : Int))
    exact done4 (b := ⟨⟨x, y⟩, ⟨z, v⟩, k⟩) rfl rfl rfl rfl rfl rfl (drewB K.1) (drewB K.2) rfl rfl rfl rfl rfl rfl (below4 FC.out.below (by omega) (by omega) _ _ _ _).drew
theorem ref_nine_true1 (n m : Int) (a b c d x y z v : Nat) (f k : Bool) (H : Hid (∀ W, Calls Tryd.prog 13 #[.int .i64 n, .int .u64 (a : Int), .int .u64 (c : Int)] W fun e w' => e = .returned (.tuple #[.bool f, .int .i64 0]) ∧ W = w')) (M1 : Hid (∀ W, Ans 14 #[.agg #[.int .u64 (a : Int), .int .u64 (b : Int)]] (.bool true) W)) (M2 : Hid (∀ W, Ans 14 #[.agg #[.int .u64 (c : Int), .int .u64 (d : Int)]] (.bool true) W)) (I1 : Hid (∀ W, Ans 17 #[.agg #[.int .u64 (a : Int), .int .u64 (b : Int)]] (.bool true) W)) (I2 : Hid (∀ W, Ans 17 #[.agg #[.int .u64 (c : Int), .int .u64 (d : Int)]] (.bool false) W)) (HW : Hid ((Lit.int .i64 n).wf = true)) (HM : Hid (ask n m true)) (h9 : n = 9) (MH : Hid (∀ W, Ans 19 #[.int .i64 m, .agg #[.int .u64 (c : Int), .int .u64 (d : Int)], .agg #[.int .u64 (a : Int), .int .u64 (b : Int)]] (.tuple #[spv ⟨z, v⟩, spv ⟨x, y⟩, .bool k]) W)) : Ans 10 #[.int .i64 n, .agg #[.int .u64 (a : Int), .int .u64 (b : Int)], .agg #[.int .u64 (c : Int), .int .u64 (d : Int)], .bool false] (.tuple #[spv ⟨x, y⟩, spv ⟨z, v⟩, .bool k, .int .i64 0]) w := by
  have hmm := @run_makeMap Tryd.prog
  simp only [spv] at MH
  have hn9 : (n == 9) = true := by simp [h9]
  have hn8 : (n != 9) = false := by simp [h9]
  clear h9
  go_enter Tryd.func10, Tryd.ntmps10
  go_wp2_with (first
    | (go_at_call 13; (with_reducible refine (H.out _).mono ?_); rintro e wc ⟨rfl, rfl⟩)
    | (go_at_call 14; (with_reducible refine (M1.out _).mono ?_); rintro e wc ⟨rfl, hbc⟩; have FC := Lib.hid ((Fr.z4 w a b c d).step hbc); clear hbc; obtain ⟨q0, q1⟩ := FC.out.q1; obtain ⟨q2, q3⟩ := FC.out.2.q1; obtain ⟨q4, q5⟩ := FC.out.2.2.q1; obtain ⟨q6, q7⟩ := FC.out.2.2.2.q1; obtain ⟨z4, z5⟩ := FC.out.2.2.i1; obtain ⟨z6, z7⟩ := FC.out.2.2.2.i1)
    | (go_at_call 14; (with_reducible refine (M2.out _).mono ?_); rintro e wc ⟨rfl, hbc⟩; have FC := Lib.hid (FC.out.step hbc); clear hbc; (try clear q0 q1); obtain ⟨q0, q1⟩ := FC.out.q1; (try clear q2 q3); obtain ⟨q2, q3⟩ := FC.out.2.q1; (try clear q4 q5); obtain ⟨q4, q5⟩ := FC.out.2.2.q1; (try clear q6 q7); obtain ⟨q6, q7⟩ := FC.out.2.2.2.q1; (try clear z4 z5); obtain ⟨z4, z5⟩ := FC.out.2.2.i1; (try clear z6 z7); obtain ⟨z6, z7⟩ := FC.out.2.2.2.i1)
    | (go_at_call 17; (with_reducible refine (I1.out _).mono ?_); rintro e wc ⟨rfl, hbc⟩; have FC := Lib.hid (FC.out.step hbc); clear hbc; (try clear q0 q1); obtain ⟨q0, q1⟩ := FC.out.q1; (try clear q2 q3); obtain ⟨q2, q3⟩ := FC.out.2.q1; (try clear q4 q5); obtain ⟨q4, q5⟩ := FC.out.2.2.q1; (try clear q6 q7); obtain ⟨q6, q7⟩ := FC.out.2.2.2.q1; (try clear z4 z5); obtain ⟨z4, z5⟩ := FC.out.2.2.i1; (try clear z6 z7); obtain ⟨z6, z7⟩ := FC.out.2.2.2.i1)
    | (go_at_call 17; (with_reducible refine (I2.out _).mono ?_); rintro e wc ⟨rfl, hbc⟩; have FC := Lib.hid (FC.out.step hbc); clear hbc; (try clear q0 q1); (try clear q2 q3); (try clear q4 q5); (try clear q6 q7); (try clear z4 z5); (try clear z6 z7); obtain ⟨w1, w2, r1, r2, r3, hbm⟩ := map_ready wc _ m _ HW.out HM.out; have FC := Lib.hid (FC.out.step hbm); clear hbm; obtain ⟨q0, q1⟩ := FC.out.q1; obtain ⟨q2, q3⟩ := FC.out.2.q1; obtain ⟨q4, q5⟩ := FC.out.2.2.q1; obtain ⟨q6, q7⟩ := FC.out.2.2.2.q1; obtain ⟨z4, z5⟩ := FC.out.2.2.i1; obtain ⟨z6, z7⟩ := FC.out.2.2.2.i1)
    | (go_at_call 19; (with_reducible refine (MH.out _).mono ?_); rintro e wc ⟨rfl, hbc⟩; have FC := Lib.hid (FC.out.step hbc); clear hbc; (try clear q0 q1); obtain ⟨q0, q1⟩ := FC.out.q1; (try clear q2 q3); obtain ⟨q2, q3⟩ := FC.out.2.q1; (try clear q4 q5); obtain ⟨q4, q5⟩ := FC.out.2.2.q1; (try clear q6 q7); obtain ⟨q6, q7⟩ := FC.out.2.2.2.q1; (try clear z4 z5); obtain ⟨z4, z5⟩ := FC.out.2.2.i1; (try clear z6 z7); obtain ⟨z6, z7⟩ := FC.out.2.2.2.i1))
  have FC := Lib.hid (FC.out.vu x y z v)
  generalize (((wc.setCell ⟨w.heap.size + 1 + 1 + 1, 0, none⟩ (.int .u64 (z : Int))).setCell ⟨w.heap.size + 1 + 1 + 1, 1, none⟩ (.int .u64 (v : Int))).setCell ⟨w.heap.size + 1 + 1, 0, none⟩ (.int .u64 (x : Int))).setCell ⟨w.heap.size + 1 + 1, 1, none⟩ (.int .u64 (y : Int)) = wz at FC ⊢
  clear q0 q1 q2 q3 q4 q5 q6 q7 z4 z5 z6 z7
  obtain ⟨q0, q1⟩ := FC.out.q1; obtain ⟨q2, q3⟩ := FC.out.2.q1; obtain ⟨z0, z1⟩ := FC.out.i1; obtain ⟨z2, z3⟩ := FC.out.2.i1
  go_region
  all_goals
    go_wp2_with fail
    have K := put4 FC.out.1 FC.out.2.1 (by omega) (.int .u64 (x : Int)) (.int .u64 (y : Int)) (.int .u64 (z : Int)) (.int .u64 (v : Int))
    exact done4 (b := ⟨⟨x, y⟩, ⟨z, v⟩, k⟩) rfl rfl rfl rfl rfl rfl (drewB K.1) (drewB K.2) rfl rfl rfl rfl rfl rfl (below4 FC.out.below (by omega) (by omega) _ _ _ _).drew
theorem ref_nine_false0 (n m : Int) (a b c d x y z v : Nat) (f k : Bool) (H : Hid (∀ W, Calls Tryd.prog 13 #[.int .i64 n, .int .u64 (a : Int), .int .u64 (c : Int)] W fun e w' => e = .returned (.tuple #[.bool f, .int .i64 0]) ∧ W = w')) (M1 : Hid (∀ W, Ans 14 #[.agg #[.int .u64 (a : Int), .int .u64 (b : Int)]] (.bool true) W)) (M2 : Hid (∀ W, Ans 14 #[.agg #[.int .u64 (c : Int), .int .u64 (d : Int)]] (.bool true) W)) (I1 : Hid (∀ W, Ans 17 #[.agg #[.int .u64 (a : Int), .int .u64 (b : Int)]] (.bool false) W)) (HW : Hid ((Lit.int .i64 n).wf = true)) (HM : Hid (ask n m false)) (h9 : n = 9) (MH : Hid (∀ W, Ans 19 #[.int .i64 n, .agg #[.int .u64 (a : Int), .int .u64 (b : Int)], .agg #[.int .u64 (c : Int), .int .u64 (d : Int)]] (.tuple #[spv ⟨x, y⟩, spv ⟨z, v⟩, .bool k]) W)) : Ans 10 #[.int .i64 n, .agg #[.int .u64 (a : Int), .int .u64 (b : Int)], .agg #[.int .u64 (c : Int), .int .u64 (d : Int)], .bool false] (.tuple #[spv ⟨x, y⟩, spv ⟨z, v⟩, .bool k, .int .i64 0]) w := by
  have hmm := @run_makeMap Tryd.prog
  simp only [spv] at MH
  have hn9 : (n == 9) = true := by simp [h9]
  have hn8 : (n != 9) = false := by simp [h9]
  clear h9
  go_enter Tryd.func10, Tryd.ntmps10
  go_wp2_with (first
    | (go_at_call 13; (with_reducible refine (H.out _).mono ?_); rintro e wc ⟨rfl, rfl⟩)
    | (go_at_call 14; (with_reducible refine (M1.out _).mono ?_); rintro e wc ⟨rfl, hbc⟩; have FC := Lib.hid ((Fr.z4 w a b c d).step hbc); clear hbc; obtain ⟨q0, q1⟩ := FC.out.q1; obtain ⟨q2, q3⟩ := FC.out.2.q1; obtain ⟨q4, q5⟩ := FC.out.2.2.q1; obtain ⟨q6, q7⟩ := FC.out.2.2.2.q1; obtain ⟨z4, z5⟩ := FC.out.2.2.i1; obtain ⟨z6, z7⟩ := FC.out.2.2.2.i1)
    | (go_at_call 14; (with_reducible refine (M2.out _).mono ?_); rintro e wc ⟨rfl, hbc⟩; have FC := Lib.hid (FC.out.step hbc); clear hbc; (try clear q0 q1); obtain ⟨q0, q1⟩ := FC.out.q1; (try clear q2 q3); obtain ⟨q2, q3⟩ := FC.out.2.q1; (try clear q4 q5); obtain ⟨q4, q5⟩ := FC.out.2.2.q1; (try clear q6 q7); obtain ⟨q6, q7⟩ := FC.out.2.2.2.q1; (try clear z4 z5); obtain ⟨z4, z5⟩ := FC.out.2.2.i1; (try clear z6 z7); obtain ⟨z6, z7⟩ := FC.out.2.2.2.i1)
    | (go_at_call 17; (with_reducible refine (I1.out _).mono ?_); rintro e wc ⟨rfl, hbc⟩; have FC := Lib.hid (FC.out.step hbc); clear hbc; (try clear q0 q1); (try clear q2 q3); (try clear q4 q5); (try clear q6 q7); (try clear z4 z5); (try clear z6 z7); obtain ⟨w1, w2, r1, r2, r3, hbm⟩ := map_ready wc _ m _ HW.out HM.out; have FC := Lib.hid (FC.out.step hbm); clear hbm; obtain ⟨q0, q1⟩ := FC.out.q1; obtain ⟨q2, q3⟩ := FC.out.2.q1; obtain ⟨q4, q5⟩ := FC.out.2.2.q1; obtain ⟨q6, q7⟩ := FC.out.2.2.2.q1; obtain ⟨z4, z5⟩ := FC.out.2.2.i1; obtain ⟨z6, z7⟩ := FC.out.2.2.2.i1)
    | (go_at_call 19; (with_reducible refine (MH.out _).mono ?_); rintro e wc ⟨rfl, hbc⟩; have FC := Lib.hid (FC.out.step hbc); clear hbc; (try clear q0 q1); obtain ⟨q0, q1⟩ := FC.out.q1; (try clear q2 q3); obtain ⟨q2, q3⟩ := FC.out.2.q1; (try clear q4 q5); obtain ⟨q4, q5⟩ := FC.out.2.2.q1; (try clear q6 q7); obtain ⟨q6, q7⟩ := FC.out.2.2.2.q1; (try clear z4 z5); obtain ⟨z4, z5⟩ := FC.out.2.2.i1; (try clear z6 z7); obtain ⟨z6, z7⟩ := FC.out.2.2.2.i1))
  have FC := Lib.hid (FC.out.uv x y z v)
  generalize (((wc.setCell ⟨w.heap.size + 1 + 1, 0, none⟩ (.int .u64 (x : Int))).setCell ⟨w.heap.size + 1 + 1, 1, none⟩ (.int .u64 (y : Int))).setCell ⟨w.heap.size + 1 + 1 + 1, 0, none⟩ (.int .u64 (z : Int))).setCell ⟨w.heap.size + 1 + 1 + 1, 1, none⟩ (.int .u64 (v : Int)) = wz at FC ⊢
  clear q0 q1 q2 q3 q4 q5 q6 q7 z4 z5 z6 z7
  obtain ⟨q0, q1⟩ := FC.out.q1; obtain ⟨q2, q3⟩ := FC.out.2.q1; obtain ⟨z0, z1⟩ := FC.out.i1; obtain ⟨z2, z3⟩ := FC.out.2.i1
  go_region
  all_goals
    go_wp2_with fail
    have K := put4 FC.out.1 FC.out.2.1 (by omega) (.int .u64 (x : Int)) (.int .u64 (y : Int)) (.int .u64 (z : Int)) (.int .u64 (v : Int))
    exact done4 (b := ⟨⟨x, y⟩, ⟨z, v⟩, k⟩) rfl rfl rfl rfl rfl rfl (drewB K.1) (drewB K.2) rfl rfl rfl rfl rfl rfl (below4 FC.out.below (by omega) (by omega) _ _ _ _).drew
theorem ref_nine_false1 (n m : Int) (a b c d x y z v : Nat) (f k : Bool) (H : Hid (∀ W, Calls Tryd.prog 13 #[.int .i64 n, .int .u64 (a : Int), .int .u64 (c : Int)] W fun e w' => e = .returned (.tuple #[.bool f, .int .i64 0]) ∧ W = w')) (M1 : Hid (∀ W, Ans 14 #[.agg #[.int .u64 (a : Int), .int .u64 (b : Int)]] (.bool true) W)) (M2 : Hid (∀ W, Ans 14 #[.agg #[.int .u64 (c : Int), .int .u64 (d : Int)]] (.bool true) W)) (I1 : Hid (∀ W, Ans 17 #[.agg #[.int .u64 (a : Int), .int .u64 (b : Int)]] (.bool true) W)) (I2 : Hid (∀ W, Ans 17 #[.agg #[.int .u64 (c : Int), .int .u64 (d : Int)]] (.bool false) W)) (HW : Hid ((Lit.int .i64 n).wf = true)) (HM : Hid (ask n m false)) (h9 : n = 9) (MH : Hid (∀ W, Ans 19 #[.int .i64 n, .agg #[.int .u64 (a : Int), .int .u64 (b : Int)], .agg #[.int .u64 (c : Int), .int .u64 (d : Int)]] (.tuple #[spv ⟨x, y⟩, spv ⟨z, v⟩, .bool k]) W)) : Ans 10 #[.int .i64 n, .agg #[.int .u64 (a : Int), .int .u64 (b : Int)], .agg #[.int .u64 (c : Int), .int .u64 (d : Int)], .bool false] (.tuple #[spv ⟨x, y⟩, spv ⟨z, v⟩, .bool k, .int .i64 0]) w := by
  have hmm := @run_makeMap Tryd.prog
  simp only [spv] at MH
  have hn9 : (n == 9) = true := by simp [h9]
  have hn8 : (n != 9) = false := by simp [h9]
  clear h9
  go_enter Tryd.func10, Tryd.ntmps10
  go_wp2_with (first
    | (go_at_call 13; (with_reducible refine (H.out _).mono ?_); rintro e wc ⟨rfl, rfl⟩)
    | (go_at_call 14; (with_reducible refine (M1.out _).mono ?_); rintro e wc ⟨rfl, hbc⟩; have FC := Lib.hid ((Fr.z4 w a b c d).step hbc); clear hbc; obtain ⟨q0, q1⟩ := FC.out.q1; obtain ⟨q2, q3⟩ := FC.out.2.q1; obtain ⟨q4, q5⟩ := FC.out.2.2.q1; obtain ⟨q6, q7⟩ := FC.out.2.2.2.q1; obtain ⟨z4, z5⟩ := FC.out.2.2.i1; obtain ⟨z6, z7⟩ := FC.out.2.2.2.i1)
    | (go_at_call 14; (with_reducible refine (M2.out _).mono ?_); rintro e wc ⟨rfl, hbc⟩; have FC := Lib.hid (FC.out.step hbc); clear hbc; (try clear q0 q1); obtain ⟨q0, q1⟩ := FC.out.q1; (try clear q2 q3); obtain ⟨q2, q3⟩ := FC.out.2.q1; (try clear q4 q5); obtain ⟨q4, q5⟩ := FC.out.2.2.q1; (try clear q6 q7); obtain ⟨q6, q7⟩ := FC.out.2.2.2.q1; (try clear z4 z5); obtain ⟨z4, z5⟩ := FC.out.2.2.i1; (try clear z6 z7); obtain ⟨z6, z7⟩ := FC.out.2.2.2.i1)
    | (go_at_call 17; (with_reducible refine (I1.out _).mono ?_); rintro e wc ⟨rfl, hbc⟩; have FC := Lib.hid (FC.out.step hbc); clear hbc; (try clear q0 q1); obtain ⟨q0, q1⟩ := FC.out.q1; (try clear q2 q3); obtain ⟨q2, q3⟩ := FC.out.2.q1; (try clear q4 q5); obtain ⟨q4, q5⟩ := FC.out.2.2.q1; (try clear q6 q7); obtain ⟨q6, q7⟩ := FC.out.2.2.2.q1; (try clear z4 z5); obtain ⟨z4, z5⟩ := FC.out.2.2.i1; (try clear z6 z7); obtain ⟨z6, z7⟩ := FC.out.2.2.2.i1)
    | (go_at_call 17; (with_reducible refine (I2.out _).mono ?_); rintro e wc ⟨rfl, hbc⟩; have FC := Lib.hid (FC.out.step hbc); clear hbc; (try clear q0 q1); (try clear q2 q3); (try clear q4 q5); (try clear q6 q7); (try clear z4 z5); (try clear z6 z7); obtain ⟨w1, w2, r1, r2, r3, hbm⟩ := map_ready wc _ m _ HW.out HM.out; have FC := Lib.hid (FC.out.step hbm); clear hbm; obtain ⟨q0, q1⟩ := FC.out.q1; obtain ⟨q2, q3⟩ := FC.out.2.q1; obtain ⟨q4, q5⟩ := FC.out.2.2.q1; obtain ⟨q6, q7⟩ := FC.out.2.2.2.q1; obtain ⟨z4, z5⟩ := FC.out.2.2.i1; obtain ⟨z6, z7⟩ := FC.out.2.2.2.i1)
    | (go_at_call 19; (with_reducible refine (MH.out _).mono ?_); rintro e wc ⟨rfl, hbc⟩; have FC := Lib.hid (FC.out.step hbc); clear hbc; (try clear q0 q1); obtain ⟨q0, q1⟩ := FC.out.q1; (try clear q2 q3); obtain ⟨q2, q3⟩ := FC.out.2.q1; (try clear q4 q5); obtain ⟨q4, q5⟩ := FC.out.2.2.q1; (try clear q6 q7); obtain ⟨q6, q7⟩ := FC.out.2.2.2.q1; (try clear z4 z5); obtain ⟨z4, z5⟩ := FC.out.2.2.i1; (try clear z6 z7); obtain ⟨z6, z7⟩ := FC.out.2.2.2.i1))
  have FC := Lib.hid (FC.out.uv x y z v)
  generalize (((wc.setCell ⟨w.heap.size + 1 + 1, 0, none⟩ (.int .u64 (x : Int))).setCell ⟨w.heap.size + 1 + 1, 1, none⟩ (.int .u64 (y : Int))).setCell ⟨w.heap.size + 1 + 1 + 1, 0, none⟩ (.int .u64 (z : Int))).setCell ⟨w.heap.size + 1 + 1 + 1, 1, none⟩ (.int .u64 (v : Int)) = wz at FC ⊢
  clear q0 q1 q2 q3 q4 q5 q6 q7 z4 z5 z6 z7
  obtain ⟨q0, q1⟩ := FC.out.q1; obtain ⟨q2, q3⟩ := FC.out.2.q1; obtain ⟨z0, z1⟩ := FC.out.i1; obtain ⟨z2, z3⟩ := FC.out.2.i1
  go_region
  all_goals
    go_wp2_with fail
    have K := put4 FC.out.1 FC.out.2.1 (by omega) (.int .u64 (x : Int)) (.int .u64 (y : Int)) (.int .u64 (z : Int)) (.int .u64 (v : Int))
    exact done4 (b := ⟨⟨x, y⟩, ⟨z, v⟩, k⟩) rfl rfl rfl rfl rfl rfl (drewB K.1) (drewB K.2) rfl rfl rfl rfl rfl rfl (below4 FC.out.below (by omega) (by omega) _ _ _ _).drew
end
end Go.Proofs.YticgehmpfgdbhaaDoor
