/- branch.Refine where a span may not be, or both are single. Conditions: none but the numbers' own form. -/
import Derived.Test.YticgehmpfgdbhaaDoorBrHeld
import Derived.Test.YticgehmpfgdbhaaDoorAHolds
import Derived.Test.YticgehmpfgdbhaaDoorBrMap
namespace Go.Proofs.YticgehmpfgdbhaaDoor
open Go.RowKit
set_option maxRecDepth 100000
set_option maxHeartbeats 4000000
section
variable {w : World}
theorem ref_bad0 (n : Int) (a b c d : Nat) (f h : Bool) (H : Hid (∀ W, Calls Tryd.prog 13 #[.int .i64 n, .int .u64 (a : Int), .int .u64 (c : Int)] W fun e w' => e = .returned (.tuple #[.bool f, .int .i64 1]) ∧ W = w')) : Ans 10 #[.int .i64 n, .agg #[.int .u64 (a : Int), .int .u64 (b : Int)], .agg #[.int .u64 (c : Int), .int .u64 (d : Int)], .bool h] (.tuple #[spv sp0, spv sp0, .bool false, .int .i64 1]) w := by
  go_enter Tryd.func10, Tryd.ntmps10
  go_wp2_with (go_at_call 13; (with_reducible refine (H.out _).mono ?_); rintro e wc ⟨rfl, rfl⟩)
  go_region
  all_goals
    go_wp2_with fail
    have FC := (Fr.z4 w a b c d).drew
    exact done4 (b := no3) rfl rfl rfl rfl rfl rfl FC.2.2.1 FC.2.2.2.1 rfl rfl rfl rfl rfl rfl FC.below
theorem ref_bad1 (n : Int) (a b c d : Nat) (f h : Bool) (H : Hid (∀ W, Calls Tryd.prog 13 #[.int .i64 n, .int .u64 (a : Int), .int .u64 (c : Int)] W fun e w' => e = .returned (.tuple #[.bool f, .int .i64 0]) ∧ W = w')) (M1 : Hid (∀ W, Ans 14 #[.agg #[.int .u64 (a : Int), .int .u64 (b : Int)]] (.bool false) W)) : Ans 10 #[.int .i64 n, .agg #[.int .u64 (a : Int), .int .u64 (b : Int)], .agg #[.int .u64 (c : Int), .int .u64 (d : Int)], .bool h] (.tuple #[spv sp0, spv sp0, .bool false, .int .i64 1]) w := by
  go_enter Tryd.func10, Tryd.ntmps10
  go_wp2_with (first
    | (go_at_call 13; (with_reducible refine (H.out _).mono ?_); rintro e wc ⟨rfl, rfl⟩)
    | (go_at_call 14; (with_reducible refine (M1.out _).mono ?_); rintro e wc ⟨rfl, hbc⟩; have FC := Lib.hid ((Fr.z4 w a b c d).step hbc); clear hbc; obtain ⟨q0, q1⟩ := FC.out.q1; obtain ⟨q2, q3⟩ := FC.out.2.q1; obtain ⟨q4, q5⟩ := FC.out.2.2.q1; obtain ⟨q6, q7⟩ := FC.out.2.2.2.q1; obtain ⟨z4, z5⟩ := FC.out.2.2.i1; obtain ⟨z6, z7⟩ := FC.out.2.2.2.i1))
  go_region
  all_goals
    go_wp2_with fail
    have K := put4 FC.out.2.2.1 FC.out.2.2.2.1 (by omega) (.int .u64 (0 : Int)) (.int .u64 (0 : Int)) (.int .u64 (0 : Int)) (.int .u64 (0 : Int))
    exact done4 (b := no3) rfl rfl rfl rfl rfl rfl (drewB K.1) (drewB K.2) rfl rfl rfl rfl rfl rfl (below4 FC.out.below (by omega) (by omega) _ _ _ _).drew
theorem ref_bad2 (n : Int) (a b c d : Nat) (f h : Bool) (H : Hid (∀ W, Calls Tryd.prog 13 #[.int .i64 n, .int .u64 (a : Int), .int .u64 (c : Int)] W fun e w' => e = .returned (.tuple #[.bool f, .int .i64 0]) ∧ W = w')) (M1 : Hid (∀ W, Ans 14 #[.agg #[.int .u64 (a : Int), .int .u64 (b : Int)]] (.bool true) W)) (M2 : Hid (∀ W, Ans 14 #[.agg #[.int .u64 (c : Int), .int .u64 (d : Int)]] (.bool false) W)) : Ans 10 #[.int .i64 n, .agg #[.int .u64 (a : Int), .int .u64 (b : Int)], .agg #[.int .u64 (c : Int), .int .u64 (d : Int)], .bool h] (.tuple #[spv sp0, spv sp0, .bool false, .int .i64 1]) w := by
  go_enter Tryd.func10, Tryd.ntmps10
  go_wp2_with (first
    | (go_at_call 13; (with_reducible refine (H.out _).mono ?_); rintro e wc ⟨rfl, rfl⟩)
    | (go_at_call 14; (with_reducible refine (M1.out _).mono ?_); rintro e wc ⟨rfl, hbc⟩; have FC := Lib.hid ((Fr.z4 w a b c d).step hbc); clear hbc; obtain ⟨q0, q1⟩ := FC.out.q1; obtain ⟨q2, q3⟩ := FC.out.2.q1; obtain ⟨q4, q5⟩ := FC.out.2.2.q1; obtain ⟨q6, q7⟩ := FC.out.2.2.2.q1; obtain ⟨z4, z5⟩ := FC.out.2.2.i1; obtain ⟨z6, z7⟩ := FC.out.2.2.2.i1)
    | (go_at_call 14; (with_reducible refine (M2.out _).mono ?_); rintro e wc ⟨rfl, hbc⟩; have FC := Lib.hid (FC.out.step hbc); clear hbc; (try clear q0 q1); obtain ⟨q0, q1⟩ := FC.out.q1; (try clear q2 q3); obtain ⟨q2, q3⟩ := FC.out.2.q1; (try clear q4 q5); obtain ⟨q4, q5⟩ := FC.out.2.2.q1; (try clear q6 q7); obtain ⟨q6, q7⟩ := FC.out.2.2.2.q1; (try clear z4 z5); obtain ⟨z4, z5⟩ := FC.out.2.2.i1; (try clear z6 z7); obtain ⟨z6, z7⟩ := FC.out.2.2.2.i1))
  go_region
  all_goals
    go_wp2_with fail
    have K := put4 FC.out.2.2.1 FC.out.2.2.2.1 (by omega) (.int .u64 (0 : Int)) (.int .u64 (0 : Int)) (.int .u64 (0 : Int)) (.int .u64 (0 : Int))
    exact done4 (b := no3) rfl rfl rfl rfl rfl rfl (drewB K.1) (drewB K.2) rfl rfl rfl rfl rfl rfl (below4 FC.out.below (by omega) (by omega) _ _ _ _).drew
theorem ref_one1 (n : Int) (a b c d : Nat) (f h : Bool) (H : Hid (∀ W, Calls Tryd.prog 13 #[.int .i64 n, .int .u64 (a : Int), .int .u64 (c : Int)] W fun e w' => e = .returned (.tuple #[.bool f, .int .i64 0]) ∧ W = w')) (M1 : Hid (∀ W, Ans 14 #[.agg #[.int .u64 (a : Int), .int .u64 (b : Int)]] (.bool true) W)) (M2 : Hid (∀ W, Ans 14 #[.agg #[.int .u64 (c : Int), .int .u64 (d : Int)]] (.bool true) W)) (I1 : Hid (∀ W, Ans 17 #[.agg #[.int .u64 (a : Int), .int .u64 (b : Int)]] (.bool true) W)) (I2 : Hid (∀ W, Ans 17 #[.agg #[.int .u64 (c : Int), .int .u64 (d : Int)]] (.bool true) W)) (e : f = h) : Ans 10 #[.int .i64 n, .agg #[.int .u64 (a : Int), .int .u64 (b : Int)], .agg #[.int .u64 (c : Int), .int .u64 (d : Int)], .bool h] (.tuple #[spv ⟨a, b⟩, spv ⟨c, d⟩, .bool true, .int .i64 0]) w := by
  subst e
  cases f
  all_goals
    go_enter Tryd.func10, Tryd.ntmps10
    go_wp2_with (first
      | (go_at_call 13; (with_reducible refine (H.out _).mono ?_); rintro e wc ⟨rfl, rfl⟩)
      | (go_at_call 14; (with_reducible refine (M1.out _).mono ?_); rintro e wc ⟨rfl, hbc⟩; have FC := Lib.hid ((Fr.z4 w a b c d).step hbc); clear hbc; obtain ⟨q0, q1⟩ := FC.out.q1; obtain ⟨q2, q3⟩ := FC.out.2.q1; obtain ⟨q4, q5⟩ := FC.out.2.2.q1; obtain ⟨q6, q7⟩ := FC.out.2.2.2.q1; obtain ⟨z4, z5⟩ := FC.out.2.2.i1; obtain ⟨z6, z7⟩ := FC.out.2.2.2.i1)
      | (go_at_call 14; (with_reducible refine (M2.out _).mono ?_); rintro e wc ⟨rfl, hbc⟩; have FC := Lib.hid (FC.out.step hbc); clear hbc; (try clear q0 q1); obtain ⟨q0, q1⟩ := FC.out.q1; (try clear q2 q3); obtain ⟨q2, q3⟩ := FC.out.2.q1; (try clear q4 q5); obtain ⟨q4, q5⟩ := FC.out.2.2.q1; (try clear q6 q7); obtain ⟨q6, q7⟩ := FC.out.2.2.2.q1; (try clear z4 z5); obtain ⟨z4, z5⟩ := FC.out.2.2.i1; (try clear z6 z7); obtain ⟨z6, z7⟩ := FC.out.2.2.2.i1)
      | (go_at_call 17; (with_reducible refine (I1.out _).mono ?_); rintro e wc ⟨rfl, hbc⟩; have FC := Lib.hid (FC.out.step hbc); clear hbc; (try clear q0 q1); obtain ⟨q0, q1⟩ := FC.out.q1; (try clear q2 q3); obtain ⟨q2, q3⟩ := FC.out.2.q1; (try clear q4 q5); obtain ⟨q4, q5⟩ := FC.out.2.2.q1; (try clear q6 q7); obtain ⟨q6, q7⟩ := FC.out.2.2.2.q1; (try clear z4 z5); obtain ⟨z4, z5⟩ := FC.out.2.2.i1; (try clear z6 z7); obtain ⟨z6, z7⟩ := FC.out.2.2.2.i1)
      | (go_at_call 17; (with_reducible refine (I2.out _).mono ?_); rintro e wc ⟨rfl, hbc⟩; have FC := Lib.hid (FC.out.step hbc); clear hbc; (try clear q0 q1); obtain ⟨q0, q1⟩ := FC.out.q1; (try clear q2 q3); obtain ⟨q2, q3⟩ := FC.out.2.q1; (try clear q4 q5); obtain ⟨q4, q5⟩ := FC.out.2.2.q1; (try clear q6 q7); obtain ⟨q6, q7⟩ := FC.out.2.2.2.q1; (try clear z4 z5); obtain ⟨z4, z5⟩ := FC.out.2.2.i1; (try clear z6 z7); obtain ⟨z6, z7⟩ := FC.out.2.2.2.i1))
    go_region
    all_goals
      go_wp2_with fail
      have K := put4 FC.out.2.2.1 FC.out.2.2.2.1 (by omega) (.int .u64 (a : Int)) (.int .u64 (b : Int)) (.int .u64 (c : Int)) (.int .u64 (d : Int))
      exact done4 (b := ⟨⟨a, b⟩, ⟨c, d⟩, true⟩) rfl rfl rfl rfl rfl rfl (drewB K.1) (drewB K.2) rfl rfl rfl rfl rfl rfl (below4 FC.out.below (by omega) (by omega) _ _ _ _).drew
theorem ref_one2 (n : Int) (a b c d : Nat) (f h : Bool) (H : Hid (∀ W, Calls Tryd.prog 13 #[.int .i64 n, .int .u64 (a : Int), .int .u64 (c : Int)] W fun e w' => e = .returned (.tuple #[.bool f, .int .i64 0]) ∧ W = w')) (M1 : Hid (∀ W, Ans 14 #[.agg #[.int .u64 (a : Int), .int .u64 (b : Int)]] (.bool true) W)) (M2 : Hid (∀ W, Ans 14 #[.agg #[.int .u64 (c : Int), .int .u64 (d : Int)]] (.bool true) W)) (I1 : Hid (∀ W, Ans 17 #[.agg #[.int .u64 (a : Int), .int .u64 (b : Int)]] (.bool true) W)) (I2 : Hid (∀ W, Ans 17 #[.agg #[.int .u64 (c : Int), .int .u64 (d : Int)]] (.bool true) W)) (e : f ≠ h) : Ans 10 #[.int .i64 n, .agg #[.int .u64 (a : Int), .int .u64 (b : Int)], .agg #[.int .u64 (c : Int), .int .u64 (d : Int)], .bool h] (.tuple #[spv sp0, spv sp0, .bool false, .int .i64 0]) w := by
  cases f <;> cases h
  · exact absurd rfl e
  · go_enter Tryd.func10, Tryd.ntmps10
    go_wp2_with (first
      | (go_at_call 13; (with_reducible refine (H.out _).mono ?_); rintro e wc ⟨rfl, rfl⟩)
      | (go_at_call 14; (with_reducible refine (M1.out _).mono ?_); rintro e wc ⟨rfl, hbc⟩; have FC := Lib.hid ((Fr.z4 w a b c d).step hbc); clear hbc; obtain ⟨q0, q1⟩ := FC.out.q1; obtain ⟨q2, q3⟩ := FC.out.2.q1; obtain ⟨q4, q5⟩ := FC.out.2.2.q1; obtain ⟨q6, q7⟩ := FC.out.2.2.2.q1; obtain ⟨z4, z5⟩ := FC.out.2.2.i1; obtain ⟨z6, z7⟩ := FC.out.2.2.2.i1)
      | (go_at_call 14; (with_reducible refine (M2.out _).mono ?_); rintro e wc ⟨rfl, hbc⟩; have FC := Lib.hid (FC.out.step hbc); clear hbc; (try clear q0 q1); obtain ⟨q0, q1⟩ := FC.out.q1; (try clear q2 q3); obtain ⟨q2, q3⟩ := FC.out.2.q1; (try clear q4 q5); obtain ⟨q4, q5⟩ := FC.out.2.2.q1; (try clear q6 q7); obtain ⟨q6, q7⟩ := FC.out.2.2.2.q1; (try clear z4 z5); obtain ⟨z4, z5⟩ := FC.out.2.2.i1; (try clear z6 z7); obtain ⟨z6, z7⟩ := FC.out.2.2.2.i1)
      | (go_at_call 17; (with_reducible refine (I1.out _).mono ?_); rintro e wc ⟨rfl, hbc⟩; have FC := Lib.hid (FC.out.step hbc); clear hbc; (try clear q0 q1); obtain ⟨q0, q1⟩ := FC.out.q1; (try clear q2 q3); obtain ⟨q2, q3⟩ := FC.out.2.q1; (try clear q4 q5); obtain ⟨q4, q5⟩ := FC.out.2.2.q1; (try clear q6 q7); obtain ⟨q6, q7⟩ := FC.out.2.2.2.q1; (try clear z4 z5); obtain ⟨z4, z5⟩ := FC.out.2.2.i1; (try clear z6 z7); obtain ⟨z6, z7⟩ := FC.out.2.2.2.i1)
      | (go_at_call 17; (with_reducible refine (I2.out _).mono ?_); rintro e wc ⟨rfl, hbc⟩; have FC := Lib.hid (FC.out.step hbc); clear hbc; (try clear q0 q1); obtain ⟨q0, q1⟩ := FC.out.q1; (try clear q2 q3); obtain ⟨q2, q3⟩ := FC.out.2.q1; (try clear q4 q5); obtain ⟨q4, q5⟩ := FC.out.2.2.q1; (try clear q6 q7); obtain ⟨q6, q7⟩ := FC.out.2.2.2.q1; (try clear z4 z5); obtain ⟨z4, z5⟩ := FC.out.2.2.i1; (try clear z6 z7); obtain ⟨z6, z7⟩ := FC.out.2.2.2.i1))
    go_region
    all_goals
      go_wp2_with fail
      have K := put4 FC.out.2.2.1 FC.out.2.2.2.1 (by omega) (.int .u64 (0 : Int)) (.int .u64 (0 : Int)) (.int .u64 (0 : Int)) (.int .u64 (0 : Int))
      exact done4 (b := no3) rfl rfl rfl rfl rfl rfl (drewB K.1) (drewB K.2) rfl rfl rfl rfl rfl rfl (below4 FC.out.below (by omega) (by omega) _ _ _ _).drew
  · go_enter Tryd.func10, Tryd.ntmps10
    go_wp2_with (first
      | (go_at_call 13; (with_reducible refine (H.out _).mono ?_); rintro e wc ⟨rfl, rfl⟩)
      | (go_at_call 14; (with_reducible refine (M1.out _).mono ?_); rintro e wc ⟨rfl, hbc⟩; have FC := Lib.hid ((Fr.z4 w a b c d).step hbc); clear hbc; obtain ⟨q0, q1⟩ := FC.out.q1; obtain ⟨q2, q3⟩ := FC.out.2.q1; obtain ⟨q4, q5⟩ := FC.out.2.2.q1; obtain ⟨q6, q7⟩ := FC.out.2.2.2.q1; obtain ⟨z4, z5⟩ := FC.out.2.2.i1; obtain ⟨z6, z7⟩ := FC.out.2.2.2.i1)
      | (go_at_call 14; (with_reducible refine (M2.out _).mono ?_); rintro e wc ⟨rfl, hbc⟩; have FC := Lib.hid (FC.out.step hbc); clear hbc; (try clear q0 q1); obtain ⟨q0, q1⟩ := FC.out.q1; (try clear q2 q3); obtain ⟨q2, q3⟩ := FC.out.2.q1; (try clear q4 q5); obtain ⟨q4, q5⟩ := FC.out.2.2.q1; (try clear q6 q7); obtain ⟨q6, q7⟩ := FC.out.2.2.2.q1; (try clear z4 z5); obtain ⟨z4, z5⟩ := FC.out.2.2.i1; (try clear z6 z7); obtain ⟨z6, z7⟩ := FC.out.2.2.2.i1)
      | (go_at_call 17; (with_reducible refine (I1.out _).mono ?_); rintro e wc ⟨rfl, hbc⟩; have FC := Lib.hid (FC.out.step hbc); clear hbc; (try clear q0 q1); obtain ⟨q0, q1⟩ := FC.out.q1; (try clear q2 q3); obtain ⟨q2, q3⟩ := FC.out.2.q1; (try clear q4 q5); obtain ⟨q4, q5⟩ := FC.out.2.2.q1; (try clear q6 q7); obtain ⟨q6, q7⟩ := FC.out.2.2.2.q1; (try clear z4 z5); obtain ⟨z4, z5⟩ := FC.out.2.2.i1; (try clear z6 z7); obtain ⟨z6, z7⟩ := FC.out.2.2.2.i1)
      | (go_at_call 17; (with_reducible refine (I2.out _).mono ?_); rintro e wc ⟨rfl, hbc⟩; have FC := Lib.hid (FC.out.step hbc); clear hbc; (try clear q0 q1); obtain ⟨q0, q1⟩ := FC.out.q1; (try clear q2 q3); obtain ⟨q2, q3⟩ := FC.out.2.q1; (try clear q4 q5); obtain ⟨q4, q5⟩ := FC.out.2.2.q1; (try clear q6 q7); obtain ⟨q6, q7⟩ := FC.out.2.2.2.q1; (try clear z4 z5); obtain ⟨z4, z5⟩ := FC.out.2.2.i1; (try clear z6 z7); obtain ⟨z6, z7⟩ := FC.out.2.2.2.i1))
    go_region
    all_goals
      go_wp2_with fail
      have K := put4 FC.out.2.2.1 FC.out.2.2.2.1 (by omega) (.int .u64 (0 : Int)) (.int .u64 (0 : Int)) (.int .u64 (0 : Int)) (.int .u64 (0 : Int))
      exact done4 (b := no3) rfl rfl rfl rfl rfl rfl (drewB K.1) (drewB K.2) rfl rfl rfl rfl rfl rfl (below4 FC.out.below (by omega) (by omega) _ _ _ _).drew
  · exact absurd rfl e
end
end Go.Proofs.YticgehmpfgdbhaaDoor
