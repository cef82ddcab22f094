/- The document's Refine: a way through its table. Conditions: none but the numbers' own form. -/
import Derived.Test.YticgehmpfgdbhaaDoorBrREnds
import Derived.Test.YticgehmpfgdbhaaDoorARHolds
import Derived.Test.YticgehmpfgdbhaaDoorSpRMeet
namespace Go.Proofs.YticgehmpfgdbhaaDoor
open Go.RowKit
set_option maxRecDepth 100000
set_option maxHeartbeats 4000000
section
variable {w : World}
theorem rr_yes1_5no (a c d : Nat) (M1 : Hid (∀ W, Ans 20 #[.agg #[.int .u64 (a : Int), .int .u64 (a : Int)]] (.bool true) W)) (M2 : Hid (∀ W, Ans 20 #[.agg #[.int .u64 (c : Int), .int .u64 (d : Int)]] (.bool true) W)) (s2 : ((c : Int) == d) = false) (h : a ≤ c) : Ans 11 #[.int .i64 5, .agg #[.int .u64 (a : Int), .int .u64 (a : Int)], .agg #[.int .u64 (c : Int), .int .u64 (d : Int)], .bool true] (.tuple #[spv sp0, spv sp0, .bool false, .int .i64 0]) w := by
  go_enter Tryd.func11, Tryd.ntmps11
  go_wp2_with (first
    | (go_at_call 20; (with_reducible refine (M1.out _).mono ?_); rintro e wc ⟨rfl, hbc⟩; have FC := Lib.hid ((Fr.z5 w a a c d).step hbc); clear hbc; obtain ⟨q0, q1⟩ := FC.out.q1; obtain ⟨q2, q3⟩ := FC.out.2.q1; obtain ⟨q4, q5⟩ := FC.out.2.2.q1; obtain ⟨q6, q7⟩ := FC.out.2.2.2.q1; obtain ⟨q8, q9⟩ := FC.out.2.2.2.2.q1; obtain ⟨z4, z5⟩ := FC.out.2.2.i1; obtain ⟨z6, z7⟩ := FC.out.2.2.2.i1)
    | (go_at_call 20; (with_reducible refine (M2.out _).mono ?_); rintro e wc ⟨rfl, hbc⟩; have FC := Lib.hid (FC.out.step hbc); clear hbc; (try clear q0 q1); obtain ⟨q0, q1⟩ := FC.out.q1; (try clear q2 q3); obtain ⟨q2, q3⟩ := FC.out.2.q1; (try clear q4 q5); obtain ⟨q4, q5⟩ := FC.out.2.2.q1; (try clear q6 q7); obtain ⟨q6, q7⟩ := FC.out.2.2.2.q1; (try clear q8 q9); obtain ⟨q8, q9⟩ := FC.out.2.2.2.2.q1; (try clear z4 z5); obtain ⟨z4, z5⟩ := FC.out.2.2.i1; (try clear z6 z7); obtain ⟨z6, z7⟩ := FC.out.2.2.2.i1; have al00 := FC.out.1.al0; have al10 := FC.out.1.al1; have bl00 := FC.out.1.bl0; have bl10 := FC.out.1.bl1; have al01 := FC.out.2.1.al0; have al11 := FC.out.2.1.al1; have bl01 := FC.out.2.1.bl0; have bl11 := FC.out.2.1.bl1))
  have hl := FC.out.2.2.2.2.1.lt
  have e0 : ¬ w.heap.size = wc.heap.size := by omega
  have e1 : ¬ w.heap.size + 1 = wc.heap.size := by omega
  have e2 : ¬ w.heap.size + 1 + 1 = wc.heap.size := by omega
  have e3 : ¬ w.heap.size + 1 + 1 + 1 = wc.heap.size := by omega
  have e4 : ¬ w.heap.size + 1 + 1 + 1 + 1 = wc.heap.size := by omega
  clear hl
  have FC := Lib.hid (FC.out.put2 a a c d)
  generalize (wc.alloc (.cells #[.int .u64 (a : Int), .int .u64 (a : Int)] 24)).alloc (.cells #[.int .u64 (c : Int), .int .u64 (d : Int)] 24) = wz at FC ⊢
  obtain ⟨q4, q5⟩ := FC.out.2.2.q1; obtain ⟨q6, q7⟩ := FC.out.2.2.2.q1; obtain ⟨q8, q9⟩ := FC.out.2.2.2.2.q1; obtain ⟨z4, z5⟩ := FC.out.2.2.i1; obtain ⟨z6, z7⟩ := FC.out.2.2.2.i1
  go_region
  all_goals
    go_wp2_with fail
    have K := put4 FC.out.2.2.1 FC.out.2.2.2.1 (by omega) (.int .u64 (0 : Int)) (.int .u64 (0 : Int)) (.int .u64 (0 : Int)) (.int .u64 (0 : Int))
    exact done4 (b := no3) rfl rfl rfl rfl rfl rfl (drewB K.1) (drewB K.2) rfl rfl rfl rfl rfl rfl (below4 FC.out.below (by omega) (by omega) _ _ _ _).drew
theorem rr_yes1_5ok (a c d : Nat) (M1 : Hid (∀ W, Ans 20 #[.agg #[.int .u64 (a : Int), .int .u64 (a : Int)]] (.bool true) W)) (M2 : Hid (∀ W, Ans 20 #[.agg #[.int .u64 (c : Int), .int .u64 (d : Int)]] (.bool true) W)) (s2 : ((c : Int) == d) = false) (x y : Nat) (h : ¬ a ≤ c) (hb : a < 18446744073709551616) (hx : x = min d (a - 1)) (hy : y = max a (c + 1)) : Ans 11 #[.int .i64 5, .agg #[.int .u64 (a : Int), .int .u64 (a : Int)], .agg #[.int .u64 (c : Int), .int .u64 (d : Int)], .bool true] (.tuple #[spv ⟨y, a⟩, spv ⟨c, x⟩, .bool true, .int .i64 0]) w := by
  have W1 := Lib.hid (show IntKind.u64.wrap ((a : Int) - 1) = ((a - 1 : Nat) : Int) by rw [IntKind.wrap_u64]; omega)
  have W2 := Lib.hid (show IntKind.u64.wrap ((c : Int) + 1) = ((c + 1 : Nat) : Int) by rw [IntKind.wrap_u64]; omega)
  have wd := W1.out
  have wa := W2.out
  clear hb W1 W2
  obtain ⟨pp, hp⟩ : ∃ pp, pp = a - 1 := ⟨_, rfl⟩
  obtain ⟨qq, hq⟩ : ∃ qq, qq = c + 1 := ⟨_, rfl⟩
  rw [← hp] at wd
  rw [← hq] at wa
  by_cases h1 : a ≤ d <;> by_cases h2 : a ≤ c
  · exact absurd h2 h
  · obtain rfl : pp = x := by omega
    obtain rfl : a = y := by omega
    clear hx hy hp hq
    go_enter Tryd.func11, Tryd.ntmps11
    go_wp2_with (first
      | (go_at_call 20; (with_reducible refine (M1.out _).mono ?_); rintro e wc ⟨rfl, hbc⟩; have FC := Lib.hid ((Fr.z5 w a a c d).step hbc); clear hbc; obtain ⟨q0, q1⟩ := FC.out.q1; obtain ⟨q2, q3⟩ := FC.out.2.q1; obtain ⟨q4, q5⟩ := FC.out.2.2.q1; obtain ⟨q6, q7⟩ := FC.out.2.2.2.q1; obtain ⟨q8, q9⟩ := FC.out.2.2.2.2.q1; obtain ⟨z4, z5⟩ := FC.out.2.2.i1; obtain ⟨z6, z7⟩ := FC.out.2.2.2.i1)
      | (go_at_call 20; (with_reducible refine (M2.out _).mono ?_); rintro e wc ⟨rfl, hbc⟩; have FC := Lib.hid (FC.out.step hbc); clear hbc; (try clear q0 q1); obtain ⟨q0, q1⟩ := FC.out.q1; (try clear q2 q3); obtain ⟨q2, q3⟩ := FC.out.2.q1; (try clear q4 q5); obtain ⟨q4, q5⟩ := FC.out.2.2.q1; (try clear q6 q7); obtain ⟨q6, q7⟩ := FC.out.2.2.2.q1; (try clear q8 q9); obtain ⟨q8, q9⟩ := FC.out.2.2.2.2.q1; (try clear z4 z5); obtain ⟨z4, z5⟩ := FC.out.2.2.i1; (try clear z6 z7); obtain ⟨z6, z7⟩ := FC.out.2.2.2.i1; have al00 := FC.out.1.al0; have al10 := FC.out.1.al1; have bl00 := FC.out.1.bl0; have bl10 := FC.out.1.bl1; have al01 := FC.out.2.1.al0; have al11 := FC.out.2.1.al1; have bl01 := FC.out.2.1.bl0; have bl11 := FC.out.2.1.bl1))
    have hl := FC.out.2.2.2.2.1.lt
    have e0 : ¬ w.heap.size = wc.heap.size := by omega
    have e1 : ¬ w.heap.size + 1 = wc.heap.size := by omega
    have e2 : ¬ w.heap.size + 1 + 1 = wc.heap.size := by omega
    have e3 : ¬ w.heap.size + 1 + 1 + 1 = wc.heap.size := by omega
    have e4 : ¬ w.heap.size + 1 + 1 + 1 + 1 = wc.heap.size := by omega
    clear hl
    have FC := Lib.hid (FC.out.put2 a a c pp)
    generalize (wc.alloc (.cells #[.int .u64 (a : Int), .int .u64 (a : Int)] 24)).alloc (.cells #[.int .u64 (c : Int), .int .u64 (pp : Int)] 24) = wz at FC ⊢
    obtain ⟨q4, q5⟩ := FC.out.2.2.q1; obtain ⟨q6, q7⟩ := FC.out.2.2.2.q1; obtain ⟨q10, q11⟩ := FC.out.2.2.2.2.2.q1; obtain ⟨q12, q13⟩ := FC.out.2.2.2.2.2.2.q1; obtain ⟨z4, z5⟩ := FC.out.2.2.i1; obtain ⟨z6, z7⟩ := FC.out.2.2.2.i1
    go_region
    all_goals
      go_wp2_with fail
      have K := put4 FC.out.2.2.1 FC.out.2.2.2.1 (by omega) (.int .u64 (a : Int)) (.int .u64 (a : Int)) (.int .u64 (c : Int)) (.int .u64 (pp : Int))
      exact done4 (b := ⟨⟨a, a⟩, ⟨c, pp⟩, true⟩) rfl rfl rfl rfl rfl rfl (drewB K.1) (drewB K.2) rfl rfl rfl rfl rfl rfl (below4 FC.out.below (by omega) (by omega) _ _ _ _).drew
  · exact absurd h2 h
  · obtain rfl : d = x := by omega
    obtain rfl : a = y := by omega
    clear hx hy hp hq
    go_enter Tryd.func11, Tryd.ntmps11
    go_wp2_with (first
      | (go_at_call 20; (with_reducible refine (M1.out _).mono ?_); rintro e wc ⟨rfl, hbc⟩; have FC := Lib.hid ((Fr.z5 w a a c d).step hbc); clear hbc; obtain ⟨q0, q1⟩ := FC.out.q1; obtain ⟨q2, q3⟩ := FC.out.2.q1; obtain ⟨q4, q5⟩ := FC.out.2.2.q1; obtain ⟨q6, q7⟩ := FC.out.2.2.2.q1; obtain ⟨q8, q9⟩ := FC.out.2.2.2.2.q1; obtain ⟨z4, z5⟩ := FC.out.2.2.i1; obtain ⟨z6, z7⟩ := FC.out.2.2.2.i1)
      | (go_at_call 20; (with_reducible refine (M2.out _).mono ?_); rintro e wc ⟨rfl, hbc⟩; have FC := Lib.hid (FC.out.step hbc); clear hbc; (try clear q0 q1); obtain ⟨q0, q1⟩ := FC.out.q1; (try clear q2 q3); obtain ⟨q2, q3⟩ := FC.out.2.q1; (try clear q4 q5); obtain ⟨q4, q5⟩ := FC.out.2.2.q1; (try clear q6 q7); obtain ⟨q6, q7⟩ := FC.out.2.2.2.q1; (try clear q8 q9); obtain ⟨q8, q9⟩ := FC.out.2.2.2.2.q1; (try clear z4 z5); obtain ⟨z4, z5⟩ := FC.out.2.2.i1; (try clear z6 z7); obtain ⟨z6, z7⟩ := FC.out.2.2.2.i1; have al00 := FC.out.1.al0; have al10 := FC.out.1.al1; have bl00 := FC.out.1.bl0; have bl10 := FC.out.1.bl1; have al01 := FC.out.2.1.al0; have al11 := FC.out.2.1.al1; have bl01 := FC.out.2.1.bl0; have bl11 := FC.out.2.1.bl1))
    have hl := FC.out.2.2.2.2.1.lt
    have e0 : ¬ w.heap.size = wc.heap.size := by omega
    have e1 : ¬ w.heap.size + 1 = wc.heap.size := by omega
    have e2 : ¬ w.heap.size + 1 + 1 = wc.heap.size := by omega
    have e3 : ¬ w.heap.size + 1 + 1 + 1 = wc.heap.size := by omega
    have e4 : ¬ w.heap.size + 1 + 1 + 1 + 1 = wc.heap.size := by omega
    clear hl
    have FC := Lib.hid (FC.out.put2 a a c d)
    generalize (wc.alloc (.cells #[.int .u64 (a : Int), .int .u64 (a : Int)] 24)).alloc (.cells #[.int .u64 (c : Int), .int .u64 (d : Int)] 24) = wz at FC ⊢
    obtain ⟨q4, q5⟩ := FC.out.2.2.q1; obtain ⟨q6, q7⟩ := FC.out.2.2.2.q1; obtain ⟨q10, q11⟩ := FC.out.2.2.2.2.2.q1; obtain ⟨q12, q13⟩ := FC.out.2.2.2.2.2.2.q1; obtain ⟨z4, z5⟩ := FC.out.2.2.i1; obtain ⟨z6, z7⟩ := FC.out.2.2.2.i1
    go_region
    all_goals
      go_wp2_with fail
      have K := put4 FC.out.2.2.1 FC.out.2.2.2.1 (by omega) (.int .u64 (a : Int)) (.int .u64 (a : Int)) (.int .u64 (c : Int)) (.int .u64 (d : Int))
      exact done4 (b := ⟨⟨a, a⟩, ⟨c, d⟩, true⟩) rfl rfl rfl rfl rfl rfl (drewB K.1) (drewB K.2) rfl rfl rfl rfl rfl rfl (below4 FC.out.below (by omega) (by omega) _ _ _ _).drew
theorem rr_yes1_6no (a c d : Nat) (M1 : Hid (∀ W, Ans 20 #[.agg #[.int .u64 (a : Int), .int .u64 (a : Int)]] (.bool true) W)) (M2 : Hid (∀ W, Ans 20 #[.agg #[.int .u64 (c : Int), .int .u64 (d : Int)]] (.bool true) W)) (s2 : ((c : Int) == d) = false) (h : a < c) : Ans 11 #[.int .i64 6, .agg #[.int .u64 (a : Int), .int .u64 (a : Int)], .agg #[.int .u64 (c : Int), .int .u64 (d : Int)], .bool true] (.tuple #[spv sp0, spv sp0, .bool false, .int .i64 0]) w := by
  go_enter Tryd.func11, Tryd.ntmps11
  go_wp2_with (first
    | (go_at_call 20; (with_reducible refine (M1.out _).mono ?_); rintro e wc ⟨rfl, hbc⟩; have FC := Lib.hid ((Fr.z5 w a a c d).step hbc); clear hbc; obtain ⟨q0, q1⟩ := FC.out.q1; obtain ⟨q2, q3⟩ := FC.out.2.q1; obtain ⟨q4, q5⟩ := FC.out.2.2.q1; obtain ⟨q6, q7⟩ := FC.out.2.2.2.q1; obtain ⟨q8, q9⟩ := FC.out.2.2.2.2.q1; obtain ⟨z4, z5⟩ := FC.out.2.2.i1; obtain ⟨z6, z7⟩ := FC.out.2.2.2.i1)
    | (go_at_call 20; (with_reducible refine (M2.out _).mono ?_); rintro e wc ⟨rfl, hbc⟩; have FC := Lib.hid (FC.out.step hbc); clear hbc; (try clear q0 q1); obtain ⟨q0, q1⟩ := FC.out.q1; (try clear q2 q3); obtain ⟨q2, q3⟩ := FC.out.2.q1; (try clear q4 q5); obtain ⟨q4, q5⟩ := FC.out.2.2.q1; (try clear q6 q7); obtain ⟨q6, q7⟩ := FC.out.2.2.2.q1; (try clear q8 q9); obtain ⟨q8, q9⟩ := FC.out.2.2.2.2.q1; (try clear z4 z5); obtain ⟨z4, z5⟩ := FC.out.2.2.i1; (try clear z6 z7); obtain ⟨z6, z7⟩ := FC.out.2.2.2.i1; have al00 := FC.out.1.al0; have al10 := FC.out.1.al1; have bl00 := FC.out.1.bl0; have bl10 := FC.out.1.bl1; have al01 := FC.out.2.1.al0; have al11 := FC.out.2.1.al1; have bl01 := FC.out.2.1.bl0; have bl11 := FC.out.2.1.bl1))
  have hl := FC.out.2.2.2.2.1.lt
  have e0 : ¬ w.heap.size = wc.heap.size := by omega
  have e1 : ¬ w.heap.size + 1 = wc.heap.size := by omega
  have e2 : ¬ w.heap.size + 1 + 1 = wc.heap.size := by omega
  have e3 : ¬ w.heap.size + 1 + 1 + 1 = wc.heap.size := by omega
  have e4 : ¬ w.heap.size + 1 + 1 + 1 + 1 = wc.heap.size := by omega
  clear hl
  have FC := Lib.hid (FC.out.put2 a a c d)
  generalize (wc.alloc (.cells #[.int .u64 (a : Int), .int .u64 (a : Int)] 24)).alloc (.cells #[.int .u64 (c : Int), .int .u64 (d : Int)] 24) = wz at FC ⊢
  obtain ⟨q4, q5⟩ := FC.out.2.2.q1; obtain ⟨q6, q7⟩ := FC.out.2.2.2.q1; obtain ⟨q8, q9⟩ := FC.out.2.2.2.2.q1; obtain ⟨z4, z5⟩ := FC.out.2.2.i1; obtain ⟨z6, z7⟩ := FC.out.2.2.2.i1
  go_region
  all_goals
    go_wp2_with fail
    have K := put4 FC.out.2.2.1 FC.out.2.2.2.1 (by omega) (.int .u64 (0 : Int)) (.int .u64 (0 : Int)) (.int .u64 (0 : Int)) (.int .u64 (0 : Int))
    exact done4 (b := no3) rfl rfl rfl rfl rfl rfl (drewB K.1) (drewB K.2) rfl rfl rfl rfl rfl rfl (below4 FC.out.below (by omega) (by omega) _ _ _ _).drew
theorem rr_yes1_6ok (a c d : Nat) (M1 : Hid (∀ W, Ans 20 #[.agg #[.int .u64 (a : Int), .int .u64 (a : Int)]] (.bool true) W)) (M2 : Hid (∀ W, Ans 20 #[.agg #[.int .u64 (c : Int), .int .u64 (d : Int)]] (.bool true) W)) (s2 : ((c : Int) == d) = false) (x y : Nat) (h : ¬ a < c) (hx : x = min d a) (hy : y = max a c) : Ans 11 #[.int .i64 6, .agg #[.int .u64 (a : Int), .int .u64 (a : Int)], .agg #[.int .u64 (c : Int), .int .u64 (d : Int)], .bool true] (.tuple #[spv ⟨y, a⟩, spv ⟨c, x⟩, .bool true, .int .i64 0]) w := by
  by_cases h1 : a < d <;> by_cases h2 : a < c
  · exact absurd h2 h
  · obtain rfl : a = x := by omega
    obtain rfl : a = y := by omega
    clear hx hy
    go_enter Tryd.func11, Tryd.ntmps11
    go_wp2_with (first
      | (go_at_call 20; (with_reducible refine (M1.out _).mono ?_); rintro e wc ⟨rfl, hbc⟩; have FC := Lib.hid ((Fr.z5 w a a c d).step hbc); clear hbc; obtain ⟨q0, q1⟩ := FC.out.q1; obtain ⟨q2, q3⟩ := FC.out.2.q1; obtain ⟨q4, q5⟩ := FC.out.2.2.q1; obtain ⟨q6, q7⟩ := FC.out.2.2.2.q1; obtain ⟨q8, q9⟩ := FC.out.2.2.2.2.q1; obtain ⟨z4, z5⟩ := FC.out.2.2.i1; obtain ⟨z6, z7⟩ := FC.out.2.2.2.i1)
      | (go_at_call 20; (with_reducible refine (M2.out _).mono ?_); rintro e wc ⟨rfl, hbc⟩; have FC := Lib.hid (FC.out.step hbc); clear hbc; (try clear q0 q1); obtain ⟨q0, q1⟩ := FC.out.q1; (try clear q2 q3); obtain ⟨q2, q3⟩ := FC.out.2.q1; (try clear q4 q5); obtain ⟨q4, q5⟩ := FC.out.2.2.q1; (try clear q6 q7); obtain ⟨q6, q7⟩ := FC.out.2.2.2.q1; (try clear q8 q9); obtain ⟨q8, q9⟩ := FC.out.2.2.2.2.q1; (try clear z4 z5); obtain ⟨z4, z5⟩ := FC.out.2.2.i1; (try clear z6 z7); obtain ⟨z6, z7⟩ := FC.out.2.2.2.i1; have al00 := FC.out.1.al0; have al10 := FC.out.1.al1; have bl00 := FC.out.1.bl0; have bl10 := FC.out.1.bl1; have al01 := FC.out.2.1.al0; have al11 := FC.out.2.1.al1; have bl01 := FC.out.2.1.bl0; have bl11 := FC.out.2.1.bl1))
    have hl := FC.out.2.2.2.2.1.lt
    have e0 : ¬ w.heap.size = wc.heap.size := by omega
    have e1 : ¬ w.heap.size + 1 = wc.heap.size := by omega
    have e2 : ¬ w.heap.size + 1 + 1 = wc.heap.size := by omega
    have e3 : ¬ w.heap.size + 1 + 1 + 1 = wc.heap.size := by omega
    have e4 : ¬ w.heap.size + 1 + 1 + 1 + 1 = wc.heap.size := by omega
    clear hl
    have FC := Lib.hid (FC.out.put2 a a c a)
    generalize (wc.alloc (.cells #[.int .u64 (a : Int), .int .u64 (a : Int)] 24)).alloc (.cells #[.int .u64 (c : Int), .int .u64 (a : Int)] 24) = wz at FC ⊢
    obtain ⟨q4, q5⟩ := FC.out.2.2.q1; obtain ⟨q6, q7⟩ := FC.out.2.2.2.q1; obtain ⟨q10, q11⟩ := FC.out.2.2.2.2.2.q1; obtain ⟨q12, q13⟩ := FC.out.2.2.2.2.2.2.q1; obtain ⟨z4, z5⟩ := FC.out.2.2.i1; obtain ⟨z6, z7⟩ := FC.out.2.2.2.i1
    go_region
    all_goals
      go_wp2_with fail
      have K := put4 FC.out.2.2.1 FC.out.2.2.2.1 (by omega) (.int .u64 (a : Int)) (.int .u64 (a : Int)) (.int .u64 (c : Int)) (.int .u64 (a : Int))
      exact done4 (b := ⟨⟨a, a⟩, ⟨c, a⟩, true⟩) rfl rfl rfl rfl rfl rfl (drewB K.1) (drewB K.2) rfl rfl rfl rfl rfl rfl (below4 FC.out.below (by omega) (by omega) _ _ _ _).drew
  · exact absurd h2 h
  · obtain rfl : d = x := by omega
    obtain rfl : a = y := by omega
    clear hx hy
    go_enter Tryd.func11, Tryd.ntmps11
    go_wp2_with (first
      | (go_at_call 20; (with_reducible refine (M1.out _).mono ?_); rintro e wc ⟨rfl, hbc⟩; have FC := Lib.hid ((Fr.z5 w a a c d).step hbc); clear hbc; obtain ⟨q0, q1⟩ := FC.out.q1; obtain ⟨q2, q3⟩ := FC.out.2.q1; obtain ⟨q4, q5⟩ := FC.out.2.2.q1; obtain ⟨q6, q7⟩ := FC.out.2.2.2.q1; obtain ⟨q8, q9⟩ := FC.out.2.2.2.2.q1; obtain ⟨z4, z5⟩ := FC.out.2.2.i1; obtain ⟨z6, z7⟩ := FC.out.2.2.2.i1)
      | (go_at_call 20; (with_reducible refine (M2.out _).mono ?_); rintro e wc ⟨rfl, hbc⟩; have FC := Lib.hid (FC.out.step hbc); clear hbc; (try clear q0 q1); obtain ⟨q0, q1⟩ := FC.out.q1; (try clear q2 q3); obtain ⟨q2, q3⟩ := FC.out.2.q1; (try clear q4 q5); obtain ⟨q4, q5⟩ := FC.out.2.2.q1; (try clear q6 q7); obtain ⟨q6, q7⟩ := FC.out.2.2.2.q1; (try clear q8 q9); obtain ⟨q8, q9⟩ := FC.out.2.2.2.2.q1; (try clear z4 z5); obtain ⟨z4, z5⟩ := FC.out.2.2.i1; (try clear z6 z7); obtain ⟨z6, z7⟩ := FC.out.2.2.2.i1; have al00 := FC.out.1.al0; have al10 := FC.out.1.al1; have bl00 := FC.out.1.bl0; have bl10 := FC.out.1.bl1; have al01 := FC.out.2.1.al0; have al11 := FC.out.2.1.al1; have bl01 := FC.out.2.1.bl0; have bl11 := FC.out.2.1.bl1))
    have hl := FC.out.2.2.2.2.1.lt
    have e0 : ¬ w.heap.size = wc.heap.size := by omega
    have e1 : ¬ w.heap.size + 1 = wc.heap.size := by omega
    have e2 : ¬ w.heap.size + 1 + 1 = wc.heap.size := by omega
    have e3 : ¬ w.heap.size + 1 + 1 + 1 = wc.heap.size := by omega
    have e4 : ¬ w.heap.size + 1 + 1 + 1 + 1 = wc.heap.size := by omega
    clear hl
    have FC := Lib.hid (FC.out.put2 a a c d)
    generalize (wc.alloc (.cells #[.int .u64 (a : Int), .int .u64 (a : Int)] 24)).alloc (.cells #[.int .u64 (c : Int), .int .u64 (d : Int)] 24) = wz at FC ⊢
    obtain ⟨q4, q5⟩ := FC.out.2.2.q1; obtain ⟨q6, q7⟩ := FC.out.2.2.2.q1; obtain ⟨q10, q11⟩ := FC.out.2.2.2.2.2.q1; obtain ⟨q12, q13⟩ := FC.out.2.2.2.2.2.2.q1; obtain ⟨z4, z5⟩ := FC.out.2.2.i1; obtain ⟨z6, z7⟩ := FC.out.2.2.2.i1
    go_region
    all_goals
      go_wp2_with fail
      have K := put4 FC.out.2.2.1 FC.out.2.2.2.1 (by omega) (.int .u64 (a : Int)) (.int .u64 (a : Int)) (.int .u64 (c : Int)) (.int .u64 (d : Int))
      exact done4 (b := ⟨⟨a, a⟩, ⟨c, d⟩, true⟩) rfl rfl rfl rfl rfl rfl (drewB K.1) (drewB K.2) rfl rfl rfl rfl rfl rfl (below4 FC.out.below (by omega) (by omega) _ _ _ _).drew
end
end Go.Proofs.YticgehmpfgdbhaaDoor
