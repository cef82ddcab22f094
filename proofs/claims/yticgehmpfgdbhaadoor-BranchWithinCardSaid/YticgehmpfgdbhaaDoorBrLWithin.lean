/- The walk of BranchWithin: it returns true, and nothing that was there has turned. Conditions: the numbers have at most 64 bits; Not's table lies in its block. -/
import Derived.Test.YticgehmpfgdbhaaDoorBrShown
import Derived.Test.YticgehmpfgdbhaaDoorSpOpen
namespace Go.Proofs.YticgehmpfgdbhaaDoor
open Go.RowKit
set_option maxRecDepth 100000
set_option maxHeartbeats 4000000
section
variable {w : World}
theorem Fr.put2z {W : World} {l : List (Nat × Nat × Nat)} (h : Fr w W l) : Fr w ((W.alloc (.cells #[.int .u64 0, .int .u64 0] 24)).alloc (.cells #[.int .u64 0, .int .u64 0] 24)) (l ++ [(W.heap.size, 0, 0), (W.heap.size + 1, 0, 0)]) := h.put2 0 0 0 0
theorem within9_bad0 (o : Int) (k a b c d : Nat) (kw : IntKind.i64.wrap ((k : Int) % 9) = (k : Int) % 9) (kc : 1 + (k : Int) % 9 = o) (T : Hid (Nots w)) (R1 : Hid (∀ W, Hid (Nots W) → Ans 10 #[.int .i64 o, .agg #[.int .u64 (a : Int), .int .u64 (b : Int)], .agg #[.int .u64 (c : Int), .int .u64 (d : Int)], .bool true] (.tuple #[.agg #[.int .u64 0, .int .u64 0], .agg #[.int .u64 0, .int .u64 0], .bool false, .int .i64 1]) W)) (R2 : Hid (∀ W, Hid (Nots W) → Ans 10 #[.int .i64 o, .agg #[.int .u64 (a : Int), .int .u64 (b : Int)], .agg #[.int .u64 (c : Int), .int .u64 (d : Int)], .bool false] (.tuple #[.agg #[.int .u64 0, .int .u64 0], .agg #[.int .u64 0, .int .u64 0], .bool false, .int .i64 1]) W)) (M1 : Hid (∀ W, Ans 14 #[.agg #[.int .u64 (a : Int), .int .u64 (b : Int)]] (.bool false) W)) : Ans 5 #[.int .u8 (k : Int), .agg #[.int .u64 (a : Int), .int .u64 (b : Int)], .agg #[.int .u64 (c : Int), .int .u64 (d : Int)]] (.bool true) w := by
  have SH := Lib.hid (fun W TW => shown_any (w := W) TW)
  have FC := Lib.hid (Fr.p2 w a b c d)
  go_enter Tryd.func5, Tryd.ntmps5
  go_wp2_with (first
    | (go_at_call 9; (with_reducible refine (SH.out _ (Lib.hid (T.out.below FC.out.below T.out.lt))).mono ?_); rintro e wc ⟨rfl, hbc⟩; have FC := Lib.hid (FC.out.step hbc); clear hbc; (try clear q0 q1); obtain ⟨q0, q1⟩ := FC.out.q1; (try clear q2 q3); obtain ⟨q2, q3⟩ := FC.out.2.q1)
    | (go_at_call 10; (with_reducible refine (R1.out _ (Lib.hid (T.out.below FC.out.below T.out.lt))).mono ?_); rintro e wc ⟨rfl, hbc⟩; have FC := Lib.hid ((FC.out.step hbc).put2z); clear hbc; (try clear q0 q1); obtain ⟨q0, q1⟩ := FC.out.q1; (try clear q2 q3); obtain ⟨q2, q3⟩ := FC.out.2.q1; (try clear q4 q5); obtain ⟨q4, q5⟩ := FC.out.2.2.q1; (try clear q6 q7); obtain ⟨q6, q7⟩ := FC.out.2.2.2.q1)
    | (go_at_call 10; (with_reducible refine (R2.out _ (Lib.hid (T.out.below FC.out.below T.out.lt))).mono ?_); rintro e wc ⟨rfl, hbc⟩; have FC := Lib.hid ((FC.out.step hbc).put2z); clear hbc; (try clear q0 q1); obtain ⟨q0, q1⟩ := FC.out.q1; (try clear q2 q3); obtain ⟨q2, q3⟩ := FC.out.2.q1; (try clear q4 q5); obtain ⟨q4, q5⟩ := FC.out.2.2.q1; (try clear q6 q7); obtain ⟨q6, q7⟩ := FC.out.2.2.2.q1)
    | (go_at_call 14; (with_reducible refine (M1.out _).mono ?_); rintro e wc ⟨rfl, hbc⟩; have FC := Lib.hid (FC.out.step hbc); clear hbc; (try clear q0 q1); obtain ⟨q0, q1⟩ := FC.out.q1; (try clear q2 q3); obtain ⟨q2, q3⟩ := FC.out.2.q1))
  go_ret
  exact ⟨rfl, FC.out.below⟩
theorem within9_bad1 (o : Int) (k a b c d : Nat) (kw : IntKind.i64.wrap ((k : Int) % 9) = (k : Int) % 9) (kc : 1 + (k : Int) % 9 = o) (T : Hid (Nots w)) (R1 : Hid (∀ W, Hid (Nots W) → Ans 10 #[.int .i64 o, .agg #[.int .u64 (a : Int), .int .u64 (b : Int)], .agg #[.int .u64 (c : Int), .int .u64 (d : Int)], .bool true] (.tuple #[.agg #[.int .u64 0, .int .u64 0], .agg #[.int .u64 0, .int .u64 0], .bool false, .int .i64 1]) W)) (R2 : Hid (∀ W, Hid (Nots W) → Ans 10 #[.int .i64 o, .agg #[.int .u64 (a : Int), .int .u64 (b : Int)], .agg #[.int .u64 (c : Int), .int .u64 (d : Int)], .bool false] (.tuple #[.agg #[.int .u64 0, .int .u64 0], .agg #[.int .u64 0, .int .u64 0], .bool false, .int .i64 1]) W)) (M1 : Hid (∀ W, Ans 14 #[.agg #[.int .u64 (a : Int), .int .u64 (b : Int)]] (.bool true) W)) (M2 : Hid (∀ W, Ans 14 #[.agg #[.int .u64 (c : Int), .int .u64 (d : Int)]] (.bool false) W)) : Ans 5 #[.int .u8 (k : Int), .agg #[.int .u64 (a : Int), .int .u64 (b : Int)], .agg #[.int .u64 (c : Int), .int .u64 (d : Int)]] (.bool true) w := by
  have SH := Lib.hid (fun W TW => shown_any (w := W) TW)
  have FC := Lib.hid (Fr.p2 w a b c d)
  go_enter Tryd.func5, Tryd.ntmps5
  go_wp2_with (first
    | (go_at_call 9; (with_reducible refine (SH.out _ (Lib.hid (T.out.below FC.out.below T.out.lt))).mono ?_); rintro e wc ⟨rfl, hbc⟩; have FC := Lib.hid (FC.out.step hbc); clear hbc; (try clear q0 q1); obtain ⟨q0, q1⟩ := FC.out.q1; (try clear q2 q3); obtain ⟨q2, q3⟩ := FC.out.2.q1)
    | (go_at_call 10; (with_reducible refine (R1.out _ (Lib.hid (T.out.below FC.out.below T.out.lt))).mono ?_); rintro e wc ⟨rfl, hbc⟩; have FC := Lib.hid ((FC.out.step hbc).put2z); clear hbc; (try clear q0 q1); obtain ⟨q0, q1⟩ := FC.out.q1; (try clear q2 q3); obtain ⟨q2, q3⟩ := FC.out.2.q1; (try clear q4 q5); obtain ⟨q4, q5⟩ := FC.out.2.2.q1; (try clear q6 q7); obtain ⟨q6, q7⟩ := FC.out.2.2.2.q1)
    | (go_at_call 10; (with_reducible refine (R2.out _ (Lib.hid (T.out.below FC.out.below T.out.lt))).mono ?_); rintro e wc ⟨rfl, hbc⟩; have FC := Lib.hid ((FC.out.step hbc).put2z); clear hbc; (try clear q0 q1); obtain ⟨q0, q1⟩ := FC.out.q1; (try clear q2 q3); obtain ⟨q2, q3⟩ := FC.out.2.q1; (try clear q4 q5); obtain ⟨q4, q5⟩ := FC.out.2.2.q1; (try clear q6 q7); obtain ⟨q6, q7⟩ := FC.out.2.2.2.q1)
    | (go_at_call 14; (with_reducible refine (M1.out _).mono ?_); rintro e wc ⟨rfl, hbc⟩; have FC := Lib.hid (FC.out.step hbc); clear hbc; (try clear q0 q1); obtain ⟨q0, q1⟩ := FC.out.q1; (try clear q2 q3); obtain ⟨q2, q3⟩ := FC.out.2.q1)
    | (go_at_call 14; (with_reducible refine (M2.out _).mono ?_); rintro e wc ⟨rfl, hbc⟩; have FC := Lib.hid (FC.out.step hbc); clear hbc; (try clear q0 q1); obtain ⟨q0, q1⟩ := FC.out.q1; (try clear q2 q3); obtain ⟨q2, q3⟩ := FC.out.2.q1))
  go_ret
  exact ⟨rfl, FC.out.below⟩
theorem within9_tt (o : Int) (k a b c d x1 y1 z1 v1 x2 y2 z2 v2 : Nat) (kw : IntKind.i64.wrap ((k : Int) % 9) = (k : Int) % 9) (kc : 1 + (k : Int) % 9 = o) (T : Hid (Nots w)) (R1 : Hid (∀ W, Hid (Nots W) → Ans 10 #[.int .i64 o, .agg #[.int .u64 (a : Int), .int .u64 (b : Int)], .agg #[.int .u64 (c : Int), .int .u64 (d : Int)], .bool true] (.tuple #[.agg #[.int .u64 (x1 : Int), .int .u64 (y1 : Int)], .agg #[.int .u64 (z1 : Int), .int .u64 (v1 : Int)], .bool true, .int .i64 0]) W)) (R2 : Hid (∀ W, Hid (Nots W) → Ans 10 #[.int .i64 o, .agg #[.int .u64 (a : Int), .int .u64 (b : Int)], .agg #[.int .u64 (c : Int), .int .u64 (d : Int)], .bool false] (.tuple #[.agg #[.int .u64 (x2 : Int), .int .u64 (y2 : Int)], .agg #[.int .u64 (z2 : Int), .int .u64 (v2 : Int)], .bool true, .int .i64 0]) W)) (W1a : Hid (∀ W, Ans 15 #[.agg #[.int .u64 (x1 : Int), .int .u64 (y1 : Int)], .agg #[.int .u64 (a : Int), .int .u64 (b : Int)]] (.bool true) W)) (W1b : Hid (∀ W, Ans 15 #[.agg #[.int .u64 (z1 : Int), .int .u64 (v1 : Int)], .agg #[.int .u64 (c : Int), .int .u64 (d : Int)]] (.bool true) W)) (W2a : Hid (∀ W, Ans 15 #[.agg #[.int .u64 (x2 : Int), .int .u64 (y2 : Int)], .agg #[.int .u64 (a : Int), .int .u64 (b : Int)]] (.bool true) W)) (W2b : Hid (∀ W, Ans 15 #[.agg #[.int .u64 (z2 : Int), .int .u64 (v2 : Int)], .agg #[.int .u64 (c : Int), .int .u64 (d : Int)]] (.bool true) W)) : Ans 5 #[.int .u8 (k : Int), .agg #[.int .u64 (a : Int), .int .u64 (b : Int)], .agg #[.int .u64 (c : Int), .int .u64 (d : Int)]] (.bool true) w := by
  have SH := Lib.hid (fun W TW => shown_any (w := W) TW)
  have FC := Lib.hid (Fr.p2 w a b c d)
  go_enter Tryd.func5, Tryd.ntmps5
  go_wp2_with (first
    | (go_at_call 9; (with_reducible refine (SH.out _ (Lib.hid (T.out.below FC.out.below T.out.lt))).mono ?_); rintro e wc ⟨rfl, hbc⟩; have FC := Lib.hid (FC.out.step hbc); clear hbc; (try clear q0 q1); obtain ⟨q0, q1⟩ := FC.out.q1; (try clear q2 q3); obtain ⟨q2, q3⟩ := FC.out.2.q1)
    | (go_at_call 10; (with_reducible refine (R1.out _ (Lib.hid (T.out.below FC.out.below T.out.lt))).mono ?_); rintro e wc ⟨rfl, hbc⟩; have FC := Lib.hid ((FC.out.step hbc).put2 x1 y1 z1 v1); clear hbc; (try clear q0 q1); obtain ⟨q0, q1⟩ := FC.out.q1; (try clear q2 q3); obtain ⟨q2, q3⟩ := FC.out.2.q1; (try clear q4 q5); obtain ⟨q4, q5⟩ := FC.out.2.2.q1; (try clear q6 q7); obtain ⟨q6, q7⟩ := FC.out.2.2.2.q1)
    | (go_at_call 10; (with_reducible refine (R2.out _ (Lib.hid (T.out.below FC.out.below T.out.lt))).mono ?_); rintro e wc ⟨rfl, hbc⟩; have FC := Lib.hid ((FC.out.step hbc).put2 x2 y2 z2 v2); clear hbc; (try clear q0 q1); obtain ⟨q0, q1⟩ := FC.out.q1; (try clear q2 q3); obtain ⟨q2, q3⟩ := FC.out.2.q1; (try clear q4 q5); obtain ⟨q4, q5⟩ := FC.out.2.2.q1; (try clear q6 q7); obtain ⟨q6, q7⟩ := FC.out.2.2.2.q1; (try clear q8 q9); obtain ⟨q8, q9⟩ := FC.out.2.2.2.2.q1; (try clear q10 q11); obtain ⟨q10, q11⟩ := FC.out.2.2.2.2.2.q1)
    | (go_at_call 15; (with_reducible refine (W1a.out _).mono ?_); rintro e wc ⟨rfl, hbc⟩; have FC := Lib.hid (FC.out.step hbc); clear hbc; (try clear q0 q1); obtain ⟨q0, q1⟩ := FC.out.q1; (try clear q2 q3); obtain ⟨q2, q3⟩ := FC.out.2.q1; (try clear q4 q5); obtain ⟨q4, q5⟩ := FC.out.2.2.q1; (try clear q6 q7); obtain ⟨q6, q7⟩ := FC.out.2.2.2.q1; (try clear q8 q9); obtain ⟨q8, q9⟩ := FC.out.2.2.2.2.q1; (try clear q10 q11); obtain ⟨q10, q11⟩ := FC.out.2.2.2.2.2.q1)
    | (go_at_call 15; (with_reducible refine (W1b.out _).mono ?_); rintro e wc ⟨rfl, hbc⟩; have FC := Lib.hid (FC.out.step hbc); clear hbc; (try clear q0 q1); obtain ⟨q0, q1⟩ := FC.out.q1; (try clear q2 q3); obtain ⟨q2, q3⟩ := FC.out.2.q1; (try clear q4 q5); obtain ⟨q4, q5⟩ := FC.out.2.2.q1; (try clear q6 q7); obtain ⟨q6, q7⟩ := FC.out.2.2.2.q1; (try clear q8 q9); obtain ⟨q8, q9⟩ := FC.out.2.2.2.2.q1; (try clear q10 q11); obtain ⟨q10, q11⟩ := FC.out.2.2.2.2.2.q1)
    | (go_at_call 15; (with_reducible refine (W2a.out _).mono ?_); rintro e wc ⟨rfl, hbc⟩; have FC := Lib.hid (FC.out.step hbc); clear hbc; (try clear q0 q1); obtain ⟨q0, q1⟩ := FC.out.q1; (try clear q2 q3); obtain ⟨q2, q3⟩ := FC.out.2.q1; (try clear q4 q5); obtain ⟨q4, q5⟩ := FC.out.2.2.q1; (try clear q6 q7); obtain ⟨q6, q7⟩ := FC.out.2.2.2.q1; (try clear q8 q9); obtain ⟨q8, q9⟩ := FC.out.2.2.2.2.q1; (try clear q10 q11); obtain ⟨q10, q11⟩ := FC.out.2.2.2.2.2.q1)
    | (go_at_call 15; (with_reducible refine (W2b.out _).mono ?_); rintro e wc ⟨rfl, hbc⟩; have FC := Lib.hid (FC.out.step hbc); clear hbc; (try clear q0 q1); obtain ⟨q0, q1⟩ := FC.out.q1; (try clear q2 q3); obtain ⟨q2, q3⟩ := FC.out.2.q1; (try clear q4 q5); obtain ⟨q4, q5⟩ := FC.out.2.2.q1; (try clear q6 q7); obtain ⟨q6, q7⟩ := FC.out.2.2.2.q1; (try clear q8 q9); obtain ⟨q8, q9⟩ := FC.out.2.2.2.2.q1; (try clear q10 q11); obtain ⟨q10, q11⟩ := FC.out.2.2.2.2.2.q1))
  go_ret
  exact ⟨rfl, FC.out.below⟩
theorem within9_tf (o : Int) (k a b c d x1 y1 z1 v1 : Nat) (kw : IntKind.i64.wrap ((k : Int) % 9) = (k : Int) % 9) (kc : 1 + (k : Int) % 9 = o) (T : Hid (Nots w)) (R1 : Hid (∀ W, Hid (Nots W) → Ans 10 #[.int .i64 o, .agg #[.int .u64 (a : Int), .int .u64 (b : Int)], .agg #[.int .u64 (c : Int), .int .u64 (d : Int)], .bool true] (.tuple #[.agg #[.int .u64 (x1 : Int), .int .u64 (y1 : Int)], .agg #[.int .u64 (z1 : Int), .int .u64 (v1 : Int)], .bool true, .int .i64 0]) W)) (R2 : Hid (∀ W, Hid (Nots W) → Ans 10 #[.int .i64 o, .agg #[.int .u64 (a : Int), .int .u64 (b : Int)], .agg #[.int .u64 (c : Int), .int .u64 (d : Int)], .bool false] (.tuple #[.agg #[.int .u64 0, .int .u64 0], .agg #[.int .u64 0, .int .u64 0], .bool false, .int .i64 0]) W)) (W1a : Hid (∀ W, Ans 15 #[.agg #[.int .u64 (x1 : Int), .int .u64 (y1 : Int)], .agg #[.int .u64 (a : Int), .int .u64 (b : Int)]] (.bool true) W)) (W1b : Hid (∀ W, Ans 15 #[.agg #[.int .u64 (z1 : Int), .int .u64 (v1 : Int)], .agg #[.int .u64 (c : Int), .int .u64 (d : Int)]] (.bool true) W)) : Ans 5 #[.int .u8 (k : Int), .agg #[.int .u64 (a : Int), .int .u64 (b : Int)], .agg #[.int .u64 (c : Int), .int .u64 (d : Int)]] (.bool true) w := by
  have SH := Lib.hid (fun W TW => shown_any (w := W) TW)
  have FC := Lib.hid (Fr.p2 w a b c d)
  go_enter Tryd.func5, Tryd.ntmps5
  go_wp2_with (first
    | (go_at_call 9; (with_reducible refine (SH.out _ (Lib.hid (T.out.below FC.out.below T.out.lt))).mono ?_); rintro e wc ⟨rfl, hbc⟩; have FC := Lib.hid (FC.out.step hbc); clear hbc; (try clear q0 q1); obtain ⟨q0, q1⟩ := FC.out.q1; (try clear q2 q3); obtain ⟨q2, q3⟩ := FC.out.2.q1)
    | (go_at_call 10; (with_reducible refine (R1.out _ (Lib.hid (T.out.below FC.out.below T.out.lt))).mono ?_); rintro e wc ⟨rfl, hbc⟩; have FC := Lib.hid ((FC.out.step hbc).put2 x1 y1 z1 v1); clear hbc; (try clear q0 q1); obtain ⟨q0, q1⟩ := FC.out.q1; (try clear q2 q3); obtain ⟨q2, q3⟩ := FC.out.2.q1; (try clear q4 q5); obtain ⟨q4, q5⟩ := FC.out.2.2.q1; (try clear q6 q7); obtain ⟨q6, q7⟩ := FC.out.2.2.2.q1)
    | (go_at_call 10; (with_reducible refine (R2.out _ (Lib.hid (T.out.below FC.out.below T.out.lt))).mono ?_); rintro e wc ⟨rfl, hbc⟩; have FC := Lib.hid ((FC.out.step hbc).put2z); clear hbc; (try clear q0 q1); obtain ⟨q0, q1⟩ := FC.out.q1; (try clear q2 q3); obtain ⟨q2, q3⟩ := FC.out.2.q1; (try clear q4 q5); obtain ⟨q4, q5⟩ := FC.out.2.2.q1; (try clear q6 q7); obtain ⟨q6, q7⟩ := FC.out.2.2.2.q1; (try clear q8 q9); obtain ⟨q8, q9⟩ := FC.out.2.2.2.2.q1; (try clear q10 q11); obtain ⟨q10, q11⟩ := FC.out.2.2.2.2.2.q1)
    | (go_at_call 15; (with_reducible refine (W1a.out _).mono ?_); rintro e wc ⟨rfl, hbc⟩; have FC := Lib.hid (FC.out.step hbc); clear hbc; (try clear q0 q1); obtain ⟨q0, q1⟩ := FC.out.q1; (try clear q2 q3); obtain ⟨q2, q3⟩ := FC.out.2.q1; (try clear q4 q5); obtain ⟨q4, q5⟩ := FC.out.2.2.q1; (try clear q6 q7); obtain ⟨q6, q7⟩ := FC.out.2.2.2.q1; (try clear q8 q9); obtain ⟨q8, q9⟩ := FC.out.2.2.2.2.q1; (try clear q10 q11); obtain ⟨q10, q11⟩ := FC.out.2.2.2.2.2.q1)
    | (go_at_call 15; (with_reducible refine (W1b.out _).mono ?_); rintro e wc ⟨rfl, hbc⟩; have FC := Lib.hid (FC.out.step hbc); clear hbc; (try clear q0 q1); obtain ⟨q0, q1⟩ := FC.out.q1; (try clear q2 q3); obtain ⟨q2, q3⟩ := FC.out.2.q1; (try clear q4 q5); obtain ⟨q4, q5⟩ := FC.out.2.2.q1; (try clear q6 q7); obtain ⟨q6, q7⟩ := FC.out.2.2.2.q1; (try clear q8 q9); obtain ⟨q8, q9⟩ := FC.out.2.2.2.2.q1; (try clear q10 q11); obtain ⟨q10, q11⟩ := FC.out.2.2.2.2.2.q1))
  go_ret
  exact ⟨rfl, FC.out.below⟩
theorem within9_ft (o : Int) (k a b c d x2 y2 z2 v2 : Nat) (kw : IntKind.i64.wrap ((k : Int) % 9) = (k : Int) % 9) (kc : 1 + (k : Int) % 9 = o) (T : Hid (Nots w)) (R1 : Hid (∀ W, Hid (Nots W) → Ans 10 #[.int .i64 o, .agg #[.int .u64 (a : Int), .int .u64 (b : Int)], .agg #[.int .u64 (c : Int), .int .u64 (d : Int)], .bool true] (.tuple #[.agg #[.int .u64 0, .int .u64 0], .agg #[.int .u64 0, .int .u64 0], .bool false, .int .i64 0]) W)) (R2 : Hid (∀ W, Hid (Nots W) → Ans 10 #[.int .i64 o, .agg #[.int .u64 (a : Int), .int .u64 (b : Int)], .agg #[.int .u64 (c : Int), .int .u64 (d : Int)], .bool false] (.tuple #[.agg #[.int .u64 (x2 : Int), .int .u64 (y2 : Int)], .agg #[.int .u64 (z2 : Int), .int .u64 (v2 : Int)], .bool true, .int .i64 0]) W)) (W2a : Hid (∀ W, Ans 15 #[.agg #[.int .u64 (x2 : Int), .int .u64 (y2 : Int)], .agg #[.int .u64 (a : Int), .int .u64 (b : Int)]] (.bool true) W)) (W2b : Hid (∀ W, Ans 15 #[.agg #[.int .u64 (z2 : Int), .int .u64 (v2 : Int)], .agg #[.int .u64 (c : Int), .int .u64 (d : Int)]] (.bool true) W)) : Ans 5 #[.int .u8 (k : Int), .agg #[.int .u64 (a : Int), .int .u64 (b : Int)], .agg #[.int .u64 (c : Int), .int .u64 (d : Int)]] (.bool true) w := by
  have SH := Lib.hid (fun W TW => shown_any (w := W) TW)
  have FC := Lib.hid (Fr.p2 w a b c d)
  go_enter Tryd.func5, Tryd.ntmps5
  go_wp2_with (first
    | (go_at_call 9; (with_reducible refine (SH.out _ (Lib.hid (T.out.below FC.out.below T.out.lt))).mono ?_); rintro e wc ⟨rfl, hbc⟩; have FC := Lib.hid (FC.out.step hbc); clear hbc; (try clear q0 q1); obtain ⟨q0, q1⟩ := FC.out.q1; (try clear q2 q3); obtain ⟨q2, q3⟩ := FC.out.2.q1)
    | (go_at_call 10; (with_reducible refine (R1.out _ (Lib.hid (T.out.below FC.out.below T.out.lt))).mono ?_); rintro e wc ⟨rfl, hbc⟩; have FC := Lib.hid ((FC.out.step hbc).put2z); clear hbc; (try clear q0 q1); obtain ⟨q0, q1⟩ := FC.out.q1; (try clear q2 q3); obtain ⟨q2, q3⟩ := FC.out.2.q1; (try clear q4 q5); obtain ⟨q4, q5⟩ := FC.out.2.2.q1; (try clear q6 q7); obtain ⟨q6, q7⟩ := FC.out.2.2.2.q1)
    | (go_at_call 10; (with_reducible refine (R2.out _ (Lib.hid (T.out.below FC.out.below T.out.lt))).mono ?_); rintro e wc ⟨rfl, hbc⟩; have FC := Lib.hid ((FC.out.step hbc).put2 x2 y2 z2 v2); clear hbc; (try clear q0 q1); obtain ⟨q0, q1⟩ := FC.out.q1; (try clear q2 q3); obtain ⟨q2, q3⟩ := FC.out.2.q1; (try clear q4 q5); obtain ⟨q4, q5⟩ := FC.out.2.2.q1; (try clear q6 q7); obtain ⟨q6, q7⟩ := FC.out.2.2.2.q1; (try clear q8 q9); obtain ⟨q8, q9⟩ := FC.out.2.2.2.2.q1; (try clear q10 q11); obtain ⟨q10, q11⟩ := FC.out.2.2.2.2.2.q1)
    | (go_at_call 15; (with_reducible refine (W2a.out _).mono ?_); rintro e wc ⟨rfl, hbc⟩; have FC := Lib.hid (FC.out.step hbc); clear hbc; (try clear q0 q1); obtain ⟨q0, q1⟩ := FC.out.q1; (try clear q2 q3); obtain ⟨q2, q3⟩ := FC.out.2.q1; (try clear q4 q5); obtain ⟨q4, q5⟩ := FC.out.2.2.q1; (try clear q6 q7); obtain ⟨q6, q7⟩ := FC.out.2.2.2.q1; (try clear q8 q9); obtain ⟨q8, q9⟩ := FC.out.2.2.2.2.q1; (try clear q10 q11); obtain ⟨q10, q11⟩ := FC.out.2.2.2.2.2.q1)
    | (go_at_call 15; (with_reducible refine (W2b.out _).mono ?_); rintro e wc ⟨rfl, hbc⟩; have FC := Lib.hid (FC.out.step hbc); clear hbc; (try clear q0 q1); obtain ⟨q0, q1⟩ := FC.out.q1; (try clear q2 q3); obtain ⟨q2, q3⟩ := FC.out.2.q1; (try clear q4 q5); obtain ⟨q4, q5⟩ := FC.out.2.2.q1; (try clear q6 q7); obtain ⟨q6, q7⟩ := FC.out.2.2.2.q1; (try clear q8 q9); obtain ⟨q8, q9⟩ := FC.out.2.2.2.2.q1; (try clear q10 q11); obtain ⟨q10, q11⟩ := FC.out.2.2.2.2.2.q1))
  go_ret
  exact ⟨rfl, FC.out.below⟩
theorem within9_nat (k : Nat) (s t : Sp) (hs : s.ok) (ht : t.ok) (T : Hid (Nots w)) : Ans 5 #[.int .u8 (k : Int), spv s, spv t] (.bool true) w := by
  obtain ⟨o, ho⟩ : ∃ o : Int, o = 1 + (k : Int) % 9 := ⟨_, rfl⟩
  have ho1 : 1 ≤ o ∧ o ≤ 9 := by omega
  have kw : IntKind.i64.wrap ((k : Int) % 9) = (k : Int) % 9 := IntWalk.i64_in _ (by omega)
  have kc : 1 + (k : Int) % 9 = o := ho.symm
  clear ho
  have R1 := fun W TW => refine_any (w := W) o s t true hs ht TW
  have R2 := fun W TW => refine_any (w := W) o s t false hs ht TW
  by_cases f : fits o s t
  · rw [show brE o s t = 0 from if_pos f] at R1 R2
    cases k1 : (br o s t true).can
    · cases k2 : (br o s t false).can
      · rcases l_can f with h | h
        · rw [k1] at h; cases h
        · rw [k2] at h; cases h
      · rw [k1, (l_none k1).1, (l_none k1).2] at R1
        have W := l_within k2
        have V1 := fun W' => within_any (w := W') (br o s t false).u s
        have V2 := fun W' => within_any (w := W') (br o s t false).v t
        rw [k2] at R2
        rw [W.1] at V1
        rw [W.2] at V2
        exact within9_ft o k s.lo s.hi t.lo t.hi _ _ _ _ kw kc T (Lib.hid R1) (Lib.hid R2) (Lib.hid V1) (Lib.hid V2)
    · have W := l_within k1
      have V1 := fun W' => within_any (w := W') (br o s t true).u s
      have V2 := fun W' => within_any (w := W') (br o s t true).v t
      rw [k1] at R1
      rw [W.1] at V1
      rw [W.2] at V2
      cases k2 : (br o s t false).can
      · rw [k2, (l_none k2).1, (l_none k2).2] at R2
        exact within9_tf o k s.lo s.hi t.lo t.hi _ _ _ _ kw kc T (Lib.hid R1) (Lib.hid R2) (Lib.hid V1) (Lib.hid V2)
      · have X := l_within k2
        have V3 := fun W' => within_any (w := W') (br o s t false).u s
        have V4 := fun W' => within_any (w := W') (br o s t false).v t
        rw [k2] at R2
        rw [X.1] at V3
        rw [X.2] at V4
        exact within9_tt o k s.lo s.hi t.lo t.hi _ _ _ _ _ _ _ _ kw kc T (Lib.hid R1) (Lib.hid R2) (Lib.hid V1) (Lib.hid V2) (Lib.hid V3) (Lib.hid V4)
  · rw [show brE o s t = 1 from if_neg f, show br o s t true = no3 from if_neg f] at R1
    rw [show brE o s t = 1 from if_neg f, show br o s t false = no3 from if_neg f] at R2
    have M1 := fun W => may_any (w := W) s
    have M2 := fun W => may_any (w := W) t
    cases m1 : mayV s
    · rw [m1] at M1
      exact within9_bad0 o k s.lo s.hi t.lo t.hi kw kc T (Lib.hid R1) (Lib.hid R2) (Lib.hid M1)
    · cases m2 : mayV t
      · rw [m1] at M1
        rw [m2] at M2
        exact within9_bad1 o k s.lo s.hi t.lo t.hi kw kc T (Lib.hid R1) (Lib.hid R2) (Lib.hid M1) (Lib.hid M2)
      · exact absurd ⟨ho1, m1, m2⟩ f
theorem within9_row (x0 : Int) (s t : Sp) (w : World) (h0 : (Lit.int .u8 x0).wf = true) (hs : s.ok) (ht : t.ok) (hT : Nots w) (_hB : True) :
    Calls Tryd.prog 5 #[.int .u8 x0, spv s, spv t] w fun e w' => e = .returned (.bool true) ∧ Below w.heap.size w w' := by
  obtain ⟨k, rfl, -⟩ := nat_u8 h0
  exact within9_nat k s t hs ht (Lib.hid hT)
end
end Go.Proofs.YticgehmpfgdbhaaDoor
