/- The contract of the document's Do, a part of its table. Conditions: the numbers have at most 64 bits; spans that are valid. -/
import Derived.Test.YtfeobcmkbkaphaaSpRSmall
import Derived.Test.YtfeobcmkbkaphaaARDo
namespace Go.Proofs.Ytfeobcmkbkaphaa
open Go.RowKit
set_option maxRecDepth 100000
set_option maxHeartbeats 4000000
section
variable {w : World}
theorem rdo_mul0 (a b : Nat) (hs : (⟨a, b⟩ : Sp).ok) (ms : a ≤ b) (h1 : a ≠ b) :
    Ans 24 #[.int .i64 3, .agg #[.int .u64 (a : Int), .int .u64 (b : Int)], .agg #[.int .u64 0, .int .u64 0]] (.tuple #[spv ⟨0, 0⟩, .int .i64 0]) w := by
  have M1 := Lib.hid (fun W => rmay_any (w := W) ⟨a, b⟩)
  have M2 : Hid (∀ W, Ans 14 #[.agg #[.int .u64 0, .int .u64 0]] (.bool true) W) := Lib.hid (fun W => rmay_any (w := W) ⟨0, 0⟩)
  rw [may_iff.2 (by exact ms)] at M1
  simp only [spv] at M1
  have MS := Lib.hid (fun W => most_any (w := W))
  have T0 : Hid (∀ W, Ans 27 #[.int .u64 0, .int .u64 18446744073709551615] (.agg #[.int .u64 0, .int .u64 18446744073709551615]) W) := Lib.hid (fun W => to_any (w := W) 0 18446744073709551615)
  have T1 : Hid (∀ W, Ans 27 #[.int .u64 0, .int .u64 0] (.agg #[.int .u64 0, .int .u64 0]) W) := Lib.hid (fun W => to_any (w := W) 0 0)
  have PW : Hid (∀ W, Calls Try.prog 43 #[.int .i64 0] W fun e w' => e = .returned (.int .u64 1) ∧ W = w') := Lib.hid (fun w => pow_any (w := w) 0 (by decide))
  have OR : Hid (∀ W, Calls Try.prog 41 #[.int .i64 7, .int .u64 (b : Int), .int .u64 0] W fun e w' => e = .returned (.tuple #[.int .u64 ((doV 7 b 0 : Nat) : Int), .int .i64 0]) ∧ W = w') := Lib.hid (fun W => rdo_any (w := W) 7 b 0 hs.2 (by decide))
  generalize doV 7 b 0 = r at OR
  have n1 : ((a : Int) == b) = false := by simp; omega
  clear hs ms h1
  go_enter Try.func24, Try.ntmps24
  go_wp2_with (first
    | (go_at_call 14; (with_reducible refine (M1.out _).mono ?_); rintro e wc ⟨rfl, hbc⟩; have FC := Lib.hid ((Fr.p3 w _ _ 0 0 0 0).step hbc); clear hbc; obtain ⟨q0, q1⟩ := FC.out.q1; obtain ⟨q2, q3⟩ := FC.out.2.q1; obtain ⟨q4, q5⟩ := FC.out.2.2.q1; (try (obtain ⟨q6, q7⟩ := FC.out.2.2.2.q1)); obtain ⟨z0, z1⟩ := FC.out.2.2.i1)
    | (go_at_call 14; (with_reducible refine (M2.out _).mono ?_); rintro e wc ⟨rfl, hbc⟩; have FC := Lib.hid (FC.out.step hbc); clear hbc; (try clear q0 q1); obtain ⟨q0, q1⟩ := FC.out.q1; (try clear q2 q3); obtain ⟨q2, q3⟩ := FC.out.2.q1; (try clear q4 q5); obtain ⟨q4, q5⟩ := FC.out.2.2.q1; (try clear q6 q7); (try (obtain ⟨q6, q7⟩ := FC.out.2.2.2.q1)); (try clear z0 z1); obtain ⟨z0, z1⟩ := FC.out.2.2.i1)
    | (go_at_call 42; (with_reducible refine (MS.out _).mono ?_); rintro e wq ⟨rfl, rfl⟩)
    | (go_at_call 27; (with_reducible refine (T0.out _).mono ?_); rintro e wc ⟨rfl, hbc⟩; have FC : Hid (Fr w (wc.alloc (.cells #[.int .u64 0, .int .u64 18446744073709551615] 24)) _) := Lib.hid ((FC.out.step hbc).put 0 18446744073709551615); clear hbc; (try clear q0 q1); obtain ⟨q0, q1⟩ := FC.out.q1; (try clear q2 q3); obtain ⟨q2, q3⟩ := FC.out.2.q1; (try clear q4 q5); obtain ⟨q4, q5⟩ := FC.out.2.2.q1; (try clear q6 q7); (try (obtain ⟨q6, q7⟩ := FC.out.2.2.2.q1)); (try clear z0 z1); obtain ⟨z0, z1⟩ := FC.out.2.2.i1)
    | (go_at_call 43; (with_reducible refine (PW.out _).mono ?_); rintro e wq ⟨rfl, rfl⟩)
    | (go_at_call 41; (with_reducible refine (OR.out _).mono ?_); rintro e wq ⟨rfl, rfl⟩))
  go_quiet (fail)
  have FC := Lib.hid (FC.out.drewN nq)
  obtain ⟨q0, q1⟩ := FC.out.q1; obtain ⟨q2, q3⟩ := FC.out.2.q1; obtain ⟨q4, q5⟩ := FC.out.2.2.q1; obtain ⟨q6, q7⟩ := FC.out.2.2.2.q1; obtain ⟨z0, z1⟩ := FC.out.2.2.i1
  go_wp2_with (first
    | (go_at_call 27; (with_reducible refine (T1.out _).mono ?_); rintro e wc ⟨rfl, hbc⟩; have FC := Lib.hid (FC.out.step hbc); clear hbc; (try clear q0 q1); obtain ⟨q0, q1⟩ := FC.out.q1; (try clear q2 q3); obtain ⟨q2, q3⟩ := FC.out.2.q1; (try clear q4 q5); obtain ⟨q4, q5⟩ := FC.out.2.2.q1; (try clear q6 q7); (try (obtain ⟨q6, q7⟩ := FC.out.2.2.2.q1)); (try clear z0 z1); obtain ⟨z0, z1⟩ := FC.out.2.2.i1))
  exact done2 rfl rfl rfl rfl (put2 FC.out.2.2.1 _ _) rfl rfl rfl (below2 FC.out.below (by omega) _ _)
theorem rdo_mod0 (a b : Nat) (hs : (⟨a, b⟩ : Sp).ok) (ms : a ≤ b) (h1 : a ≠ b) :
    Ans 24 #[.int .i64 5, .agg #[.int .u64 (a : Int), .int .u64 (b : Int)], .agg #[.int .u64 0, .int .u64 0]] (.tuple #[spv ⟨a, b⟩, .int .i64 0]) w := by
  have M1 := Lib.hid (fun W => rmay_any (w := W) ⟨a, b⟩)
  have M2 : Hid (∀ W, Ans 14 #[.agg #[.int .u64 0, .int .u64 0]] (.bool true) W) := Lib.hid (fun W => rmay_any (w := W) ⟨0, 0⟩)
  rw [may_iff.2 (by exact ms)] at M1
  simp only [spv] at M1
  have MS := Lib.hid (fun W => most_any (w := W))
  have T0 : Hid (∀ W, Ans 27 #[.int .u64 0, .int .u64 18446744073709551615] (.agg #[.int .u64 0, .int .u64 18446744073709551615]) W) := Lib.hid (fun W => to_any (w := W) 0 18446744073709551615)
  have T1 : Hid (∀ W, Ans 27 #[.int .u64 0, .int .u64 0] (.agg #[.int .u64 0, .int .u64 0]) W) := Lib.hid (fun W => to_any (w := W) 0 0)
  have PW : Hid (∀ W, Calls Try.prog 43 #[.int .i64 0] W fun e w' => e = .returned (.int .u64 1) ∧ W = w') := Lib.hid (fun w => pow_any (w := w) 0 (by decide))
  have OR : Hid (∀ W, Calls Try.prog 41 #[.int .i64 7, .int .u64 (b : Int), .int .u64 0] W fun e w' => e = .returned (.tuple #[.int .u64 ((doV 7 b 0 : Nat) : Int), .int .i64 0]) ∧ W = w') := Lib.hid (fun W => rdo_any (w := W) 7 b 0 hs.2 (by decide))
  generalize doV 7 b 0 = r at OR
  have n1 : ((a : Int) == b) = false := by simp; omega
  clear hs ms h1
  clear T1
  go_enter Try.func24, Try.ntmps24
  go_wp2_with (first
    | (go_at_call 14; (with_reducible refine (M1.out _).mono ?_); rintro e wc ⟨rfl, hbc⟩; have FC := Lib.hid ((Fr.p3 w _ _ 0 0 0 0).step hbc); clear hbc; obtain ⟨q0, q1⟩ := FC.out.q1; obtain ⟨q2, q3⟩ := FC.out.2.q1; obtain ⟨q4, q5⟩ := FC.out.2.2.q1; (try (obtain ⟨q6, q7⟩ := FC.out.2.2.2.q1)); obtain ⟨z0, z1⟩ := FC.out.2.2.i1)
    | (go_at_call 14; (with_reducible refine (M2.out _).mono ?_); rintro e wc ⟨rfl, hbc⟩; have FC := Lib.hid (FC.out.step hbc); clear hbc; (try clear q0 q1); obtain ⟨q0, q1⟩ := FC.out.q1; (try clear q2 q3); obtain ⟨q2, q3⟩ := FC.out.2.q1; (try clear q4 q5); obtain ⟨q4, q5⟩ := FC.out.2.2.q1; (try clear q6 q7); (try (obtain ⟨q6, q7⟩ := FC.out.2.2.2.q1)); (try clear z0 z1); obtain ⟨z0, z1⟩ := FC.out.2.2.i1)
    | (go_at_call 42; (with_reducible refine (MS.out _).mono ?_); rintro e wq ⟨rfl, rfl⟩)
    | (go_at_call 27; (with_reducible refine (T0.out _).mono ?_); rintro e wc ⟨rfl, hbc⟩; have FC : Hid (Fr w (wc.alloc (.cells #[.int .u64 0, .int .u64 18446744073709551615] 24)) _) := Lib.hid ((FC.out.step hbc).put 0 18446744073709551615); clear hbc; (try clear q0 q1); obtain ⟨q0, q1⟩ := FC.out.q1; (try clear q2 q3); obtain ⟨q2, q3⟩ := FC.out.2.q1; (try clear q4 q5); obtain ⟨q4, q5⟩ := FC.out.2.2.q1; (try clear q6 q7); (try (obtain ⟨q6, q7⟩ := FC.out.2.2.2.q1)); (try clear z0 z1); obtain ⟨z0, z1⟩ := FC.out.2.2.i1)
    | (go_at_call 43; (with_reducible refine (PW.out _).mono ?_); rintro e wq ⟨rfl, rfl⟩)
    | (go_at_call 41; (with_reducible refine (OR.out _).mono ?_); rintro e wq ⟨rfl, rfl⟩))
  exact done2 rfl rfl rfl rfl (put2 FC.out.2.2.1 _ _) rfl rfl rfl (below2 FC.out.below (by omega) _ _)
theorem rdo_bad1 (op : Int) (a b c d : Nat) (h : op < 1) : Ans 24 #[.int .i64 op, .agg #[.int .u64 (a : Int), .int .u64 (b : Int)], .agg #[.int .u64 (c : Int), .int .u64 (d : Int)]] (.tuple #[spv sp0, .int .i64 1]) w := by
  go_enter Try.func24, Try.ntmps24
  go_wp2_with fail
  exact done2 rfl rfl rfl rfl third rfl rfl rfl (by go_grown)
theorem rdo_bad2 (op : Int) (a b c d : Nat) (h0 : ¬ op < 1) (h : 11 < op) : Ans 24 #[.int .i64 op, .agg #[.int .u64 (a : Int), .int .u64 (b : Int)], .agg #[.int .u64 (c : Int), .int .u64 (d : Int)]] (.tuple #[spv sp0, .int .i64 1]) w := by
  go_enter Try.func24, Try.ntmps24
  go_wp2_with fail
  exact done2 rfl rfl rfl rfl third rfl rfl rfl (by go_grown)
theorem rdo_bad3 (op : Int) (a b c d : Nat) (h0 : ¬ op < 1) (h : ¬ 11 < op) (ms : ¬ a ≤ b) : Ans 24 #[.int .i64 op, .agg #[.int .u64 (a : Int), .int .u64 (b : Int)], .agg #[.int .u64 (c : Int), .int .u64 (d : Int)]] (.tuple #[spv sp0, .int .i64 1]) w := by
  have M1 := Lib.hid (fun W => rmay_any (w := W) ⟨a, b⟩)
  rw [show mayV ⟨a, b⟩ = false by simpa [mayV] using ms] at M1
  simp only [spv] at M1
  clear ms
  go_enter Try.func24, Try.ntmps24
  go_wp2_with (first
    | (go_at_call 14; (with_reducible refine (M1.out _).mono ?_); rintro e wc ⟨rfl, hbc⟩; have FC := Lib.hid ((Fr.p3 w _ _ _ _ 0 0).step hbc); clear hbc; obtain ⟨q0, q1⟩ := FC.out.q1; obtain ⟨q2, q3⟩ := FC.out.2.q1; obtain ⟨q4, q5⟩ := FC.out.2.2.q1; (try (obtain ⟨q6, q7⟩ := FC.out.2.2.2.q1)); obtain ⟨z0, z1⟩ := FC.out.2.2.i1))
  exact done2 rfl rfl rfl rfl (put2 FC.out.2.2.1 _ _) rfl rfl rfl (below2 FC.out.below (by omega) _ _)
theorem rdo_bad4 (op : Int) (a b c d : Nat) (h0 : ¬ op < 1) (h : ¬ 11 < op) (ms : a ≤ b) (mt : ¬ c ≤ d) : Ans 24 #[.int .i64 op, .agg #[.int .u64 (a : Int), .int .u64 (b : Int)], .agg #[.int .u64 (c : Int), .int .u64 (d : Int)]] (.tuple #[spv sp0, .int .i64 1]) w := by
  have M1 := Lib.hid (fun W => rmay_any (w := W) ⟨a, b⟩)
  have M2 := Lib.hid (fun W => rmay_any (w := W) ⟨c, d⟩)
  rw [may_iff.2 (by exact ms)] at M1
  rw [show mayV ⟨c, d⟩ = false by simpa [mayV] using mt] at M2
  simp only [spv] at M1 M2
  clear ms mt
  go_enter Try.func24, Try.ntmps24
  go_wp2_with (first
    | (go_at_call 14; (with_reducible refine (M1.out _).mono ?_); rintro e wc ⟨rfl, hbc⟩; have FC := Lib.hid ((Fr.p3 w _ _ _ _ 0 0).step hbc); clear hbc; obtain ⟨q0, q1⟩ := FC.out.q1; obtain ⟨q2, q3⟩ := FC.out.2.q1; obtain ⟨q4, q5⟩ := FC.out.2.2.q1; (try (obtain ⟨q6, q7⟩ := FC.out.2.2.2.q1)); obtain ⟨z0, z1⟩ := FC.out.2.2.i1)
    | (go_at_call 14; (with_reducible refine (M2.out _).mono ?_); rintro e wc ⟨rfl, hbc⟩; have FC := Lib.hid (FC.out.step hbc); clear hbc; (try clear q0 q1); obtain ⟨q0, q1⟩ := FC.out.q1; (try clear q2 q3); obtain ⟨q2, q3⟩ := FC.out.2.q1; (try clear q4 q5); obtain ⟨q4, q5⟩ := FC.out.2.2.q1; (try clear q6 q7); (try (obtain ⟨q6, q7⟩ := FC.out.2.2.2.q1)); (try clear z0 z1); obtain ⟨z0, z1⟩ := FC.out.2.2.i1))
  exact done2 rfl rfl rfl rfl (put2 FC.out.2.2.1 _ _) rfl rfl rfl (below2 FC.out.below (by omega) _ _)
theorem rdo_one (op : Int) (a c : Nat) (h0 : ¬ op < 1) (h : ¬ 11 < op) (hs : a < 18446744073709551616) (ht : c < 18446744073709551616) : Ans 24 #[.int .i64 op, .agg #[.int .u64 (a : Int), .int .u64 (a : Int)], .agg #[.int .u64 (c : Int), .int .u64 (c : Int)]] (.tuple #[spv (one (doV op a c)), .int .i64 0]) w := by
  have M1 := Lib.hid (fun W => rmay_any (w := W) ⟨a, a⟩)
  have M2 := Lib.hid (fun W => rmay_any (w := W) ⟨c, c⟩)
  rw [may_iff.2 (Nat.le_refl a)] at M1
  rw [may_iff.2 (Nat.le_refl c)] at M2
  have D1 := Lib.hid (fun W => rdo_any (w := W) op a c hs ht)
  have T1 := Lib.hid (fun W => to_any (w := W) (doV op a c) (doV op a c))
  simp only [spv] at M1 M2 T1
  have HO := Lib.hid (show one (doV op a c) = ⟨doV op a c, doV op a c⟩ from rfl)
  rw [HO.out]
  clear HO
  generalize doV op a c = v at D1 T1 ⊢
  generalize doE op = E at D1
  clear hs ht
  go_enter Try.func24, Try.ntmps24
  go_wp2_with (first
    | (go_at_call 14; (with_reducible refine (M1.out _).mono ?_); rintro e wc ⟨rfl, hbc⟩; have FC := Lib.hid ((Fr.p3 w _ _ _ _ 0 0).step hbc); clear hbc; obtain ⟨q0, q1⟩ := FC.out.q1; obtain ⟨q2, q3⟩ := FC.out.2.q1; obtain ⟨q4, q5⟩ := FC.out.2.2.q1; (try (obtain ⟨q6, q7⟩ := FC.out.2.2.2.q1)); obtain ⟨z0, z1⟩ := FC.out.2.2.i1)
    | (go_at_call 14; (with_reducible refine (M2.out _).mono ?_); rintro e wc ⟨rfl, hbc⟩; have FC := Lib.hid (FC.out.step hbc); clear hbc; (try clear q0 q1); obtain ⟨q0, q1⟩ := FC.out.q1; (try clear q2 q3); obtain ⟨q2, q3⟩ := FC.out.2.q1; (try clear q4 q5); obtain ⟨q4, q5⟩ := FC.out.2.2.q1; (try clear q6 q7); (try (obtain ⟨q6, q7⟩ := FC.out.2.2.2.q1)); (try clear z0 z1); obtain ⟨z0, z1⟩ := FC.out.2.2.i1)
    | (go_at_call 41; (with_reducible refine (D1.out _).mono ?_); rintro e wq ⟨rfl, rfl⟩)
    | (go_at_call 27; (with_reducible refine (T1.out _).mono ?_); rintro e wc ⟨rfl, hbc⟩; have FC := Lib.hid (FC.out.step hbc); clear hbc; (try clear q0 q1); obtain ⟨q0, q1⟩ := FC.out.q1; (try clear q2 q3); obtain ⟨q2, q3⟩ := FC.out.2.q1; (try clear q4 q5); obtain ⟨q4, q5⟩ := FC.out.2.2.q1; (try clear q6 q7); (try (obtain ⟨q6, q7⟩ := FC.out.2.2.2.q1)); (try clear z0 z1); obtain ⟨z0, z1⟩ := FC.out.2.2.i1))
  exact done2 rfl rfl rfl rfl (put2 FC.out.2.2.1 _ _) rfl rfl rfl (below2 FC.out.below (by omega) _ _)
end
end Go.Proofs.Ytfeobcmkbkaphaa
