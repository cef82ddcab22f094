/- The contract of span.Do: refused, and single spans. Conditions: the numbers have at most 64 bits; spans that are valid where an operation reckons with them. -/
import Derived.Test.YtfeobcmkbkaphaaSpOps2
namespace Go.Proofs.Ytfeobcmkbkaphaa
open Go.RowKit
set_option maxRecDepth 100000
set_option maxHeartbeats 4000000
section
variable {w : World}
theorem sdo_bad1 (op : Int) (a b c d : Nat) (ms : ¬ a ≤ b) : Ans 23 #[.int .i64 op, .agg #[.int .u64 (a : Int), .int .u64 (b : Int)], .agg #[.int .u64 (c : Int), .int .u64 (d : Int)]] (.tuple #[spv sp0, .int .i64 1]) w := by
  have M1 := Lib.hid (fun W => may_any (w := W) ⟨a, b⟩)
  rw [show mayV ⟨a, b⟩ = false by simpa [mayV] using ms] at M1
  simp only [spv] at M1
  clear ms
  go_enter Try.func23, Try.ntmps23
  go_wp2_with (go_at_call 13; (with_reducible refine (M1.out _).mono ?_); rintro e w1 ⟨rfl, hb1⟩; have F1 := Lib.hid ((Fr.f3 w a b c d).step hb1); clear hb1; obtain ⟨q0, q1⟩ := F1.out.q1; obtain ⟨q2, q3⟩ := F1.out.2.q1; obtain ⟨q4, q5⟩ := F1.out.2.2.q1; obtain ⟨z0, z1⟩ := F1.out.i1)
  exact done2 rfl rfl rfl rfl (put2 F1.out.1 _ _) rfl rfl rfl (below2 F1.out.below (by omega) _ _)
theorem sdo_bad2 (op : Int) (a b c d : Nat) (ms : a ≤ b) (mt : ¬ c ≤ d) : Ans 23 #[.int .i64 op, .agg #[.int .u64 (a : Int), .int .u64 (b : Int)], .agg #[.int .u64 (c : Int), .int .u64 (d : Int)]] (.tuple #[spv sp0, .int .i64 1]) w := by
  have M1 := Lib.hid (fun W => may_any (w := W) ⟨a, b⟩)
  have M2 := Lib.hid (fun W => may_any (w := W) ⟨c, d⟩)
  rw [may_iff.2 (by exact ms)] at M1
  rw [show mayV ⟨c, d⟩ = false by simpa [mayV] using mt] at M2
  simp only [spv] at M1 M2
  clear ms mt
  go_enter Try.func23, Try.ntmps23
  go_wp2_with (first
    | (go_at_call 13; (with_reducible refine (M1.out _).mono ?_); rintro e w1 ⟨rfl, hb1⟩; have F1 := Lib.hid ((Fr.f3 w a b c d).step hb1); clear hb1; obtain ⟨q0, q1⟩ := F1.out.q1; obtain ⟨q2, q3⟩ := F1.out.2.q1; obtain ⟨q4, q5⟩ := F1.out.2.2.q1; obtain ⟨z0, z1⟩ := F1.out.i1)
    | (go_at_call 13; (with_reducible refine (M2.out _).mono ?_); rintro e w2 ⟨rfl, hb2⟩; have F2 := Lib.hid (F1.out.step hb2); clear hb2 q0 q1 q2 q3 q4 q5 z0 z1; obtain ⟨q0, q1⟩ := F2.out.q1; obtain ⟨q2, q3⟩ := F2.out.2.q1; obtain ⟨q4, q5⟩ := F2.out.2.2.q1; obtain ⟨z0, z1⟩ := F2.out.i1))
  exact done2 rfl rfl rfl rfl (put2 F2.out.1 _ _) rfl rfl rfl (below2 F2.out.below (by omega) _ _)
theorem sdo_one (op : Int) (a c : Nat) (hs : a < 18446744073709551616) (ht : c < 18446744073709551616) : Ans 23 #[.int .i64 op, .agg #[.int .u64 (a : Int), .int .u64 (a : Int)], .agg #[.int .u64 (c : Int), .int .u64 (c : Int)]] (.tuple #[spv (one (doV op a c)), .int .i64 (doE op)]) w := by
  have M1 := Lib.hid (fun W => may_any (w := W) ⟨a, a⟩)
  have M2 := Lib.hid (fun W => may_any (w := W) ⟨c, c⟩)
  have I1 := Lib.hid (fun W => isSingle_any (w := W) ⟨a, a⟩)
  have I2 := Lib.hid (fun W => isSingle_any (w := W) ⟨c, c⟩)
  rw [may_iff.2 (Nat.le_refl a)] at M1
  rw [may_iff.2 (Nat.le_refl c)] at M2
  rw [one_iff.2 rfl] at I1 I2
  have D1 := Lib.hid (fun W => do_any (w := W) op a c hs ht)
  have V1 := Lib.hid (fun W => of_any (w := W) (doV op a c))
  simp only [spv, one] at M1 M2 I1 I2 V1
  have HO := Lib.hid (show one (doV op a c) = ⟨doV op a c, doV op a c⟩ from rfl)
  generalize doV op a c = v at D1 V1 HO ⊢
  generalize doE op = E at D1 ⊢
  clear hs ht
  go_enter Try.func23, Try.ntmps23
  go_wp2_with (first
    | (go_at_call 13; (with_reducible refine (M1.out _).mono ?_); rintro e w1 ⟨rfl, hb1⟩; have F1 := Lib.hid ((Fr.f3 w a a c c).step hb1); clear hb1; obtain ⟨q0, q1⟩ := F1.out.q1; obtain ⟨q2, q3⟩ := F1.out.2.q1; obtain ⟨q4, q5⟩ := F1.out.2.2.q1; obtain ⟨z0, z1⟩ := F1.out.i1)
    | (go_at_call 13; (with_reducible refine (M2.out _).mono ?_); rintro e w2 ⟨rfl, hb2⟩; have F2 := Lib.hid (F1.out.step hb2); clear hb2 q0 q1 q2 q3 q4 q5 z0 z1; obtain ⟨q0, q1⟩ := F2.out.q1; obtain ⟨q2, q3⟩ := F2.out.2.q1; obtain ⟨q4, q5⟩ := F2.out.2.2.q1; obtain ⟨z0, z1⟩ := F2.out.i1)
    | (go_at_call 30; (with_reducible refine (I1.out _).mono ?_); rintro e w3 ⟨rfl, hb3⟩; have F3 := Lib.hid (F2.out.step hb3); clear hb3 q0 q1 q2 q3 q4 q5 z0 z1; obtain ⟨q0, q1⟩ := F3.out.q1; obtain ⟨q2, q3⟩ := F3.out.2.q1; obtain ⟨q4, q5⟩ := F3.out.2.2.q1; obtain ⟨z0, z1⟩ := F3.out.i1)
    | (go_at_call 30; (with_reducible refine (I2.out _).mono ?_); rintro e w4 ⟨rfl, hb4⟩; have F4 := Lib.hid (F3.out.step hb4); clear hb4 q0 q1 q2 q3 q4 q5 z0 z1; obtain ⟨q0, q1⟩ := F4.out.q1; obtain ⟨q2, q3⟩ := F4.out.2.q1; obtain ⟨q4, q5⟩ := F4.out.2.2.q1; obtain ⟨z0, z1⟩ := F4.out.i1)
    | (go_at_call 25; (with_reducible refine (D1.out _).mono ?_); rintro e wq ⟨rfl, rfl⟩)
    | (go_at_call 12; (with_reducible refine (V1.out _).mono ?_); rintro e w5 ⟨rfl, hb5⟩; have F5 := Lib.hid (F4.out.step hb5); clear hb5 q0 q1 q2 q3 q4 q5 z0 z1; obtain ⟨q0, q1⟩ := F5.out.q1; obtain ⟨z0, z1⟩ := F5.out.i1))
  exact done2 rfl rfl rfl rfl (put2 F5.out.1 _ _) rfl rfl rfl (below2 F5.out.below (by omega) _ _)
theorem sdo_no (op : Int) (a b c d : Nat) (h : op < 1 ∨ 11 < op) (ms : a ≤ b) (mt : c ≤ d) (ho : (isOne ⟨a, b⟩ && isOne ⟨c, d⟩) = false) :
    Ans 23 #[.int .i64 op, .agg #[.int .u64 (a : Int), .int .u64 (b : Int)], .agg #[.int .u64 (c : Int), .int .u64 (d : Int)]] (.tuple #[spv sp0, .int .i64 1]) w := by
  have n1 : (op == 1) = false := by simp; omega
  have n2 : (op == 2) = false := by simp; omega
  have n3 : (op == 3) = false := by simp; omega
  have n4 : (op == 4) = false := by simp; omega
  have n5 : (op == 5) = false := by simp; omega
  have n6 : (op == 6) = false := by simp; omega
  have n7 : (op == 7) = false := by simp; omega
  have n8 : (op == 8) = false := by simp; omega
  have n9 : (op == 9) = false := by simp; omega
  have n10 : (op == 10) = false := by simp; omega
  have n11 : (op == 11) = false := by simp; omega
  have M1 := Lib.hid (fun W => may_any (w := W) ⟨a, b⟩)
  have M2 := Lib.hid (fun W => may_any (w := W) ⟨c, d⟩)
  have I1 := Lib.hid (fun W => isSingle_any (w := W) ⟨a, b⟩)
  have I2 := Lib.hid (fun W => isSingle_any (w := W) ⟨c, d⟩)
  rw [may_iff.2 (by exact ms)] at M1
  rw [may_iff.2 (by exact mt)] at M2
  simp only [spv] at M1 M2 I1 I2
  clear ms mt h
  cases h1 : isOne ⟨a, b⟩ with
  | false =>
    rw [h1] at I1
    clear h1 ho I2
    go_enter Try.func23, Try.ntmps23
    go_wp2_with (first
      | (go_at_call 13; (with_reducible refine (M1.out _).mono ?_); rintro e w1 ⟨rfl, hb1⟩; have F1 := Lib.hid ((Fr.f3 w a b c d).step hb1); clear hb1; obtain ⟨q0, q1⟩ := F1.out.q1; obtain ⟨q2, q3⟩ := F1.out.2.q1; obtain ⟨q4, q5⟩ := F1.out.2.2.q1; obtain ⟨z0, z1⟩ := F1.out.i1)
      | (go_at_call 13; (with_reducible refine (M2.out _).mono ?_); rintro e w2 ⟨rfl, hb2⟩; have F2 := Lib.hid (F1.out.step hb2); clear hb2 q0 q1 q2 q3 q4 q5 z0 z1; obtain ⟨q0, q1⟩ := F2.out.q1; obtain ⟨q2, q3⟩ := F2.out.2.q1; obtain ⟨q4, q5⟩ := F2.out.2.2.q1; obtain ⟨z0, z1⟩ := F2.out.i1)
      | (go_at_call 30; (with_reducible refine (I1.out _).mono ?_); rintro e w3 ⟨rfl, hb3⟩; have F3 := Lib.hid (F2.out.step hb3); clear hb3 q0 q1 q2 q3 q4 q5 z0 z1; obtain ⟨q0, q1⟩ := F3.out.q1; obtain ⟨q2, q3⟩ := F3.out.2.q1; obtain ⟨q4, q5⟩ := F3.out.2.2.q1; obtain ⟨z0, z1⟩ := F3.out.i1))
    exact done2 rfl rfl rfl rfl (put2 F3.out.1 _ _) rfl rfl rfl (below2 F3.out.below (by omega) _ _)
  | true =>
    rw [h1] at I1
    rw [h1, Bool.true_and] at ho
    rw [ho] at I2
    clear h1 ho
    go_enter Try.func23, Try.ntmps23
    go_wp2_with (first
      | (go_at_call 13; (with_reducible refine (M1.out _).mono ?_); rintro e w1 ⟨rfl, hb1⟩; have F1 := Lib.hid ((Fr.f3 w a b c d).step hb1); clear hb1; obtain ⟨q0, q1⟩ := F1.out.q1; obtain ⟨q2, q3⟩ := F1.out.2.q1; obtain ⟨q4, q5⟩ := F1.out.2.2.q1; obtain ⟨z0, z1⟩ := F1.out.i1)
      | (go_at_call 13; (with_reducible refine (M2.out _).mono ?_); rintro e w2 ⟨rfl, hb2⟩; have F2 := Lib.hid (F1.out.step hb2); clear hb2 q0 q1 q2 q3 q4 q5 z0 z1; obtain ⟨q0, q1⟩ := F2.out.q1; obtain ⟨q2, q3⟩ := F2.out.2.q1; obtain ⟨q4, q5⟩ := F2.out.2.2.q1; obtain ⟨z0, z1⟩ := F2.out.i1)
      | (go_at_call 30; (with_reducible refine (I1.out _).mono ?_); rintro e w3 ⟨rfl, hb3⟩; have F3 := Lib.hid (F2.out.step hb3); clear hb3 q0 q1 q2 q3 q4 q5 z0 z1; obtain ⟨q0, q1⟩ := F3.out.q1; obtain ⟨q2, q3⟩ := F3.out.2.q1; obtain ⟨q4, q5⟩ := F3.out.2.2.q1; obtain ⟨z0, z1⟩ := F3.out.i1)
      | (go_at_call 30; (with_reducible refine (I2.out _).mono ?_); rintro e w4 ⟨rfl, hb4⟩; have F4 := Lib.hid (F3.out.step hb4); clear hb4 q0 q1 q2 q3 q4 q5 z0 z1; obtain ⟨q0, q1⟩ := F4.out.q1; obtain ⟨q2, q3⟩ := F4.out.2.q1; obtain ⟨q4, q5⟩ := F4.out.2.2.q1; obtain ⟨z0, z1⟩ := F4.out.i1))
    exact done2 rfl rfl rfl rfl (put2 F4.out.1 _ _) rfl rfl rfl (below2 F4.out.below (by omega) _ _)
end
end Go.Proofs.Ytfeobcmkbkaphaa
