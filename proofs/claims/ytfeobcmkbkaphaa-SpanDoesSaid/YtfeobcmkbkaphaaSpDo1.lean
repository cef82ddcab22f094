/- The contract of span.Do: sums, differences, products, quotients. Conditions: the numbers have at most 64 bits; spans that are valid where an operation reckons with them. -/
import Derived.Test.YtfeobcmkbkaphaaSpOps2
namespace Go.Proofs.Ytfeobcmkbkaphaa
open Go.RowKit
set_option maxRecDepth 100000
set_option maxHeartbeats 4000000
section
variable {w : World}
theorem sdo_add (a b c d : Nat) (hs : (⟨a, b⟩ : Sp).ok) (ht : (⟨c, d⟩ : Sp).ok) (ms : a ≤ b) (mt : c ≤ d) (ho : (isOne ⟨a, b⟩ && isOne ⟨c, d⟩) = false) :
    Ans 23 #[.int .i64 1, .agg #[.int .u64 (a : Int), .int .u64 (b : Int)], .agg #[.int .u64 (c : Int), .int .u64 (d : Int)]] (.tuple #[spv (addV ⟨a, b⟩ ⟨c, d⟩), .int .i64 0]) w := by
  have V1 := Lib.hid (fun W => sum_any (w := W) ⟨a, b⟩ ⟨c, d⟩ hs ht ms mt)
  obtain ⟨v, hv⟩ : ∃ v, addV ⟨a, b⟩ ⟨c, d⟩ = v := ⟨_, rfl⟩
  rw [hv] at V1 ⊢
  clear hv
  obtain ⟨x, y⟩ := v
  simp only [spv] at V1
  have M1 := Lib.hid (fun W => may_any (w := W) ⟨a, b⟩)
  have M2 := Lib.hid (fun W => may_any (w := W) ⟨c, d⟩)
  have I1 := Lib.hid (fun W => isSingle_any (w := W) ⟨a, b⟩)
  have I2 := Lib.hid (fun W => isSingle_any (w := W) ⟨c, d⟩)
  rw [may_iff.2 (by exact ms)] at M1
  rw [may_iff.2 (by exact mt)] at M2
  simp only [spv] at M1 M2 I1 I2
  clear ms mt hs ht
  cases h1 : isOne ⟨a, b⟩ with
  | false =>
    rw [h1] at I1
    clear h1 ho I2
    go_enter Try.func23, Try.ntmps23
    go_wp2_with (first
      | (go_at_call 13; (with_reducible refine (M1.out _).mono ?_); rintro e w1 ⟨rfl, hb1⟩; have F1 := Lib.hid ((Fr.f3 w a b c d).step hb1); clear hb1; obtain ⟨q0, q1⟩ := F1.out.q1; obtain ⟨q2, q3⟩ := F1.out.2.q1; obtain ⟨q4, q5⟩ := F1.out.2.2.q1; obtain ⟨z0, z1⟩ := F1.out.i1)
      | (go_at_call 13; (with_reducible refine (M2.out _).mono ?_); rintro e w2 ⟨rfl, hb2⟩; have F2 := Lib.hid (F1.out.step hb2); clear hb2 q0 q1 q2 q3 q4 q5 z0 z1; obtain ⟨q0, q1⟩ := F2.out.q1; obtain ⟨q2, q3⟩ := F2.out.2.q1; obtain ⟨q4, q5⟩ := F2.out.2.2.q1; obtain ⟨z0, z1⟩ := F2.out.i1)
      | (go_at_call 30; (with_reducible refine (I1.out _).mono ?_); rintro e w3 ⟨rfl, hb3⟩; have F3 := Lib.hid (F2.out.step hb3); clear hb3 q0 q1 q2 q3 q4 q5 z0 z1; obtain ⟨q0, q1⟩ := F3.out.q1; obtain ⟨q2, q3⟩ := F3.out.2.q1; obtain ⟨q4, q5⟩ := F3.out.2.2.q1; obtain ⟨z0, z1⟩ := F3.out.i1)
      | (go_at_call 31; (with_reducible refine (V1.out _).mono ?_); rintro e w5 ⟨rfl, hb5⟩; have F5 := Lib.hid (F3.out.step hb5); clear hb5 q0 q1 q2 q3 q4 q5 z0 z1; obtain ⟨q0, q1⟩ := F5.out.q1; obtain ⟨z0, z1⟩ := F5.out.i1))
    exact done2 rfl rfl rfl rfl (put2 F5.out.1 _ _) rfl rfl rfl (below2 F5.out.below (by omega) _ _)
  | true =>
    rw [h1] at I1
    rw [h1, Bool.true_and] at ho
    rw [ho] at I2
    clear h1 ho
    go_enter Try.func23, Try.ntmps23
    go_wp2_with (first
      | (go_at_call 13; (with_reducible refine (M1.out _).mono ?_); rintro e w1 ⟨rfl, hb1⟩; have F1 := Lib.hid ((Fr.f3 w a b c d).step hb1); clear hb1; obtain ⟨q0, q1⟩ := F1.out.q1; obtain ⟨q2, q3⟩ := F1.out.2.q1; obtain ⟨q4, q5⟩ := F1.out.2.2.q1; obtain ⟨z0, z1⟩ := F1.out.i1)
      | (go_at_call 13; (with_reducible refine (M2.out _).mono ?_); rintro e w2 ⟨rfl, hb2⟩; have F2 := Lib.hid (F1.out.step hb2); clear hb2 q0 q1 q2 q3 q4 q5 z0 z1; obtain ⟨q0, q1⟩ := F2.out.q1; obtain ⟨q2, q3⟩ := F2.out.2.q1; obtain ⟨q4, q5⟩ := F2.out.2.2.q1; obtain ⟨z0, z1⟩ := F2.out.i1)
      | (go_at_call 30; (with_reducible refine (I1.out _).mono ?_); rintro e w3 ⟨rfl, hb3⟩; have F3 := Lib.hid (F2.out.step hb3); clear hb3 q0 q1 q2 q3 q4 q5 z0 z1; obtain ⟨q0, q1⟩ := F3.out.q1; obtain ⟨q2, q3⟩ := F3.out.2.q1; obtain ⟨q4, q5⟩ := F3.out.2.2.q1; obtain ⟨z0, z1⟩ := F3.out.i1)
      | (go_at_call 30; (with_reducible refine (I2.out _).mono ?_); rintro e w4 ⟨rfl, hb4⟩; have F4 := Lib.hid (F3.out.step hb4); clear hb4 q0 q1 q2 q3 q4 q5 z0 z1; obtain ⟨q0, q1⟩ := F4.out.q1; obtain ⟨q2, q3⟩ := F4.out.2.q1; obtain ⟨q4, q5⟩ := F4.out.2.2.q1; obtain ⟨z0, z1⟩ := F4.out.i1)
      | (go_at_call 31; (with_reducible refine (V1.out _).mono ?_); rintro e w5 ⟨rfl, hb5⟩; have F5 := Lib.hid (F4.out.step hb5); clear hb5 q0 q1 q2 q3 q4 q5 z0 z1; obtain ⟨q0, q1⟩ := F5.out.q1; obtain ⟨z0, z1⟩ := F5.out.i1))
    exact done2 rfl rfl rfl rfl (put2 F5.out.1 _ _) rfl rfl rfl (below2 F5.out.below (by omega) _ _)
theorem sdo_sub (a b c d : Nat) (hs : (⟨a, b⟩ : Sp).ok) (_ht : (⟨c, d⟩ : Sp).ok) (ms : a ≤ b) (mt : c ≤ d) (ho : (isOne ⟨a, b⟩ && isOne ⟨c, d⟩) = false) :
    Ans 23 #[.int .i64 2, .agg #[.int .u64 (a : Int), .int .u64 (b : Int)], .agg #[.int .u64 (c : Int), .int .u64 (d : Int)]] (.tuple #[spv (subV ⟨a, b⟩ ⟨c, d⟩), .int .i64 0]) w := by
  have V1 := Lib.hid (fun W => difference_any (w := W) ⟨a, b⟩ ⟨c, d⟩ hs ms mt)
  obtain ⟨v, hv⟩ : ∃ v, subV ⟨a, b⟩ ⟨c, d⟩ = v := ⟨_, rfl⟩
  rw [hv] at V1 ⊢
  clear hv
  obtain ⟨x, y⟩ := v
  simp only [spv] at V1
  have M1 := Lib.hid (fun W => may_any (w := W) ⟨a, b⟩)
  have M2 := Lib.hid (fun W => may_any (w := W) ⟨c, d⟩)
  have I1 := Lib.hid (fun W => isSingle_any (w := W) ⟨a, b⟩)
  have I2 := Lib.hid (fun W => isSingle_any (w := W) ⟨c, d⟩)
  rw [may_iff.2 (by exact ms)] at M1
  rw [may_iff.2 (by exact mt)] at M2
  simp only [spv] at M1 M2 I1 I2
  clear ms mt hs _ht
  cases h1 : isOne ⟨a, b⟩ with
  | false =>
    rw [h1] at I1
    clear h1 ho I2
    go_enter Try.func23, Try.ntmps23
    go_wp2_with (first
      | (go_at_call 13; (with_reducible refine (M1.out _).mono ?_); rintro e w1 ⟨rfl, hb1⟩; have F1 := Lib.hid ((Fr.f3 w a b c d).step hb1); clear hb1; obtain ⟨q0, q1⟩ := F1.out.q1; obtain ⟨q2, q3⟩ := F1.out.2.q1; obtain ⟨q4, q5⟩ := F1.out.2.2.q1; obtain ⟨z0, z1⟩ := F1.out.i1)
      | (go_at_call 13; (with_reducible refine (M2.out _).mono ?_); rintro e w2 ⟨rfl, hb2⟩; have F2 := Lib.hid (F1.out.step hb2); clear hb2 q0 q1 q2 q3 q4 q5 z0 z1; obtain ⟨q0, q1⟩ := F2.out.q1; obtain ⟨q2, q3⟩ := F2.out.2.q1; obtain ⟨q4, q5⟩ := F2.out.2.2.q1; obtain ⟨z0, z1⟩ := F2.out.i1)
      | (go_at_call 30; (with_reducible refine (I1.out _).mono ?_); rintro e w3 ⟨rfl, hb3⟩; have F3 := Lib.hid (F2.out.step hb3); clear hb3 q0 q1 q2 q3 q4 q5 z0 z1; obtain ⟨q0, q1⟩ := F3.out.q1; obtain ⟨q2, q3⟩ := F3.out.2.q1; obtain ⟨q4, q5⟩ := F3.out.2.2.q1; obtain ⟨z0, z1⟩ := F3.out.i1)
      | (go_at_call 32; (with_reducible refine (V1.out _).mono ?_); rintro e w5 ⟨rfl, hb5⟩; have F5 := Lib.hid (F3.out.step hb5); clear hb5 q0 q1 q2 q3 q4 q5 z0 z1; obtain ⟨q0, q1⟩ := F5.out.q1; obtain ⟨z0, z1⟩ := F5.out.i1))
    exact done2 rfl rfl rfl rfl (put2 F5.out.1 _ _) rfl rfl rfl (below2 F5.out.below (by omega) _ _)
  | true =>
    rw [h1] at I1
    rw [h1, Bool.true_and] at ho
    rw [ho] at I2
    clear h1 ho
    go_enter Try.func23, Try.ntmps23
    go_wp2_with (first
      | (go_at_call 13; (with_reducible refine (M1.out _).mono ?_); rintro e w1 ⟨rfl, hb1⟩; have F1 := Lib.hid ((Fr.f3 w a b c d).step hb1); clear hb1; obtain ⟨q0, q1⟩ := F1.out.q1; obtain ⟨q2, q3⟩ := F1.out.2.q1; obtain ⟨q4, q5⟩ := F1.out.2.2.q1; obtain ⟨z0, z1⟩ := F1.out.i1)
      | (go_at_call 13; (with_reducible refine (M2.out _).mono ?_); rintro e w2 ⟨rfl, hb2⟩; have F2 := Lib.hid (F1.out.step hb2); clear hb2 q0 q1 q2 q3 q4 q5 z0 z1; obtain ⟨q0, q1⟩ := F2.out.q1; obtain ⟨q2, q3⟩ := F2.out.2.q1; obtain ⟨q4, q5⟩ := F2.out.2.2.q1; obtain ⟨z0, z1⟩ := F2.out.i1)
      | (go_at_call 30; (with_reducible refine (I1.out _).mono ?_); rintro e w3 ⟨rfl, hb3⟩; have F3 := Lib.hid (F2.out.step hb3); clear hb3 q0 q1 q2 q3 q4 q5 z0 z1; obtain ⟨q0, q1⟩ := F3.out.q1; obtain ⟨q2, q3⟩ := F3.out.2.q1; obtain ⟨q4, q5⟩ := F3.out.2.2.q1; obtain ⟨z0, z1⟩ := F3.out.i1)
      | (go_at_call 30; (with_reducible refine (I2.out _).mono ?_); rintro e w4 ⟨rfl, hb4⟩; have F4 := Lib.hid (F3.out.step hb4); clear hb4 q0 q1 q2 q3 q4 q5 z0 z1; obtain ⟨q0, q1⟩ := F4.out.q1; obtain ⟨q2, q3⟩ := F4.out.2.q1; obtain ⟨q4, q5⟩ := F4.out.2.2.q1; obtain ⟨z0, z1⟩ := F4.out.i1)
      | (go_at_call 32; (with_reducible refine (V1.out _).mono ?_); rintro e w5 ⟨rfl, hb5⟩; have F5 := Lib.hid (F4.out.step hb5); clear hb5 q0 q1 q2 q3 q4 q5 z0 z1; obtain ⟨q0, q1⟩ := F5.out.q1; obtain ⟨z0, z1⟩ := F5.out.i1))
    exact done2 rfl rfl rfl rfl (put2 F5.out.1 _ _) rfl rfl rfl (below2 F5.out.below (by omega) _ _)
theorem sdo_mul (a b c d : Nat) (hs : (⟨a, b⟩ : Sp).ok) (ht : (⟨c, d⟩ : Sp).ok) (ms : a ≤ b) (mt : c ≤ d) (ho : (isOne ⟨a, b⟩ && isOne ⟨c, d⟩) = false) :
    Ans 23 #[.int .i64 3, .agg #[.int .u64 (a : Int), .int .u64 (b : Int)], .agg #[.int .u64 (c : Int), .int .u64 (d : Int)]] (.tuple #[spv (mulV ⟨a, b⟩ ⟨c, d⟩), .int .i64 0]) w := by
  have V1 := Lib.hid (fun W => product_any (w := W) ⟨a, b⟩ ⟨c, d⟩ hs ht ms mt)
  obtain ⟨v, hv⟩ : ∃ v, mulV ⟨a, b⟩ ⟨c, d⟩ = v := ⟨_, rfl⟩
  rw [hv] at V1 ⊢
  clear hv
  obtain ⟨x, y⟩ := v
  simp only [spv] at V1
  have M1 := Lib.hid (fun W => may_any (w := W) ⟨a, b⟩)
  have M2 := Lib.hid (fun W => may_any (w := W) ⟨c, d⟩)
  have I1 := Lib.hid (fun W => isSingle_any (w := W) ⟨a, b⟩)
  have I2 := Lib.hid (fun W => isSingle_any (w := W) ⟨c, d⟩)
  rw [may_iff.2 (by exact ms)] at M1
  rw [may_iff.2 (by exact mt)] at M2
  simp only [spv] at M1 M2 I1 I2
  clear ms mt hs ht
  cases h1 : isOne ⟨a, b⟩ with
  | false =>
    rw [h1] at I1
    clear h1 ho I2
    go_enter Try.func23, Try.ntmps23
    go_wp2_with (first
      | (go_at_call 13; (with_reducible refine (M1.out _).mono ?_); rintro e w1 ⟨rfl, hb1⟩; have F1 := Lib.hid ((Fr.f3 w a b c d).step hb1); clear hb1; obtain ⟨q0, q1⟩ := F1.out.q1; obtain ⟨q2, q3⟩ := F1.out.2.q1; obtain ⟨q4, q5⟩ := F1.out.2.2.q1; obtain ⟨z0, z1⟩ := F1.out.i1)
      | (go_at_call 13; (with_reducible refine (M2.out _).mono ?_); rintro e w2 ⟨rfl, hb2⟩; have F2 := Lib.hid (F1.out.step hb2); clear hb2 q0 q1 q2 q3 q4 q5 z0 z1; obtain ⟨q0, q1⟩ := F2.out.q1; obtain ⟨q2, q3⟩ := F2.out.2.q1; obtain ⟨q4, q5⟩ := F2.out.2.2.q1; obtain ⟨z0, z1⟩ := F2.out.i1)
      | (go_at_call 30; (with_reducible refine (I1.out _).mono ?_); rintro e w3 ⟨rfl, hb3⟩; have F3 := Lib.hid (F2.out.step hb3); clear hb3 q0 q1 q2 q3 q4 q5 z0 z1; obtain ⟨q0, q1⟩ := F3.out.q1; obtain ⟨q2, q3⟩ := F3.out.2.q1; obtain ⟨q4, q5⟩ := F3.out.2.2.q1; obtain ⟨z0, z1⟩ := F3.out.i1)
      | (go_at_call 33; (with_reducible refine (V1.out _).mono ?_); rintro e w5 ⟨rfl, hb5⟩; have F5 := Lib.hid (F3.out.step hb5); clear hb5 q0 q1 q2 q3 q4 q5 z0 z1; obtain ⟨q0, q1⟩ := F5.out.q1; obtain ⟨z0, z1⟩ := F5.out.i1))
    exact done2 rfl rfl rfl rfl (put2 F5.out.1 _ _) rfl rfl rfl (below2 F5.out.below (by omega) _ _)
  | true =>
    rw [h1] at I1
    rw [h1, Bool.true_and] at ho
    rw [ho] at I2
    clear h1 ho
    go_enter Try.func23, Try.ntmps23
    go_wp2_with (first
      | (go_at_call 13; (with_reducible refine (M1.out _).mono ?_); rintro e w1 ⟨rfl, hb1⟩; have F1 := Lib.hid ((Fr.f3 w a b c d).step hb1); clear hb1; obtain ⟨q0, q1⟩ := F1.out.q1; obtain ⟨q2, q3⟩ := F1.out.2.q1; obtain ⟨q4, q5⟩ := F1.out.2.2.q1; obtain ⟨z0, z1⟩ := F1.out.i1)
      | (go_at_call 13; (with_reducible refine (M2.out _).mono ?_); rintro e w2 ⟨rfl, hb2⟩; have F2 := Lib.hid (F1.out.step hb2); clear hb2 q0 q1 q2 q3 q4 q5 z0 z1; obtain ⟨q0, q1⟩ := F2.out.q1; obtain ⟨q2, q3⟩ := F2.out.2.q1; obtain ⟨q4, q5⟩ := F2.out.2.2.q1; obtain ⟨z0, z1⟩ := F2.out.i1)
      | (go_at_call 30; (with_reducible refine (I1.out _).mono ?_); rintro e w3 ⟨rfl, hb3⟩; have F3 := Lib.hid (F2.out.step hb3); clear hb3 q0 q1 q2 q3 q4 q5 z0 z1; obtain ⟨q0, q1⟩ := F3.out.q1; obtain ⟨q2, q3⟩ := F3.out.2.q1; obtain ⟨q4, q5⟩ := F3.out.2.2.q1; obtain ⟨z0, z1⟩ := F3.out.i1)
      | (go_at_call 30; (with_reducible refine (I2.out _).mono ?_); rintro e w4 ⟨rfl, hb4⟩; have F4 := Lib.hid (F3.out.step hb4); clear hb4 q0 q1 q2 q3 q4 q5 z0 z1; obtain ⟨q0, q1⟩ := F4.out.q1; obtain ⟨q2, q3⟩ := F4.out.2.q1; obtain ⟨q4, q5⟩ := F4.out.2.2.q1; obtain ⟨z0, z1⟩ := F4.out.i1)
      | (go_at_call 33; (with_reducible refine (V1.out _).mono ?_); rintro e w5 ⟨rfl, hb5⟩; have F5 := Lib.hid (F4.out.step hb5); clear hb5 q0 q1 q2 q3 q4 q5 z0 z1; obtain ⟨q0, q1⟩ := F5.out.q1; obtain ⟨z0, z1⟩ := F5.out.i1))
    exact done2 rfl rfl rfl rfl (put2 F5.out.1 _ _) rfl rfl rfl (below2 F5.out.below (by omega) _ _)
theorem sdo_div (a b c d : Nat) (hs : (⟨a, b⟩ : Sp).ok) (_ht : (⟨c, d⟩ : Sp).ok) (ms : a ≤ b) (mt : c ≤ d) (ho : (isOne ⟨a, b⟩ && isOne ⟨c, d⟩) = false) :
    Ans 23 #[.int .i64 4, .agg #[.int .u64 (a : Int), .int .u64 (b : Int)], .agg #[.int .u64 (c : Int), .int .u64 (d : Int)]] (.tuple #[spv (divV ⟨a, b⟩ ⟨c, d⟩), .int .i64 0]) w := by
  have V1 := Lib.hid (fun W => quotient_span (w := W) ⟨a, b⟩ ⟨c, d⟩ hs mt)
  obtain ⟨v, hv⟩ : ∃ v, divV ⟨a, b⟩ ⟨c, d⟩ = v := ⟨_, rfl⟩
  rw [hv] at V1 ⊢
  clear hv
  obtain ⟨x, y⟩ := v
  simp only [spv] at V1
  have M1 := Lib.hid (fun W => may_any (w := W) ⟨a, b⟩)
  have M2 := Lib.hid (fun W => may_any (w := W) ⟨c, d⟩)
  have I1 := Lib.hid (fun W => isSingle_any (w := W) ⟨a, b⟩)
  have I2 := Lib.hid (fun W => isSingle_any (w := W) ⟨c, d⟩)
  rw [may_iff.2 (by exact ms)] at M1
  rw [may_iff.2 (by exact mt)] at M2
  simp only [spv] at M1 M2 I1 I2
  clear ms mt hs _ht
  cases h1 : isOne ⟨a, b⟩ with
  | false =>
    rw [h1] at I1
    clear h1 ho I2
    go_enter Try.func23, Try.ntmps23
    go_wp2_with (first
      | (go_at_call 13; (with_reducible refine (M1.out _).mono ?_); rintro e w1 ⟨rfl, hb1⟩; have F1 := Lib.hid ((Fr.f3 w a b c d).step hb1); clear hb1; obtain ⟨q0, q1⟩ := F1.out.q1; obtain ⟨q2, q3⟩ := F1.out.2.q1; obtain ⟨q4, q5⟩ := F1.out.2.2.q1; obtain ⟨z0, z1⟩ := F1.out.i1)
      | (go_at_call 13; (with_reducible refine (M2.out _).mono ?_); rintro e w2 ⟨rfl, hb2⟩; have F2 := Lib.hid (F1.out.step hb2); clear hb2 q0 q1 q2 q3 q4 q5 z0 z1; obtain ⟨q0, q1⟩ := F2.out.q1; obtain ⟨q2, q3⟩ := F2.out.2.q1; obtain ⟨q4, q5⟩ := F2.out.2.2.q1; obtain ⟨z0, z1⟩ := F2.out.i1)
      | (go_at_call 30; (with_reducible refine (I1.out _).mono ?_); rintro e w3 ⟨rfl, hb3⟩; have F3 := Lib.hid (F2.out.step hb3); clear hb3 q0 q1 q2 q3 q4 q5 z0 z1; obtain ⟨q0, q1⟩ := F3.out.q1; obtain ⟨q2, q3⟩ := F3.out.2.q1; obtain ⟨q4, q5⟩ := F3.out.2.2.q1; obtain ⟨z0, z1⟩ := F3.out.i1)
      | (go_at_call 34; (with_reducible refine (V1.out _).mono ?_); rintro e w5 ⟨rfl, hb5⟩; have F5 := Lib.hid (F3.out.step hb5); clear hb5 q0 q1 q2 q3 q4 q5 z0 z1; obtain ⟨q0, q1⟩ := F5.out.q1; obtain ⟨z0, z1⟩ := F5.out.i1))
    exact done2 rfl rfl rfl rfl (put2 F5.out.1 _ _) rfl rfl rfl (below2 F5.out.below (by omega) _ _)
  | true =>
    rw [h1] at I1
    rw [h1, Bool.true_and] at ho
    rw [ho] at I2
    clear h1 ho
    go_enter Try.func23, Try.ntmps23
    go_wp2_with (first
      | (go_at_call 13; (with_reducible refine (M1.out _).mono ?_); rintro e w1 ⟨rfl, hb1⟩; have F1 := Lib.hid ((Fr.f3 w a b c d).step hb1); clear hb1; obtain ⟨q0, q1⟩ := F1.out.q1; obtain ⟨q2, q3⟩ := F1.out.2.q1; obtain ⟨q4, q5⟩ := F1.out.2.2.q1; obtain ⟨z0, z1⟩ := F1.out.i1)
      | (go_at_call 13; (with_reducible refine (M2.out _).mono ?_); rintro e w2 ⟨rfl, hb2⟩; have F2 := Lib.hid (F1.out.step hb2); clear hb2 q0 q1 q2 q3 q4 q5 z0 z1; obtain ⟨q0, q1⟩ := F2.out.q1; obtain ⟨q2, q3⟩ := F2.out.2.q1; obtain ⟨q4, q5⟩ := F2.out.2.2.q1; obtain ⟨z0, z1⟩ := F2.out.i1)
      | (go_at_call 30; (with_reducible refine (I1.out _).mono ?_); rintro e w3 ⟨rfl, hb3⟩; have F3 := Lib.hid (F2.out.step hb3); clear hb3 q0 q1 q2 q3 q4 q5 z0 z1; obtain ⟨q0, q1⟩ := F3.out.q1; obtain ⟨q2, q3⟩ := F3.out.2.q1; obtain ⟨q4, q5⟩ := F3.out.2.2.q1; obtain ⟨z0, z1⟩ := F3.out.i1)
      | (go_at_call 30; (with_reducible refine (I2.out _).mono ?_); rintro e w4 ⟨rfl, hb4⟩; have F4 := Lib.hid (F3.out.step hb4); clear hb4 q0 q1 q2 q3 q4 q5 z0 z1; obtain ⟨q0, q1⟩ := F4.out.q1; obtain ⟨q2, q3⟩ := F4.out.2.q1; obtain ⟨q4, q5⟩ := F4.out.2.2.q1; obtain ⟨z0, z1⟩ := F4.out.i1)
      | (go_at_call 34; (with_reducible refine (V1.out _).mono ?_); rintro e w5 ⟨rfl, hb5⟩; have F5 := Lib.hid (F4.out.step hb5); clear hb5 q0 q1 q2 q3 q4 q5 z0 z1; obtain ⟨q0, q1⟩ := F5.out.q1; obtain ⟨z0, z1⟩ := F5.out.i1))
    exact done2 rfl rfl rfl rfl (put2 F5.out.1 _ _) rfl rfl rfl (below2 F5.out.below (by omega) _ _)
end
end Go.Proofs.Ytfeobcmkbkaphaa
