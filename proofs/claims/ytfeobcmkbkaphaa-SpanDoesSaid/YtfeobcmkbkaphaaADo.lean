/- The contracts of alu.Do. Conditions: the two numbers have at most 64 bits. -/
import Derived.Test.YtfeobcmkbkaphaaProg
import Derived.Test.YtfeobcmkbkaphaaAMath
import Derived.WalkLawsBesides
import Derived.Lib.Hide
import Derived.IntWalk
namespace Go.Proofs.Ytfeobcmkbkaphaa
open Go.RowKit
set_option maxRecDepth 100000
theorem ret_u {x y : Int} (h : x = y) : Ending.returned (.int .u64 x) = .returned (.int .u64 y) := by rw [h]
theorem ret_u0 {x y : Int} (h : x = y) : Ending.returned (.tuple #[.int .u64 x, .int .i64 0]) = .returned (.tuple #[.int .u64 y, .int .i64 0]) := by rw [h]
section
variable {a b : Nat} (ha : a < 18446744073709551616) (hb : b < 18446744073709551616)
theorem v_add : IntKind.u64.wrap ((a : Int) + b) = (doV 1 a b : Nat) := by
  show _ = (((a + b) % 18446744073709551616 : Nat) : Int)
  rw [IntKind.wrap_u64]; omega
include hb in
theorem v_sub : IntKind.u64.wrap ((a : Int) - b) = (doV 2 a b : Nat) := by
  show _ = (((a + (18446744073709551616 - b)) % 18446744073709551616 : Nat) : Int)
  rw [IntKind.wrap_u64]; omega
theorem v_mul : IntKind.u64.wrap ((a : Int) * b) = (doV 3 a b : Nat) := by
  show _ = ((a * b % 18446744073709551616 : Nat) : Int)
  rw [IntKind.wrap_u64, Int.natCast_emod, Int.natCast_mul]; rfl
include ha in
theorem v_quo : IntKind.u64.wrap ((a : Int) / b) = ((a / b : Nat) : Int) := by
  rw [← Int.natCast_ediv, IntKind.wrap_u64]
  have := Nat.lt_of_le_of_lt (Nat.div_le_self a b) ha
  generalize a / b = q at this ⊢
  omega
theorem v_rem : (a : Int) % b = ((a % b : Nat) : Int) := rfl
include ha hb in
theorem v_and : bits .and .u64 (a : Int) b = (doV 6 a b : Nat) := u64_and_nat a b ha hb
include ha hb in
theorem v_or : bits .or .u64 (a : Int) b = (doV 7 a b : Nat) := u64_or_nat a b ha hb
include ha hb in
theorem v_xor : bits .xor .u64 (a : Int) b = (doV 8 a b : Nat) := u64_xor_nat a b ha hb
theorem v_shl : IntKind.u64.wrap ((a : Int) * 2 ^ (b % 64)) = (doV 9 a b : Nat) := by
  show _ = ((a * 2 ^ (b % 64) % 18446744073709551616 : Nat) : Int)
  rw [IntKind.wrap_u64, Int.natCast_emod, Int.natCast_mul, Int.natCast_pow]; rfl
theorem v_shr : (a : Int) / 2 ^ (b % 64) = (doV 10 a b : Nat) := by
  show _ = ((a / 2 ^ (b % 64) : Nat) : Int)
  rw [Int.natCast_ediv, Int.natCast_pow]; rfl
include ha in
theorem v_sar : IntKind.u64.wrap (wrap64 (a : Int) / 2 ^ (b % 64)) = (doV 11 a b : Nat) := by
  show _ = ((sar a (b % 64) : Nat) : Int)
  have hk := Nat.mod_lt b (show 64 > 0 by decide)
  generalize b % 64 = k at hk
  have h1 := div_lt ha hk
  have h2 : 2 ^ (64 - k) ≤ 18446744073709551616 := Nat.pow_le_pow_right (i := 64 - k) (j := 64) (by decide) (by omega)
  have hq : a / 2 ^ k ≤ a := Nat.div_le_self _ _
  have e0 : ((2 : Int) ^ k) = ((2 ^ k : Nat) : Int) := by rw [Int.natCast_pow]; rfl
  have hp : ((2 ^ k : Nat) : Int) ≠ 0 := by have := Nat.two_pow_pos k; omega
  rw [IntKind.wrap_u64, e0]
  unfold sar
  by_cases h : 9223372036854775808 ≤ a
  · have e1 : wrap64 (a : Int) = (a : Int) - 18446744073709551616 := by unfold wrap64; omega
    have e2 : (a : Int) - 18446744073709551616 = (a : Int) + (-((2 ^ (64 - k) : Nat) : Int)) * ((2 ^ k : Nat) : Int) := by
      rw [Int.neg_mul, ← Int.natCast_mul, pow_64 (by omega)]; rfl
    rw [e1, e2, Int.add_mul_ediv_right _ _ hp, ← Int.natCast_ediv, if_pos h]
    generalize a / 2 ^ k = q at h1
    generalize 2 ^ (64 - k) = p at h1 h2
    omega
  · have e1 : wrap64 (a : Int) = (a : Int) := by unfold wrap64; omega
    rw [e1, ← Int.natCast_ediv, if_neg h]
    generalize a / 2 ^ k = q at hq
    clear h1 h2 e0 hp e1
    omega
end
section
variable {w : World}
theorem quotient_any (a b : Nat) (ha : a < 18446744073709551616) : Calls Try.prog 45 #[.int .u64 (a : Int), .int .u64 (b : Int)] w fun e w' => e = .returned (.int .u64 ((a / b : Nat) : Int)) ∧ w = w' := by
  by_cases h : b = 0
  · subst h
    go_enter Try.func45, Try.ntmps45
    go_wp2_with fail
    go_ret
    exact ⟨by simp, rfl⟩
  · have n0 : ((b : Int) == 0) = false := by simp; omega
    have HA := Lib.hid ha
    clear ha
    go_enter Try.func45, Try.ntmps45
    go_wp2_with fail
    go_ret
    exact ⟨ret_u (v_quo HA.out), rfl⟩
theorem remainder_any (a b : Nat) : Calls Try.prog 46 #[.int .u64 (a : Int), .int .u64 (b : Int)] w fun e w' => e = .returned (.int .u64 ((a % b : Nat) : Int)) ∧ w = w' := by
  by_cases h : b = 0
  · subst h
    go_enter Try.func46, Try.ntmps46
    go_wp2_with fail
    go_ret
    exact ⟨by simp, rfl⟩
  · have n0 : ((b : Int) == 0) = false := by simp; omega
    go_enter Try.func46, Try.ntmps46
    go_wp2_with fail
    go_ret
    exact ⟨rfl, rfl⟩
theorem do_no (op : Int) (a b : Nat) (h : op < 1 ∨ 11 < op) : Calls Try.prog 25 #[.int .i64 op, .int .u64 (a : Int), .int .u64 (b : Int)] w fun e w' => e = .returned (.tuple #[.int .u64 0, .int .i64 1]) ∧ w = w' := by
  have n1 : (op == 1) = false := by simp; omega
  have n2 : (op == 2) = false := by simp; omega
  have n3 : (op == 3) = false := by simp; omega
  have n4 : (op == 4) = false := by simp; omega
  have n5 : (op == 5) = false := by simp; omega
  have n6 : (op == 6) = false := by simp; omega
  have n7 : (op == 7) = false := by simp; omega
  have n8 : (op == 8) = false := by simp; omega
  have n9 : (op == 9) = false := by simp; omega
  have n10 : (op == 10) = false := by simp; omega
  have n11 : (op == 11) = false := by simp; omega
  clear h
  go_enter Try.func25, Try.ntmps25
  go_wp2_with fail
  go_ret2
  exact ⟨rfl, rfl⟩
theorem do_add (a b : Nat) : Calls Try.prog 25 #[.int .i64 1, .int .u64 (a : Int), .int .u64 (b : Int)] w fun e w' => e = .returned (.tuple #[.int .u64 (doV 1 a b : Nat), .int .i64 0]) ∧ w = w' := by
  go_enter Try.func25, Try.ntmps25
  go_wp2_with fail
  go_ret2
  exact ⟨ret_u0 v_add, rfl⟩
theorem do_sub (a b : Nat) (hb : b < 18446744073709551616) : Calls Try.prog 25 #[.int .i64 2, .int .u64 (a : Int), .int .u64 (b : Int)] w fun e w' => e = .returned (.tuple #[.int .u64 (doV 2 a b : Nat), .int .i64 0]) ∧ w = w' := by
  have HB := Lib.hid hb
  clear hb
  go_enter Try.func25, Try.ntmps25
  go_wp2_with fail
  go_ret2
  exact ⟨ret_u0 (v_sub HB.out), rfl⟩
theorem do_mul (a b : Nat) : Calls Try.prog 25 #[.int .i64 3, .int .u64 (a : Int), .int .u64 (b : Int)] w fun e w' => e = .returned (.tuple #[.int .u64 (doV 3 a b : Nat), .int .i64 0]) ∧ w = w' := by
  go_enter Try.func25, Try.ntmps25
  go_wp2_with fail
  go_ret2
  exact ⟨ret_u0 v_mul, rfl⟩
theorem do_div (a b : Nat) (ha : a < 18446744073709551616) : Calls Try.prog 25 #[.int .i64 4, .int .u64 (a : Int), .int .u64 (b : Int)] w fun e w' => e = .returned (.tuple #[.int .u64 (doV 4 a b : Nat), .int .i64 0]) ∧ w = w' := by
  have HA := Lib.hid ha
  clear ha
  go_enter Try.func25, Try.ntmps25
  go_wp2_with (go_at_call 45; refine (quotient_any a b HA.out).mono ?_; rintro e w1 ⟨rfl, rfl⟩)
  go_ret2
  exact ⟨rfl, rfl⟩
theorem do_mod (a b : Nat) : Calls Try.prog 25 #[.int .i64 5, .int .u64 (a : Int), .int .u64 (b : Int)] w fun e w' => e = .returned (.tuple #[.int .u64 (doV 5 a b : Nat), .int .i64 0]) ∧ w = w' := by
  go_enter Try.func25, Try.ntmps25
  go_wp2_with (go_at_call 46; refine (remainder_any a b).mono ?_; rintro e w1 ⟨rfl, rfl⟩)
  go_ret2
  exact ⟨rfl, rfl⟩
theorem do_and (a b : Nat) (ha : a < 18446744073709551616) (hb : b < 18446744073709551616) : Calls Try.prog 25 #[.int .i64 6, .int .u64 (a : Int), .int .u64 (b : Int)] w fun e w' => e = .returned (.tuple #[.int .u64 (doV 6 a b : Nat), .int .i64 0]) ∧ w = w' := by
  have HA := Lib.hid ha
  clear ha
  have HB := Lib.hid hb
  clear hb
  go_enter Try.func25, Try.ntmps25
  go_wp2_with fail
  go_ret2
  exact ⟨ret_u0 (v_and HA.out HB.out), rfl⟩
theorem do_or (a b : Nat) (ha : a < 18446744073709551616) (hb : b < 18446744073709551616) : Calls Try.prog 25 #[.int .i64 7, .int .u64 (a : Int), .int .u64 (b : Int)] w fun e w' => e = .returned (.tuple #[.int .u64 (doV 7 a b : Nat), .int .i64 0]) ∧ w = w' := by
  have HA := Lib.hid ha
  clear ha
  have HB := Lib.hid hb
  clear hb
  go_enter Try.func25, Try.ntmps25
  go_wp2_with fail
  go_ret2
  exact ⟨ret_u0 (v_or HA.out HB.out), rfl⟩
theorem do_xor (a b : Nat) (ha : a < 18446744073709551616) (hb : b < 18446744073709551616) : Calls Try.prog 25 #[.int .i64 8, .int .u64 (a : Int), .int .u64 (b : Int)] w fun e w' => e = .returned (.tuple #[.int .u64 (doV 8 a b : Nat), .int .i64 0]) ∧ w = w' := by
  have HA := Lib.hid ha
  clear ha
  have HB := Lib.hid hb
  clear hb
  go_enter Try.func25, Try.ntmps25
  go_wp2_with fail
  go_ret2
  exact ⟨ret_u0 (v_xor HA.out HB.out), rfl⟩
theorem do_shl (a b : Nat) : Calls Try.prog 25 #[.int .i64 9, .int .u64 (a : Int), .int .u64 (b : Int)] w fun e w' => e = .returned (.tuple #[.int .u64 (doV 9 a b : Nat), .int .i64 0]) ∧ w = w' := by
  go_enter Try.func25, Try.ntmps25
  go_wp2_with fail
  go_ret2
  exact ⟨ret_u0 v_shl, rfl⟩
theorem do_shr (a b : Nat) : Calls Try.prog 25 #[.int .i64 10, .int .u64 (a : Int), .int .u64 (b : Int)] w fun e w' => e = .returned (.tuple #[.int .u64 (doV 10 a b : Nat), .int .i64 0]) ∧ w = w' := by
  go_enter Try.func25, Try.ntmps25
  go_wp2_with fail
  go_ret2
  exact ⟨ret_u0 v_shr, rfl⟩
theorem do_sar (a b : Nat) (ha : a < 18446744073709551616) : Calls Try.prog 25 #[.int .i64 11, .int .u64 (a : Int), .int .u64 (b : Int)] w fun e w' => e = .returned (.tuple #[.int .u64 (doV 11 a b : Nat), .int .i64 0]) ∧ w = w' := by
  have HA := Lib.hid ha
  clear ha
  go_enter Try.func25, Try.ntmps25
  go_wp2_with fail
  go_ret2
  exact ⟨ret_u0 (v_sar HA.out), rfl⟩
theorem do_any (op : Int) (a b : Nat) (ha : a < 18446744073709551616) (hb : b < 18446744073709551616) : Calls Try.prog 25 #[.int .i64 op, .int .u64 (a : Int), .int .u64 (b : Int)] w fun e w' => e = .returned (.tuple #[.int .u64 (doV op a b : Nat), .int .i64 (doE op)]) ∧ w = w' := by
  by_cases h : op < 1 ∨ 11 < op
  · have e1 : doV op a b = 0 := by
      unfold doV
      rw [if_neg (by omega), if_neg (by omega), if_neg (by omega), if_neg (by omega), if_neg (by omega), if_neg (by omega), if_neg (by omega), if_neg (by omega), if_neg (by omega), if_neg (by omega), if_neg (by omega)]
    have e2 : doE op = 1 := by unfold doE; rw [if_neg (by omega)]
    rw [e1, e2]
    exact do_no op a b h
  · rcases (show op = 1 ∨ op = 2 ∨ op = 3 ∨ op = 4 ∨ op = 5 ∨ op = 6 ∨ op = 7 ∨ op = 8 ∨ op = 9 ∨ op = 10 ∨ op = 11 by omega) with rfl | rfl | rfl | rfl | rfl | rfl | rfl | rfl | rfl | rfl | rfl
    · exact do_add a b
    · exact do_sub a b hb
    · exact do_mul a b
    · exact do_div a b ha
    · exact do_mod a b
    · exact do_and a b ha hb
    · exact do_or a b ha hb
    · exact do_xor a b ha hb
    · exact do_shl a b
    · exact do_shr a b
    · exact do_sar a b ha
end
end Go.Proofs.Ytfeobcmkbkaphaa
