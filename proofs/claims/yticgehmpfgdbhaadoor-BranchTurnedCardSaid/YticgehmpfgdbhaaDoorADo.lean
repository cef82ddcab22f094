/- The contracts of alu.Do. Conditions: the two numbers have at most 64 bits. -/
import Derived.Test.YticgehmpfgdbhaaDoorProg
import Derived.Test.YticgehmpfgdbhaaDoorAMath
import Derived.WalkLawsBesides
import Derived.Lib.Hide
import Derived.IntWalk
namespace Go.Proofs.YticgehmpfgdbhaaDoor
open Go.RowKit
set_option maxRecDepth 100000
theorem ret_u {x y : Int} (h : x = y) : Ending.returned (.int .u64 x) = .returned (.int .u64 y) := by rw [h]
theorem ret_u0 {x y : Int} (h : x = y) : Ending.returned (.tuple #[.int .u64 x, .int .i64 0]) = .returned (.tuple #[.int .u64 y, .int .i64 0]) := by rw [h]
section
variable {a b : Nat} (ha : a < 18446744073709551616) (hb : b < 18446744073709551616)
theorem v_add : IntKind.u64.wrap ((a : Int) + b) = (doV 1 a b : Nat) := by
  show _ = (((a + b) % 18446744073709551616 : Nat) : Int)
  rw [IntKind.wrap_u64]; omega
include hb in
theorem v_sub : IntKind.u64.wrap ((a : Int) - b) = (doV 2 a b : Nat) := by
  show _ = (((a + (18446744073709551616 - b)) % 18446744073709551616 : Nat) : Int)
  rw [IntKind.wrap_u64]; omega
theorem v_mul : IntKind.u64.wrap ((a : Int) * b) = (doV 3 a b : Nat) := by
  show _ = ((a * b % 18446744073709551616 : Nat) : Int)
  rw [IntKind.wrap_u64, Int.natCast_emod, Int.natCast_mul]; rfl
include ha in
theorem v_quo : IntKind.u64.wrap ((a : Int) / b) = ((a / b : Nat) : Int) := by
  rw [← Int.natCast_ediv, IntKind.wrap_u64]
  have := Nat.lt_of_le_of_lt (Nat.div_le_self a b) ha
  generalize a / b = q at this ⊢
  omega
theorem v_rem : (a : Int) % b = ((a % b : Nat) : Int) := rfl
include ha hb in
theorem v_and : bits .and .u64 (a : Int) b = (doV 6 a b : Nat) := u64_and_nat a b ha hb
include ha hb in
theorem v_or : bits .or .u64 (a : Int) b = (doV 7 a b : Nat) := u64_or_nat a b ha hb
include ha hb in
theorem v_xor : bits .xor .u64 (a : Int) b = (doV 8 a b : Nat) := u64_xor_nat a b ha hb
theorem v_shl : IntKind.u64.wrap ((a : Int) * 2 ^ (b % 64)) = (doV 9 a b : Nat) := by
  show _ = ((a * 2 ^ (b % 64) % 18446744073709551616 : Nat) : Int)
  rw [IntKind.wrap_u64, Int.natCast_emod, Int.natCast_mul, Int.natCast_pow]; rfl
theorem v_shr : (a : Int) / 2 ^ (b % 64) = (doV 10 a b : Nat) := by
  show _ = ((a / 2 ^ (b % 64) : Nat) : Int)
  rw [Int.natCast_ediv, Int.natCast_pow]; rfl
include ha in
theorem v_sar : IntKind.u64.wrap (wrap64 (a : Int) / 2 ^ (b % 64)) = (doV 11 a b : Nat) := by
  show _ = ((sar a (b % 64) : Nat) : Int)
  have hk := Nat.mod_lt b (show 64 > 0 by decide)
  generalize b % 64 = k at hk
  have h1 := div_lt ha hk
  have h2 : 2 ^ (64 - k) ≤ 18446744073709551616 := Nat.pow_le_pow_right (i := 64 - k) (j := 64) (by decide) (by omega)
  have hq : a / 2 ^ k ≤ a := Nat.div_le_self _ _
  have e0 : ((2 : Int) ^ k) = ((2 ^ k : Nat) : Int) := by rw [Int.natCast_pow]; rfl
  have hp : ((2 ^ k : Nat) : Int) ≠ 0 := by have := Nat.two_pow_pos k; omega
  rw [IntKind.wrap_u64, e0]
  unfold sar
  by_cases h : 9223372036854775808 ≤ a
  · have e1 : wrap64 (a : Int) = (a : Int) - 18446744073709551616 := by unfold wrap64; omega
    have e2 : (a : Int) - 18446744073709551616 = (a : Int) + (-((2 ^ (64 - k) : Nat) : Int)) * ((2 ^ k : Nat) : Int) := by
      rw [Int.neg_mul, ← Int.natCast_mul, pow_64 (by omega)]; rfl
    rw [e1, e2, Int.add_mul_ediv_right _ _ hp, ← Int.natCast_ediv, if_pos h]
    generalize a / 2 ^ k = q at h1
    generalize 2 ^ (64 - k) = p at h1 h2
    omega
  · have e1 : wrap64 (a : Int) = (a : Int) := by unfold wrap64; omega
    rw [e1, ← Int.natCast_ediv, if_neg h]
    generalize a / 2 ^ k = q at hq
    clear h1 h2 e0 hp e1
    omega
end
section
variable {w : World}
end
end Go.Proofs.YticgehmpfgdbhaaDoor
