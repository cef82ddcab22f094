/- The contract of the document's Do. Conditions: the two numbers have at most 64 bits. -/
import Derived.Test.YticgehmpfgdbhaaDoorARef
namespace Go.Proofs.YticgehmpfgdbhaaDoor
open Go.RowKit
set_option maxRecDepth 100000
section
variable {w : World}
theorem i_wrap (k : Nat) (h : k < 65) : IntKind.i64.wrap (k : Int) = k := IntWalk.i64_in _ (by omega)
theorem bits_and {a b : Nat} (ha : a < 18446744073709551616) : bn (fun i => bt false false true (a.testBit i) (b.testBit i)) 64 = a &&& b :=
  (bn_of (and_lt ha) fun i => by rw [Nat.testBit_and]; cases a.testBit i <;> cases b.testBit i <;> rfl).symm
theorem bits_or {a b : Nat} (ha : a < 18446744073709551616) (hb : b < 18446744073709551616) : bn (fun i => bt false true true (a.testBit i) (b.testBit i)) 64 = a ||| b :=
  (bn_of (or_lt ha hb) fun i => by rw [Nat.testBit_or]; cases a.testBit i <;> cases b.testBit i <;> rfl).symm
theorem bits_xor {a b : Nat} (ha : a < 18446744073709551616) (hb : b < 18446744073709551616) : bn (fun i => bt false true false (a.testBit i) (b.testBit i)) 64 = a ^^^ b :=
  (bn_of (xor_lt ha hb) fun i => by rw [Nat.testBit_xor]; cases a.testBit i <;> cases b.testBit i <;> rfl).symm
theorem k_of (b : Nat) : (b : Int) % 64 = ((b % 64 : Nat) : Int) := rfl
/-- A shifted number with the copies of its sign below place j. -/
def sv (q P j : Nat) : Nat := q + (2 ^ j - P)
theorem sv_step (q k j : Nat) (hq : q < 2 ^ (64 - k)) (hj : 64 - k ≤ j) (h : j < 64) : IntKind.u64.wrap ((sv q (2 ^ (64 - k)) j : Int) + ((2 ^ j : Nat) : Int)) = ((sv q (2 ^ (64 - k)) (j + 1) : Nat) : Int) := by
  have h1 : 2 ^ (64 - k) ≤ 2 ^ j := Nat.pow_le_pow_right (by decide) hj
  have h2 : 2 ^ (j + 1) ≤ 2 ^ 64 := Nat.pow_le_pow_right (by decide) h
  have h3 : 2 ^ (j + 1) = 2 ^ j * 2 := Nat.pow_succ ..
  rw [IntKind.wrap_u64]
  unfold sv
  rw [h3] at h2 ⊢
  generalize 2 ^ j = x at h1 h2
  generalize 2 ^ (64 - k) = y at hq h1
  omega
theorem top_yes {a : Nat} (ha : a < 18446744073709551616) (h : 9223372036854775808 ≤ a) : a.testBit 63 = true := by
  rw [Nat.testBit_eq_decide_div_mod_eq, decide_eq_true_eq]; omega
theorem top_no {a : Nat} (h : ¬ 9223372036854775808 ≤ a) : a.testBit 63 = false := by
  rw [Nat.testBit_eq_decide_div_mod_eq, decide_eq_false_iff_not]; omega
end
end Go.Proofs.YticgehmpfgdbhaaDoor
