/- Plain arithmetic of 64-bit numbers: what alu.Do, Holds and Not answer, and the laws of it. No condition on the program. -/
import Derived.WalkKit
import Derived.Laws.BitsAllLaws
namespace Go.Proofs.YticgehmpfgdbhaaDoor
open Go.RowKit

/-- The number of the first n bits of a row, the lowest one first. -/
def bn (f : Nat → Bool) : Nat → Nat
  | 0 => 0
  | n + 1 => bn f n + if f n then 2 ^ n else 0
theorem bn_lt (f : Nat → Bool) : ∀ n, bn f n < 2 ^ n
  | 0 => by simp [bn]
  | n + 1 => by
    have := bn_lt f n
    simp only [bn, Nat.pow_succ]
    split <;> omega
theorem bn_testBit (f : Nat → Bool) : ∀ n i, (bn f n).testBit i = (decide (i < n) && f i)
  | 0, i => by simp [bn]
  | n + 1, i => by
    have ih := bn_testBit f n i
    have hl := bn_lt f n
    have e : bn f (n + 1) = 2 ^ n * (if f n then 1 else 0) + bn f n := by simp only [bn]; split <;> omega
    rw [e, Nat.testBit_two_pow_mul_add _ hl]
    split
    · rename_i h
      rw [ih]
      simp [h, Nat.lt_succ_of_lt h]
    · rename_i h
      by_cases e2 : i = n
      · subst e2
        cases f i <;> simp
      · have h1 : ¬ i < n + 1 := by omega
        have h2 : i - n = (i - n - 1) + 1 := by omega
        rw [h2]
        cases hf : f n <;> simp [h1, Nat.testBit_succ]
theorem bn_of {a : Nat} (h : a < 18446744073709551616) {f : Nat → Bool} (hf : ∀ i, a.testBit i = f i) : a = bn f 64 := by
  apply Nat.eq_of_testBit_eq
  intro i
  rw [bn_testBit, hf i]
  by_cases hi : i < 64
  · simp [hi]
  · have : a.testBit i = false := Nat.testBit_lt_two_pow (Nat.lt_of_lt_of_le h (Nat.pow_le_pow_right (n := 2) (by decide) (show 64 ≤ i by omega)))
    rw [hf i] at this
    simp [hi, this]
theorem bn_self {a : Nat} (h : a < 18446744073709551616) : bn a.testBit 64 = a := (bn_of h fun _ => rfl).symm
theorem and_lt {a b : Nat} (h : a < 18446744073709551616) : a &&& b < 18446744073709551616 := Nat.lt_of_le_of_lt Nat.and_le_left h
theorem or_lt {a b : Nat} (h : a < 18446744073709551616) (k : b < 18446744073709551616) : a ||| b < 18446744073709551616 := Nat.or_lt_two_pow (n := 64) h k
theorem xor_lt {a b : Nat} (h : a < 18446744073709551616) (k : b < 18446744073709551616) : a ^^^ b < 18446744073709551616 := Nat.xor_lt_two_pow (n := 64) h k
theorem bn_sum (f g : Nat → Bool) : ∀ n, bn (fun i => f i && g i) n + bn (fun i => f i || g i) n = bn f n + bn g n
  | 0 => rfl
  | n + 1 => by
    have := bn_sum f g n
    simp only [bn]
    by_cases h1 : f n = true <;> by_cases h2 : g n = true <;> simp [h1, h2] <;> omega
theorem and_add_or {a b : Nat} (h : a < 18446744073709551616) (k : b < 18446744073709551616) : (a &&& b) + (a ||| b) = a + b := by
  rw [bn_of (and_lt h) (fun i => Nat.testBit_and a b i), bn_of (or_lt h k) (fun i => Nat.testBit_or a b i), bn_sum, bn_self h, bn_self k]

/-- A number shifted with its sign. -/
def sar (a k : Nat) : Nat := a / 2 ^ k + if 9223372036854775808 ≤ a then 18446744073709551616 - 2 ^ (64 - k) else 0
/-- What Do answers. -/
def doV (op : Int) (a b : Nat) : Nat :=
  if op = 1 then (a + b) % 18446744073709551616 else if op = 2 then (a + (18446744073709551616 - b)) % 18446744073709551616
  else if op = 3 then a * b % 18446744073709551616 else if op = 4 then a / b else if op = 5 then a % b
  else if op = 6 then a &&& b else if op = 7 then a ||| b else if op = 8 then a ^^^ b
  else if op = 9 then a * 2 ^ (b % 64) % 18446744073709551616 else if op = 10 then a / 2 ^ (b % 64) else if op = 11 then sar a (b % 64) else 0
def doE (op : Int) : Int := if 1 ≤ op ∧ op ≤ 11 then 0 else 1
/-- A number with its sign. -/
def sgn (a : Nat) : Int := if a < 9223372036854775808 then a else (a : Int) - 18446744073709551616
/-- What Holds answers. -/
def hdV (c : Int) (a b : Nat) : Bool :=
  if c = 1 then decide (a = b) else if c = 2 then !decide (a = b) else if c = 3 then decide (a < b) else if c = 4 then decide (a ≤ b)
  else if c = 5 then !decide (a ≤ b) else if c = 6 then !decide (a < b) else if c = 7 then decide (sgn a < sgn b) else if c = 8 then !decide (sgn a < sgn b)
  else if c = 9 then decide (a &&& b ≠ 0) else false
def hdE (c : Int) : Int := if 1 ≤ c ∧ c ≤ 9 then 0 else 1
/-- What Not answers. -/
def ntV (c : Int) : Int := if c = 1 then 2 else if c = 2 then 1 else if c = 3 then 6 else if c = 6 then 3 else if c = 4 then 5 else if c = 5 then 4 else if c = 7 then 8 else if c = 8 then 7 else 0
def ntE (c : Int) : Int := if 1 ≤ c ∧ c ≤ 8 then 0 else 1

theorem pow_64 {k : Nat} (h : k ≤ 64) : 2 ^ (64 - k) * 2 ^ k = 18446744073709551616 := by
  rw [← Nat.pow_add, Nat.sub_add_cancel h]
theorem pow_lt64 {k : Nat} (h : k < 64) : 2 ^ k < 18446744073709551616 := Nat.pow_lt_pow_right (a := 2) (by decide) h
theorem pow_63 {k : Nat} (h : k < 64) : 2 ^ (63 - k) * 2 ^ k = 9223372036854775808 := by
  rw [← Nat.pow_add, Nat.sub_add_cancel (by omega)]
theorem pow_63' {k : Nat} (h : k < 64) : 2 ^ (64 - k) = 2 * 2 ^ (63 - k) := by
  rw [show 64 - k = (63 - k) + 1 by omega, Nat.pow_succ, Nat.mul_comm]
theorem div_lt {a k : Nat} (h : a < 18446744073709551616) (hk : k < 64) : a / 2 ^ k < 2 ^ (64 - k) := by
  rw [Nat.div_lt_iff_lt_mul (Nat.two_pow_pos k), pow_64 (by omega)]
  exact h
theorem div_hi {a k : Nat} (h : 9223372036854775808 ≤ a) (hk : k < 64) : 2 ^ (63 - k) ≤ a / 2 ^ k := by
  rw [Nat.le_div_iff_mul_le (Nat.two_pow_pos k), pow_63 hk]
  exact h
theorem sar_lt {a k : Nat} (h : a < 18446744073709551616) (hk : k < 64) : sar a k < 18446744073709551616 := by
  have h1 := div_lt h hk
  have h2 : 2 ^ (64 - k) ≤ 2 ^ 64 := Nat.pow_le_pow_right (by decide) (by omega)
  unfold sar
  split <;> omega
theorem doV_lt (op : Int) {a b : Nat} (h : a < 18446744073709551616) (k : b < 18446744073709551616) : doV op a b < 18446744073709551616 := by
  unfold doV
  have e1 : a / b < 18446744073709551616 := Nat.lt_of_le_of_lt (Nat.div_le_self a b) h
  have e2 : a % b < 18446744073709551616 := Nat.lt_of_le_of_lt (Nat.mod_le a b) h
  have e3 : a / 2 ^ (b % 64) < 18446744073709551616 := Nat.lt_of_le_of_lt (Nat.div_le_self a _) h
  have e4 := sar_lt h (Nat.mod_lt b (show 64 > 0 by decide))
  have e5 := and_lt (b := b) h
  have e6 := or_lt h k
  have e7 := xor_lt h k
  repeat' split
  all_goals first | assumption | omega

/-! ### The laws -/
theorem l_addsub {a b : Nat} (h : a < 18446744073709551616) (k : b < 18446744073709551616) : doV 2 (doV 1 a b) b = a := by
  simp [doV]; omega
theorem l_xor2 (a b : Nat) : doV 8 (doV 8 a b) b = a := by
  have e : doV 8 (doV 8 a b) b = (a ^^^ b) ^^^ b := rfl
  rw [e]
  apply Nat.eq_of_testBit_eq
  intro i
  simp only [Nat.testBit_xor]
  cases a.testBit i <;> cases b.testBit i <;> rfl
theorem l_quot {a : Nat} (b : Nat) (h : a < 18446744073709551616) : doV 1 (doV 3 (doV 4 a b) b) (doV 5 a b) = a := by
  have h1 : a / b * b + a % b = a := by rw [Nat.mul_comm]; exact Nat.div_add_mod a b
  have h2 : a / b * b ≤ a := Nat.div_mul_le_self a b
  simp [doV]
  rw [h1]
  omega
theorem l_rest {a b : Nat} (h : b ≠ 0) : doV 5 a b < b := by
  simp [doV]
  exact Nat.mod_lt _ (by omega)
theorem l_andor {a b : Nat} (h : a < 18446744073709551616) (k : b < 18446744073709551616) : doV 1 (doV 6 a b) (doV 7 a b) = doV 1 a b := by
  simp [doV, and_add_or h k]

/-- A shift's ends. -/
theorem l_shl {a n : Nat} (hn : n < 64) : a * 2 ^ n % 18446744073709551616 = a * (1 * 2 ^ n % 18446744073709551616) % 18446744073709551616 := by
  rw [Nat.one_mul, Nat.mod_eq_of_lt (pow_lt64 hn)]
theorem l_back {a n : Nat} (hn : n < 64) : a * 2 ^ n % 18446744073709551616 / 2 ^ n = a % 2 ^ (64 - n) := by
  rw [← pow_64 (show n ≤ 64 by omega), Nat.mul_mod_mul_right, Nat.mul_div_cancel _ (Nat.two_pow_pos n)]
theorem l_sar {a n : Nat} (hn : n < 64) : sar a n * 2 ^ n % 18446744073709551616 = a / 2 ^ n * 2 ^ n % 18446744073709551616 := by
  have h1 := pow_64 (show n ≤ 64 by omega)
  have h2 : 2 ^ (64 - n) ≤ 18446744073709551616 := Nat.pow_le_pow_right (i := 64 - n) (j := 64) (by decide) (by omega)
  unfold sar
  split
  · rw [Nat.add_mul, Nat.sub_mul, h1]
    have h3 : 18446744073709551616 * 2 ^ n - 18446744073709551616 = 18446744073709551616 * (2 ^ n - 1) := by
      rw [Nat.mul_sub, Nat.mul_one]
    rw [h3, Nat.add_mul_mod_self_left]
  · rw [Nat.add_zero]
theorem l_sign {a n : Nat} (h : a < 18446744073709551616) (hn : n < 64) : sar a n / 2 ^ 63 = a / 2 ^ 63 := by
  have h1 := div_lt h hn
  have h2 := pow_63' hn
  have h3 : 2 ^ (63 - n) ≤ 9223372036854775808 := Nat.pow_le_pow_right (i := 63 - n) (j := 63) (by decide) (by omega)
  have h4 : 1 ≤ 2 ^ (63 - n) := Nat.one_le_two_pow
  unfold sar
  split
  · have h5 := div_hi (by assumption) hn
    have e1 : a / 2 ^ 63 = 1 := by omega
    have e2 : (a / 2 ^ n + (18446744073709551616 - 2 ^ (64 - n))) / 2 ^ 63 = 1 := by
      generalize a / 2 ^ n = q at h1 h5
      rw [h2] at h1 ⊢
      generalize 2 ^ (63 - n) = p at h1 h3 h4 h5
      clear h2
      omega
    rw [e1, e2]
  · have e1 : a / 2 ^ 63 = 0 := by omega
    have h6 : a / 2 ^ n ≤ a := Nat.div_le_self _ _
    have e2 : (a / 2 ^ n + 0) / 2 ^ 63 = 0 := by
      generalize a / 2 ^ n = q at h1 h6
      clear h1 h2 h3 h4
      omega
    rw [e1, e2]

/-! ### Bits -/
theorem l_dist (a b c : Nat) : (a ||| b) &&& c = (a &&& c) ||| (b &&& c) := by
  apply Nat.eq_of_testBit_eq; intro i; simp only [Nat.testBit_and, Nat.testBit_or]; cases a.testBit i <;> cases b.testBit i <;> cases c.testBit i <;> rfl
theorem l_in (a b : Nat) : (a &&& b) &&& a = a &&& b := by
  apply Nat.eq_of_testBit_eq; intro i; simp only [Nat.testBit_and]; cases a.testBit i <;> cases b.testBit i <;> rfl
theorem l_out (a b : Nat) : a &&& (a ||| b) = a := by
  apply Nat.eq_of_testBit_eq; intro i; simp only [Nat.testBit_and, Nat.testBit_or]; cases a.testBit i <;> cases b.testBit i <;> rfl
theorem l_orx (a b : Nat) : (a &&& b) ||| (a ^^^ b) = a ||| b := by
  apply Nat.eq_of_testBit_eq; intro i; simp only [Nat.testBit_and, Nat.testBit_or, Nat.testBit_xor]; cases a.testBit i <;> cases b.testBit i <;> rfl
theorem l_andx (a b : Nat) : (a &&& b) &&& (a ^^^ b) = 0 := by
  apply Nat.eq_of_testBit_eq; intro i; simp only [Nat.testBit_and, Nat.testBit_xor, Nat.zero_testBit]; cases a.testBit i <;> cases b.testBit i <;> rfl

/-! ### Rings -/
theorem l_mul3 (a b c : Nat) : a * b % 18446744073709551616 * c % 18446744073709551616 = a * (b * c % 18446744073709551616) % 18446744073709551616 := by
  rw [Nat.mod_mul_mod, Nat.mul_mod_mod, Nat.mul_assoc]
theorem l_spread (a b c : Nat) : a * ((b + c) % 18446744073709551616) % 18446744073709551616 = (a * b % 18446744073709551616 + a * c % 18446744073709551616) % 18446744073709551616 := by
  rw [Nat.mul_mod_mod, Nat.mul_add, ← Nat.add_mod]
end Go.Proofs.YticgehmpfgdbhaaDoor
