/- The contract of the document's Do. Conditions: the two numbers have at most 64 bits. -/
import Derived.Test.YtfeobcmkbkaphaaARef
namespace Go.Proofs.Ytfeobcmkbkaphaa
open Go.RowKit
set_option maxRecDepth 100000
section
variable {w : World}
theorem i_wrap (k : Nat) (h : k < 65) : IntKind.i64.wrap (k : Int) = k := IntWalk.i64_in _ (by omega)
theorem rdo_no (op : Int) (a b : Nat) (h : op < 1 ∨ 11 < op) : Calls Try.prog 41 #[.int .i64 op, .int .u64 (a : Int), .int .u64 (b : Int)] w fun e w' => e = .returned (.tuple #[.int .u64 0, .int .i64 1]) ∧ w = w' := by
  have n1 : (op == 1) = false := by simp; omega
  have n2 : (op == 2) = false := by simp; omega
  have n3 : (op == 3) = false := by simp; omega
  have n4 : (op == 4) = false := by simp; omega
  have n5 : (op == 5) = false := by simp; omega
  have n6 : (op == 6) = false := by simp; omega
  have n7 : (op == 7) = false := by simp; omega
  have n8 : (op == 8) = false := by simp; omega
  have n9 : (op == 9) = false := by simp; omega
  have n10 : (op == 10) = false := by simp; omega
  have n11 : (op == 11) = false := by simp; omega
  clear h
  go_enter Try.func41, Try.ntmps41
  go_wp2_with fail
  go_ret2
  exact ⟨rfl, rfl⟩
theorem rdo_add (a b : Nat) : Calls Try.prog 41 #[.int .i64 1, .int .u64 (a : Int), .int .u64 (b : Int)] w fun e w' => e = .returned (.tuple #[.int .u64 (doV 1 a b : Nat), .int .i64 0]) ∧ w = w' := by
  go_enter Try.func41, Try.ntmps41
  go_wp2_with fail
  go_ret2
  exact ⟨ret_u0 v_add, rfl⟩
theorem rdo_sub (a b : Nat) (hb : b < 18446744073709551616) : Calls Try.prog 41 #[.int .i64 2, .int .u64 (a : Int), .int .u64 (b : Int)] w fun e w' => e = .returned (.tuple #[.int .u64 (doV 2 a b : Nat), .int .i64 0]) ∧ w = w' := by
  have HB := Lib.hid hb
  clear hb
  go_enter Try.func41, Try.ntmps41
  go_wp2_with fail
  go_ret2
  exact ⟨ret_u0 (v_sub HB.out), rfl⟩
theorem rdo_mul (a b : Nat) : Calls Try.prog 41 #[.int .i64 3, .int .u64 (a : Int), .int .u64 (b : Int)] w fun e w' => e = .returned (.tuple #[.int .u64 (doV 3 a b : Nat), .int .i64 0]) ∧ w = w' := by
  go_enter Try.func41, Try.ntmps41
  go_wp2_with fail
  go_ret2
  exact ⟨ret_u0 v_mul, rfl⟩
theorem rdo_div (a b : Nat) (ha : a < 18446744073709551616) : Calls Try.prog 41 #[.int .i64 4, .int .u64 (a : Int), .int .u64 (b : Int)] w fun e w' => e = .returned (.tuple #[.int .u64 (doV 4 a b : Nat), .int .i64 0]) ∧ w = w' := by
  by_cases h : b = 0
  · subst h
    clear ha
    go_enter Try.func41, Try.ntmps41
    go_wp2_with fail
    go_ret2
    exact ⟨ret_u0 (by simp [doV]), rfl⟩
  · have HA := Lib.hid ha
    clear ha
    go_enter Try.func41, Try.ntmps41
    go_wp2_with fail
    go_ret2
    exact ⟨ret_u0 (v_quo HA.out), rfl⟩
theorem rdo_mod (a b : Nat) : Calls Try.prog 41 #[.int .i64 5, .int .u64 (a : Int), .int .u64 (b : Int)] w fun e w' => e = .returned (.tuple #[.int .u64 (doV 5 a b : Nat), .int .i64 0]) ∧ w = w' := by
  by_cases h : b = 0
  · subst h
    go_enter Try.func41, Try.ntmps41
    go_wp2_with fail
    go_ret2
    exact ⟨ret_u0 (by simp [doV]), rfl⟩
  · skip
    go_enter Try.func41, Try.ntmps41
    go_wp2_with fail
    go_ret2
    exact ⟨rfl, rfl⟩
theorem bits_and {a b : Nat} (ha : a < 18446744073709551616) : bn (fun i => bt false false true (a.testBit i) (b.testBit i)) 64 = a &&& b :=
  (bn_of (and_lt ha) fun i => by rw [Nat.testBit_and]; cases a.testBit i <;> cases b.testBit i <;> rfl).symm
theorem rdo_and (a b : Nat) (ha : a < 18446744073709551616) (hb : b < 18446744073709551616) : Calls Try.prog 41 #[.int .i64 6, .int .u64 (a : Int), .int .u64 (b : Int)] w fun e w' => e = .returned (.tuple #[.int .u64 (doV 6 a b : Nat), .int .i64 0]) ∧ w = w' := by
  have BT := Lib.hid (fun w => bits_any (w := w) a b false true ha hb)
  rw [bits_and ha] at BT
  clear ha hb
  go_enter Try.func41, Try.ntmps41
  go_wp2_with (go_at_call 50; refine (BT.out _).mono ?_; rintro e w1 ⟨rfl, rfl⟩)
  go_ret2
  exact ⟨rfl, rfl⟩
theorem bits_or {a b : Nat} (ha : a < 18446744073709551616) (hb : b < 18446744073709551616) : bn (fun i => bt false true true (a.testBit i) (b.testBit i)) 64 = a ||| b :=
  (bn_of (or_lt ha hb) fun i => by rw [Nat.testBit_or]; cases a.testBit i <;> cases b.testBit i <;> rfl).symm
theorem rdo_or (a b : Nat) (ha : a < 18446744073709551616) (hb : b < 18446744073709551616) : Calls Try.prog 41 #[.int .i64 7, .int .u64 (a : Int), .int .u64 (b : Int)] w fun e w' => e = .returned (.tuple #[.int .u64 (doV 7 a b : Nat), .int .i64 0]) ∧ w = w' := by
  have BT := Lib.hid (fun w => bits_any (w := w) a b true true ha hb)
  rw [bits_or ha hb] at BT
  clear ha hb
  go_enter Try.func41, Try.ntmps41
  go_wp2_with (go_at_call 50; refine (BT.out _).mono ?_; rintro e w1 ⟨rfl, rfl⟩)
  go_ret2
  exact ⟨rfl, rfl⟩
theorem bits_xor {a b : Nat} (ha : a < 18446744073709551616) (hb : b < 18446744073709551616) : bn (fun i => bt false true false (a.testBit i) (b.testBit i)) 64 = a ^^^ b :=
  (bn_of (xor_lt ha hb) fun i => by rw [Nat.testBit_xor]; cases a.testBit i <;> cases b.testBit i <;> rfl).symm
theorem rdo_xor (a b : Nat) (ha : a < 18446744073709551616) (hb : b < 18446744073709551616) : Calls Try.prog 41 #[.int .i64 8, .int .u64 (a : Int), .int .u64 (b : Int)] w fun e w' => e = .returned (.tuple #[.int .u64 (doV 8 a b : Nat), .int .i64 0]) ∧ w = w' := by
  have BT := Lib.hid (fun w => bits_any (w := w) a b true false ha hb)
  rw [bits_xor ha hb] at BT
  clear ha hb
  go_enter Try.func41, Try.ntmps41
  go_wp2_with (go_at_call 50; refine (BT.out _).mono ?_; rintro e w1 ⟨rfl, rfl⟩)
  go_ret2
  exact ⟨rfl, rfl⟩
theorem k_of (b : Nat) : (b : Int) % 64 = ((b % 64 : Nat) : Int) := rfl
theorem rdo_shl (a b : Nat) : Calls Try.prog 41 #[.int .i64 9, .int .u64 (a : Int), .int .u64 (b : Int)] w fun e w' => e = .returned (.tuple #[.int .u64 (doV 9 a b : Nat), .int .i64 0]) ∧ w = w' := by
  have hk := Nat.mod_lt b (show 64 > 0 by decide)
  have h2 := Nat.two_pow_pos (b % 64)
  have PW := Lib.hid (fun w => pow_any (w := w) (b % 64) hk)
  have HV : Hid (IntKind.u64.wrap ((a : Int) * ((2 ^ (b % 64) : Nat) : Int)) = (doV 9 a b : Nat)) := Lib.hid (by rw [Int.natCast_pow]; exact v_shl)
  generalize hq : 2 ^ (b % 64) = q at HV PW h2
  have hp : ¬ q = 0 := by omega
  clear hq h2
  have hw : IntKind.i64.wrap ((b : Int) % 64) = ((b % 64 : Nat) : Int) := i_wrap (b % 64) (by omega)
  clear hk
  go_enter Try.func41, Try.ntmps41
  go_wp2_with (go_at_call 43; refine (PW.out _).mono ?_; rintro e w1 ⟨rfl, rfl⟩)
  go_ret2
  exact ⟨ret_u0 HV.out, rfl⟩
theorem rdo_shr (a b : Nat) (ha : a < 18446744073709551616) : Calls Try.prog 41 #[.int .i64 10, .int .u64 (a : Int), .int .u64 (b : Int)] w fun e w' => e = .returned (.tuple #[.int .u64 (doV 10 a b : Nat), .int .i64 0]) ∧ w = w' := by
  have hk := Nat.mod_lt b (show 64 > 0 by decide)
  have h2 := Nat.two_pow_pos (b % 64)
  have PW := Lib.hid (fun w => pow_any (w := w) (b % 64) hk)
  have HV : Hid (IntKind.u64.wrap ((a : Int) / ((2 ^ (b % 64) : Nat) : Int)) = (doV 10 a b : Nat)) := Lib.hid (v_quo ha)
  generalize hq : 2 ^ (b % 64) = q at HV PW h2
  have hp : ¬ q = 0 := by omega
  clear hq h2
  have hw : IntKind.i64.wrap ((b : Int) % 64) = ((b % 64 : Nat) : Int) := i_wrap (b % 64) (by omega)
  clear hk
  clear ha
  go_enter Try.func41, Try.ntmps41
  go_wp2_with (go_at_call 43; refine (PW.out _).mono ?_; rintro e w1 ⟨rfl, rfl⟩)
  go_ret2
  exact ⟨ret_u0 HV.out, rfl⟩
/-- A shifted number with the copies of its sign below place j. -/
def sv (q P j : Nat) : Nat := q + (2 ^ j - P)
theorem sv_step (q k j : Nat) (hq : q < 2 ^ (64 - k)) (hj : 64 - k ≤ j) (h : j < 64) : IntKind.u64.wrap ((sv q (2 ^ (64 - k)) j : Int) + ((2 ^ j : Nat) : Int)) = ((sv q (2 ^ (64 - k)) (j + 1) : Nat) : Int) := by
  have h1 : 2 ^ (64 - k) ≤ 2 ^ j := Nat.pow_le_pow_right (by decide) hj
  have h2 : 2 ^ (j + 1) ≤ 2 ^ 64 := Nat.pow_le_pow_right (by decide) h
  have h3 : 2 ^ (j + 1) = 2 ^ j * 2 := Nat.pow_succ ..
  rw [IntKind.wrap_u64]
  unfold sv
  rw [h3] at h2 ⊢
  generalize 2 ^ j = x at h1 h2
  generalize 2 ^ (64 - k) = y at hq h1
  omega
theorem top_yes {a : Nat} (ha : a < 18446744073709551616) (h : 9223372036854775808 ≤ a) : a.testBit 63 = true := by
  rw [Nat.testBit_eq_decide_div_mod_eq, decide_eq_true_eq]; omega
theorem top_no {a : Nat} (h : ¬ 9223372036854775808 ≤ a) : a.testBit 63 = false := by
  rw [Nat.testBit_eq_decide_div_mod_eq, decide_eq_false_iff_not]; omega
theorem rdo_sar (a b : Nat) (ha : a < 18446744073709551616) : Calls Try.prog 41 #[.int .i64 11, .int .u64 (a : Int), .int .u64 (b : Int)] w fun e w' => e = .returned (.tuple #[.int .u64 (doV 11 a b : Nat), .int .i64 0]) ∧ w = w' := by
  have hk := Nat.mod_lt b (show 64 > 0 by decide)
  have h2 := Nat.two_pow_pos (b % 64)
  have PW := Lib.hid (fun w => pow_any (w := w) (b % 64) hk)
  have PJ := Lib.hid (fun w j hj => pow_any (w := w) j hj)
  have BT : Hid (∀ w : World, Calls Try.prog 51 #[.int .u64 (a : Int), .int .i64 63] w fun e w' => e = .returned (.bool (a.testBit 63)) ∧ w = w') := Lib.hid (fun w => bit_any (w := w) a 63 ha (by decide))
  have HQ := Lib.hid (div_lt ha hk)
  have HV := Lib.hid (v_quo (b := 2 ^ (b % 64)) ha)
  have hw : IntKind.i64.wrap ((b : Int) % 64) = ((b % 64 : Nat) : Int) := i_wrap (b % 64) (by omega)
  have e0 : wrap64 ((64 : Int) - ((b % 64 : Nat) : Int)) = ((64 - b % 64 : Nat) : Int) := by unfold wrap64; omega
  have HE := Lib.hid e0
  have HD : Hid (doV 11 a b = a / 2 ^ (b % 64) + if 9223372036854775808 ≤ a then 18446744073709551616 - 2 ^ (64 - b % 64) else 0) := Lib.hid rfl
  have HA := Lib.hid ha
  have HK := Lib.hid hk
  clear ha e0 hk
  generalize b % 64 = k at hw h2 PW HQ HV HE HD HK
  by_cases ht : 9223372036854775808 ≤ a
  · have HT := Lib.hid (top_yes HA.out ht)
    rw [HT.out] at BT
    rw [if_pos ht] at HD
    clear ht
    generalize 2 ^ k = p at PW HQ HV HD h2
    have hp : ¬ p = 0 := by omega
    clear h2
    go_enter Try.func41, Try.ntmps41
    go_wp2_with (go_at_call 43; (with_reducible refine (PW.out _).mono ?_); rintro e w1 ⟨rfl, rfl⟩)
    go_loop [9, 10] (fun v i => ∃ j : Nat, 64 - k ≤ j ∧ j ≤ 64 ∧ i = .int .i64 j ∧ v = .int .u64 ((sv (a / p) (2 ^ (64 - k)) j : Nat) : Int)) (fun _ i => 64 - (intOf i).toNat)
    case atStart => exact ⟨64 - k, Nat.le_refl _, by omega, by rw [HE.out], by rw [HV.out]; simp [sv]⟩
    case round =>
      obtain ⟨j, hj0, hj, rfl, rfl⟩ := hrel
      by_cases hlt : j < 64
      · have PP := Lib.hid (fun w => PJ.out w j hlt)
        have HS := Lib.hid (sv_step (a / p) k j HQ.out hj0 hlt)
        generalize 2 ^ j = x at PP HS
        generalize hs : sv (a / p) (2 ^ (64 - k)) j = s at HS
        clear hs
        go_wp2_with (first | (go_at_call 43; (with_reducible refine (PP.out _).mono ?_); rintro e w1 ⟨rfl, rfl⟩) | (go_at_call 51; (with_reducible refine (BT.out _).mono ?_); rintro e w1 ⟨rfl, rfl⟩))
        go_round
        case rel => exact ⟨j + 1, by omega, by omega, by go_num, by rw [← HS.out]⟩
        case measure => simp [intOf]; omega
      · obtain rfl : j = 64 := by omega
        have HR := Lib.hid (show sv (a / p) (2 ^ (64 - k)) 64 = doV 11 a b from HD.out.symm)
        clear hlt hj hj0
        go_wp2_with fail
        go_ret2
        exact ⟨ret_u0 (congrArg _ HR.out), rfl⟩
  · have HT := Lib.hid (top_no ht)
    rw [HT.out] at BT
    rw [if_neg ht, Nat.add_zero] at HD
    clear ht
    generalize 2 ^ k = p at PW HQ HV HD h2
    have hp : ¬ p = 0 := by omega
    clear h2
    go_enter Try.func41, Try.ntmps41
    go_wp2_with (go_at_call 43; (with_reducible refine (PW.out _).mono ?_); rintro e w1 ⟨rfl, rfl⟩)
    go_loop [9, 10] (fun v i => ∃ j : Nat, j ≤ 64 ∧ i = .int .i64 j ∧ v = .int .u64 ((doV 11 a b : Nat) : Int)) (fun _ i => 64 - (intOf i).toNat)
    case atStart => exact ⟨64 - k, by omega, by rw [HE.out], by rw [HV.out, HD.out]⟩
    case round =>
      obtain ⟨j, hj, rfl, rfl⟩ := hrel
      by_cases hlt : j < 64
      · go_wp2_with (go_at_call 51; (with_reducible refine (BT.out _).mono ?_); rintro e w1 ⟨rfl, rfl⟩)
        go_round
        case rel => exact ⟨j + 1, by omega, by go_num, rfl⟩
        case measure => simp [intOf]; omega
      · obtain rfl : j = 64 := by omega
        clear hlt hj
        go_wp2_with fail
        go_ret2
        exact ⟨rfl, rfl⟩
theorem rdo_any (op : Int) (a b : Nat) (ha : a < 18446744073709551616) (hb : b < 18446744073709551616) : Calls Try.prog 41 #[.int .i64 op, .int .u64 (a : Int), .int .u64 (b : Int)] w fun e w' => e = .returned (.tuple #[.int .u64 (doV op a b : Nat), .int .i64 (doE op)]) ∧ w = w' := by
  by_cases h : op < 1 ∨ 11 < op
  · have e1 : doV op a b = 0 := by
      unfold doV
      rw [if_neg (by omega), if_neg (by omega), if_neg (by omega), if_neg (by omega), if_neg (by omega), if_neg (by omega), if_neg (by omega), if_neg (by omega), if_neg (by omega), if_neg (by omega), if_neg (by omega)]
    have e2 : doE op = 1 := by unfold doE; rw [if_neg (by omega)]
    rw [e1, e2]
    exact rdo_no op a b h
  · rcases (show op = 1 ∨ op = 2 ∨ op = 3 ∨ op = 4 ∨ op = 5 ∨ op = 6 ∨ op = 7 ∨ op = 8 ∨ op = 9 ∨ op = 10 ∨ op = 11 by omega) with rfl | rfl | rfl | rfl | rfl | rfl | rfl | rfl | rfl | rfl | rfl
    · exact rdo_add a b
    · exact rdo_sub a b hb
    · exact rdo_mul a b
    · exact rdo_div a b ha
    · exact rdo_mod a b
    · exact rdo_and a b ha hb
    · exact rdo_or a b ha hb
    · exact rdo_xor a b ha hb
    · exact rdo_shl a b
    · exact rdo_shr a b ha
    · exact rdo_sar a b ha
end
end Go.Proofs.Ytfeobcmkbkaphaa
