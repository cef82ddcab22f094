/- The contracts of the document's Holds and Not. Conditions: the two numbers have at most 64 bits. -/
import Derived.Test.YticgehmpfgdbhaaDoorARef
import Derived.Test.YticgehmpfgdbhaaDoorAHolds
import Derived.Test.YticgehmpfgdbhaaDoorARDo
namespace Go.Proofs.YticgehmpfgdbhaaDoor
open Go.RowKit
set_option maxRecDepth 100000
section
variable {a b : Nat}
theorem r_ne : ((a : Int) != (b : Int)) = hdV 2 a b := h_ne
theorem r_gt : decide (b < a) = hdV 5 a b := by
  show _ = !decide (a ≤ b)
  rw [Bool.eq_iff_iff]; simp
theorem r_ge : decide (b ≤ a) = hdV 6 a b := by
  show _ = !decide (a < b)
  rw [Bool.eq_iff_iff]; simp
theorem r_slt (ha : a < 18446744073709551616) (hb : b < 18446744073709551616) : decide ((a + 9223372036854775808) % 18446744073709551616 < (b + 9223372036854775808) % 18446744073709551616) = hdV 7 a b := by
  show _ = decide (sgn a < sgn b)
  rw [Bool.eq_iff_iff, decide_eq_true_eq, decide_eq_true_eq]
  unfold sgn
  split <;> split <;> omega
theorem r_sge (ha : a < 18446744073709551616) (hb : b < 18446744073709551616) : decide ((b + 9223372036854775808) % 18446744073709551616 ≤ (a + 9223372036854775808) % 18446744073709551616) = hdV 8 a b := by
  show _ = !decide (sgn a < sgn b)
  rw [Bool.eq_iff_iff, decide_eq_true_eq]
  simp only [Bool.not_eq_true', decide_eq_false_iff_not]
  unfold sgn
  split <;> split <;> omega
theorem r_set : decide (0 < a &&& b) = hdV 9 a b := by
  show _ = decide (a &&& b ≠ 0)
  rw [Bool.eq_iff_iff, decide_eq_true_eq, decide_eq_true_eq]
  omega
end
section
variable {w : World}
theorem rholds_eq (a b : Nat) : Calls Tryd.prog 21 #[.int .i64 1, .int .u64 (a : Int), .int .u64 (b : Int)] w fun e w' => e = .returned (.tuple #[.bool (hdV 1 a b), .int .i64 0]) ∧ w = w' := by
  go_enter Tryd.func21, Tryd.ntmps21
  go_wp2_with fail
  go_ret2
  exact ⟨ret_b0 h_eq, rfl⟩
theorem rholds_ne (a b : Nat) : Calls Tryd.prog 21 #[.int .i64 2, .int .u64 (a : Int), .int .u64 (b : Int)] w fun e w' => e = .returned (.tuple #[.bool (hdV 2 a b), .int .i64 0]) ∧ w = w' := by
  go_enter Tryd.func21, Tryd.ntmps21
  go_wp2_with fail
  go_ret2
  exact ⟨ret_b0 r_ne, rfl⟩
theorem rholds_lt (a b : Nat) : Calls Tryd.prog 21 #[.int .i64 3, .int .u64 (a : Int), .int .u64 (b : Int)] w fun e w' => e = .returned (.tuple #[.bool (hdV 3 a b), .int .i64 0]) ∧ w = w' := by
  go_enter Tryd.func21, Tryd.ntmps21
  go_wp2_with fail
  go_ret2
  exact ⟨ret_b0 h_lt, rfl⟩
theorem rholds_le (a b : Nat) : Calls Tryd.prog 21 #[.int .i64 4, .int .u64 (a : Int), .int .u64 (b : Int)] w fun e w' => e = .returned (.tuple #[.bool (hdV 4 a b), .int .i64 0]) ∧ w = w' := by
  go_enter Tryd.func21, Tryd.ntmps21
  go_wp2_with fail
  go_ret2
  exact ⟨ret_b0 h_le, rfl⟩
theorem rholds_gt (a b : Nat) : Calls Tryd.prog 21 #[.int .i64 5, .int .u64 (a : Int), .int .u64 (b : Int)] w fun e w' => e = .returned (.tuple #[.bool (hdV 5 a b), .int .i64 0]) ∧ w = w' := by
  go_enter Tryd.func21, Tryd.ntmps21
  go_wp2_with fail
  go_ret2
  exact ⟨ret_b0 r_gt, rfl⟩
theorem rholds_ge (a b : Nat) : Calls Tryd.prog 21 #[.int .i64 6, .int .u64 (a : Int), .int .u64 (b : Int)] w fun e w' => e = .returned (.tuple #[.bool (hdV 6 a b), .int .i64 0]) ∧ w = w' := by
  go_enter Tryd.func21, Tryd.ntmps21
  go_wp2_with fail
  go_ret2
  exact ⟨ret_b0 r_ge, rfl⟩
theorem rholds_slt (a b : Nat) (ha : a < 18446744073709551616) (hb : b < 18446744073709551616) : Calls Tryd.prog 21 #[.int .i64 7, .int .u64 (a : Int), .int .u64 (b : Int)] w fun e w' => e = .returned (.tuple #[.bool (hdV 7 a b), .int .i64 0]) ∧ w = w' := by
  have TA := Lib.hid (fun w => turned_any (w := w) a ha)
  have TB := Lib.hid (fun w => turned_any (w := w) b hb)
  have HR := Lib.hid (r_slt ha hb)
  clear ha hb
  generalize (a + 9223372036854775808) % 18446744073709551616 = x at TA HR
  generalize (b + 9223372036854775808) % 18446744073709551616 = y at TB HR
  go_enter Tryd.func21, Tryd.ntmps21
  go_wp2_with (first | (go_at_call 29; (with_reducible refine (TA.out _).mono ?_); rintro e w1 ⟨rfl, rfl⟩) | (go_at_call 29; (with_reducible refine (TB.out _).mono ?_); rintro e w1 ⟨rfl, rfl⟩))
  go_ret2
  exact ⟨ret_b0 HR.out, rfl⟩
theorem rholds_sge (a b : Nat) (ha : a < 18446744073709551616) (hb : b < 18446744073709551616) : Calls Tryd.prog 21 #[.int .i64 8, .int .u64 (a : Int), .int .u64 (b : Int)] w fun e w' => e = .returned (.tuple #[.bool (hdV 8 a b), .int .i64 0]) ∧ w = w' := by
  have TA := Lib.hid (fun w => turned_any (w := w) a ha)
  have TB := Lib.hid (fun w => turned_any (w := w) b hb)
  have HR := Lib.hid (r_sge ha hb)
  clear ha hb
  generalize (a + 9223372036854775808) % 18446744073709551616 = x at TA HR
  generalize (b + 9223372036854775808) % 18446744073709551616 = y at TB HR
  go_enter Tryd.func21, Tryd.ntmps21
  go_wp2_with (first | (go_at_call 29; (with_reducible refine (TA.out _).mono ?_); rintro e w1 ⟨rfl, rfl⟩) | (go_at_call 29; (with_reducible refine (TB.out _).mono ?_); rintro e w1 ⟨rfl, rfl⟩))
  go_ret2
  exact ⟨ret_b0 HR.out, rfl⟩
theorem rholds_set (a b : Nat) (ha : a < 18446744073709551616) (hb : b < 18446744073709551616) : Calls Tryd.prog 21 #[.int .i64 9, .int .u64 (a : Int), .int .u64 (b : Int)] w fun e w' => e = .returned (.tuple #[.bool (hdV 9 a b), .int .i64 0]) ∧ w = w' := by
  have BT := Lib.hid (fun w => bits_any (w := w) a b false true ha hb)
  rw [bits_and ha] at BT
  clear ha hb
  go_enter Tryd.func21, Tryd.ntmps21
  go_wp2_with (go_at_call 30; refine (BT.out _).mono ?_; rintro e w1 ⟨rfl, rfl⟩)
  go_ret2
  exact ⟨ret_b0 r_set, rfl⟩
theorem rholds_no (c : Int) (a b : Nat) (h : c < 1 ∨ 9 < c) : Calls Tryd.prog 21 #[.int .i64 c, .int .u64 (a : Int), .int .u64 (b : Int)] w fun e w' => e = .returned (.tuple #[.bool false, .int .i64 1]) ∧ w = w' := by
  have n1 : (c == 1) = false := by simp; omega
  have n2 : (c == 2) = false := by simp; omega
  have n3 : (c == 3) = false := by simp; omega
  have n4 : (c == 4) = false := by simp; omega
  have n5 : (c == 5) = false := by simp; omega
  have n6 : (c == 6) = false := by simp; omega
  have n7 : (c == 7) = false := by simp; omega
  have n8 : (c == 8) = false := by simp; omega
  have n9 : (c == 9) = false := by simp; omega
  clear h
  go_enter Tryd.func21, Tryd.ntmps21
  go_wp2_with fail
  go_ret2
  exact ⟨rfl, rfl⟩
theorem rholds_any (c : Int) (a b : Nat) (ha : a < 18446744073709551616) (hb : b < 18446744073709551616) : Calls Tryd.prog 21 #[.int .i64 c, .int .u64 (a : Int), .int .u64 (b : Int)] w fun e w' => e = .returned (.tuple #[.bool (hdV c a b), .int .i64 (hdE c)]) ∧ w = w' := by
  by_cases h : c < 1 ∨ 9 < c
  · have e1 : hdV c a b = false := by
      unfold hdV
      rw [if_neg (by omega), if_neg (by omega), if_neg (by omega), if_neg (by omega), if_neg (by omega), if_neg (by omega), if_neg (by omega), if_neg (by omega), if_neg (by omega)]
    have e2 : hdE c = 1 := by unfold hdE; rw [if_neg (by omega)]
    rw [e1, e2]
    exact rholds_no c a b h
  · rcases (show c = 1 ∨ c = 2 ∨ c = 3 ∨ c = 4 ∨ c = 5 ∨ c = 6 ∨ c = 7 ∨ c = 8 ∨ c = 9 by omega) with rfl | rfl | rfl | rfl | rfl | rfl | rfl | rfl | rfl
    · exact rholds_eq a b
    · exact rholds_ne a b
    · exact rholds_lt a b
    · exact rholds_le a b
    · exact rholds_gt a b
    · exact rholds_ge a b
    · exact rholds_slt a b ha hb
    · exact rholds_sge a b ha hb
    · exact rholds_set a b ha hb
theorem rnot_no (c : Int) (h : c < 1 ∨ 8 < c) : Calls Tryd.prog 22 #[.int .i64 c] w fun e w' => e = .returned (.tuple #[.int .i64 0, .int .i64 1]) ∧ Below w.heap.size w w' := by
  rcases h with h | h
  · go_enter Tryd.func22, Tryd.ntmps22
    go_wp2_with fail
    go_ret2
    exact ⟨rfl, (Below.refl _ _).alloc (Nat.le_refl _) _⟩
  · have h0 : ¬ c < 1 := by omega
    go_enter Tryd.func22, Tryd.ntmps22
    go_wp2_with fail
    go_ret2
    exact ⟨rfl, (Below.refl _ _).alloc (Nat.le_refl _) _⟩
theorem rnot_yes (k : Nat) (hk : k < 9) (h0 : 0 < k) : Calls Tryd.prog 22 #[.int .i64 k] w fun e w' => e = .returned (.tuple #[.int .i64 (ntV k), .int .i64 0]) ∧ Below w.heap.size w w' := by
  rcases (show k = 1 ∨ k = 2 ∨ k = 3 ∨ k = 4 ∨ k = 5 ∨ k = 6 ∨ k = 7 ∨ k = 8 by omega) with rfl | rfl | rfl | rfl | rfl | rfl | rfl | rfl
  all_goals
    clear hk h0
    go_enter Tryd.func22, Tryd.ntmps22
    go_wp2_with fail
    go_ret2
    exact ⟨rfl, (Below.refl _ _).alloc (Nat.le_refl _) _⟩
theorem rnot_any (c : Int) : Calls Tryd.prog 22 #[.int .i64 c] w fun e w' => e = .returned (.tuple #[.int .i64 (ntV c), .int .i64 (ntE c)]) ∧ Below w.heap.size w w' := by
  by_cases h : c < 1 ∨ 8 < c
  · have e1 : ntV c = 0 := by
      unfold ntV
      rw [if_neg (by omega), if_neg (by omega), if_neg (by omega), if_neg (by omega), if_neg (by omega), if_neg (by omega), if_neg (by omega), if_neg (by omega)]
    have e2 : ntE c = 1 := by unfold ntE; rw [if_neg (by omega)]
    rw [e1, e2]
    exact rnot_no c h
  · obtain ⟨k, rfl⟩ := Int.eq_ofNat_of_zero_le (show 0 ≤ c by omega)
    have e2 : ntE (k : Int) = 0 := by unfold ntE; rw [if_pos (by omega)]
    rw [e2]
    exact rnot_yes k (by omega) (by omega)
end
end Go.Proofs.YticgehmpfgdbhaaDoor
