/- The contracts of alu.Holds and alu.Not. Conditions: the two numbers have at most 64 bits; Not's table lies in its block. -/
import Derived.Test.YticgehmpfgdbhaaDoorADo
namespace Go.Proofs.YticgehmpfgdbhaaDoor
open Go.RowKit
set_option maxRecDepth 100000
theorem ret_b0 {x y : Bool} (h : x = y) : Ending.returned (.tuple #[.bool x, .int .i64 0]) = .returned (.tuple #[.bool y, .int .i64 0]) := by rw [h]
theorem sgn_wrap {a : Nat} (h : a < 18446744073709551616) : wrap64 (a : Int) = sgn a := by unfold wrap64 sgn; split <;> omega
section
variable {a b : Nat}
theorem h_eq : ((a : Int) == (b : Int)) = hdV 1 a b := by
  show _ = decide (a = b)
  rw [Bool.eq_iff_iff]; simp; omega
theorem h_ne : (!(a : Int) == (b : Int)) = hdV 2 a b := by
  show _ = !decide (a = b)
  have := h_eq (a := a) (b := b)
  rw [this]; rfl
theorem h_lt : decide (a < b) = hdV 3 a b := rfl
theorem h_le : decide (a ≤ b) = hdV 4 a b := rfl
theorem h_gt : (!decide (a ≤ b)) = hdV 5 a b := rfl
theorem h_ge : (!decide (a < b)) = hdV 6 a b := rfl
section
variable (ha : a < 18446744073709551616) (hb : b < 18446744073709551616)
include ha hb
theorem h_slt : decide (wrap64 (a : Int) < wrap64 (b : Int)) = hdV 7 a b := by
  rw [sgn_wrap ha, sgn_wrap hb]; rfl
theorem h_sge : (!decide (wrap64 (a : Int) < wrap64 (b : Int))) = hdV 8 a b := by
  rw [sgn_wrap ha, sgn_wrap hb]; rfl
theorem h_set : (bits .and .u64 (a : Int) (b : Int) != 0) = hdV 9 a b := by
  rw [u64_and_nat a b ha hb]
  show _ = decide (a &&& b ≠ 0)
  rw [Bool.eq_iff_iff]; simp
end
end
section
variable {w : World}
theorem holds_eq (a b : Nat) : Calls Tryd.prog 13 #[.int .i64 1, .int .u64 (a : Int), .int .u64 (b : Int)] w fun e w' => e = .returned (.tuple #[.bool (hdV 1 a b), .int .i64 0]) ∧ w = w' := by
  go_enter Tryd.func13, Tryd.ntmps13
  go_wp2_with fail
  go_ret2
  exact ⟨ret_b0 h_eq, rfl⟩
theorem holds_ne (a b : Nat) : Calls Tryd.prog 13 #[.int .i64 2, .int .u64 (a : Int), .int .u64 (b : Int)] w fun e w' => e = .returned (.tuple #[.bool (hdV 2 a b), .int .i64 0]) ∧ w = w' := by
  go_enter Tryd.func13, Tryd.ntmps13
  go_wp2_with fail
  go_ret2
  exact ⟨ret_b0 h_ne, rfl⟩
theorem holds_lt (a b : Nat) : Calls Tryd.prog 13 #[.int .i64 3, .int .u64 (a : Int), .int .u64 (b : Int)] w fun e w' => e = .returned (.tuple #[.bool (hdV 3 a b), .int .i64 0]) ∧ w = w' := by
  go_enter Tryd.func13, Tryd.ntmps13
  go_wp2_with fail
  go_ret2
  exact ⟨ret_b0 h_lt, rfl⟩
theorem holds_le (a b : Nat) : Calls Tryd.prog 13 #[.int .i64 4, .int .u64 (a : Int), .int .u64 (b : Int)] w fun e w' => e = .returned (.tuple #[.bool (hdV 4 a b), .int .i64 0]) ∧ w = w' := by
  go_enter Tryd.func13, Tryd.ntmps13
  go_wp2_with fail
  go_ret2
  exact ⟨ret_b0 h_le, rfl⟩
theorem holds_gt (a b : Nat) : Calls Tryd.prog 13 #[.int .i64 5, .int .u64 (a : Int), .int .u64 (b : Int)] w fun e w' => e = .returned (.tuple #[.bool (hdV 5 a b), .int .i64 0]) ∧ w = w' := by
  go_enter Tryd.func13, Tryd.ntmps13
  go_wp2_with fail
  go_ret2
  exact ⟨ret_b0 h_gt, rfl⟩
theorem holds_ge (a b : Nat) : Calls Tryd.prog 13 #[.int .i64 6, .int .u64 (a : Int), .int .u64 (b : Int)] w fun e w' => e = .returned (.tuple #[.bool (hdV 6 a b), .int .i64 0]) ∧ w = w' := by
  go_enter Tryd.func13, Tryd.ntmps13
  go_wp2_with fail
  go_ret2
  exact ⟨ret_b0 h_ge, rfl⟩
theorem holds_slt (a b : Nat) (ha : a < 18446744073709551616) (hb : b < 18446744073709551616) : Calls Tryd.prog 13 #[.int .i64 7, .int .u64 (a : Int), .int .u64 (b : Int)] w fun e w' => e = .returned (.tuple #[.bool (hdV 7 a b), .int .i64 0]) ∧ w = w' := by
  have HA := Lib.hid ha
  have HB := Lib.hid hb
  clear ha hb
  go_enter Tryd.func13, Tryd.ntmps13
  go_wp2_with fail
  go_ret2
  exact ⟨ret_b0 (h_slt HA.out HB.out), rfl⟩
theorem holds_sge (a b : Nat) (ha : a < 18446744073709551616) (hb : b < 18446744073709551616) : Calls Tryd.prog 13 #[.int .i64 8, .int .u64 (a : Int), .int .u64 (b : Int)] w fun e w' => e = .returned (.tuple #[.bool (hdV 8 a b), .int .i64 0]) ∧ w = w' := by
  have HA := Lib.hid ha
  have HB := Lib.hid hb
  clear ha hb
  go_enter Tryd.func13, Tryd.ntmps13
  go_wp2_with fail
  go_ret2
  exact ⟨ret_b0 (h_sge HA.out HB.out), rfl⟩
theorem holds_set (a b : Nat) (ha : a < 18446744073709551616) (hb : b < 18446744073709551616) : Calls Tryd.prog 13 #[.int .i64 9, .int .u64 (a : Int), .int .u64 (b : Int)] w fun e w' => e = .returned (.tuple #[.bool (hdV 9 a b), .int .i64 0]) ∧ w = w' := by
  have HA := Lib.hid ha
  have HB := Lib.hid hb
  clear ha hb
  go_enter Tryd.func13, Tryd.ntmps13
  go_wp2_with fail
  go_ret2
  exact ⟨ret_b0 (h_set HA.out HB.out), rfl⟩
theorem holds_no (c : Int) (a b : Nat) (h : c < 1 ∨ 9 < c) : Calls Tryd.prog 13 #[.int .i64 c, .int .u64 (a : Int), .int .u64 (b : Int)] w fun e w' => e = .returned (.tuple #[.bool false, .int .i64 1]) ∧ w = w' := by
  have n1 : (c == 1) = false := by simp; omega
  have n2 : (c == 2) = false := by simp; omega
  have n3 : (c == 3) = false := by simp; omega
  have n4 : (c == 4) = false := by simp; omega
  have n5 : (c == 5) = false := by simp; omega
  have n6 : (c == 6) = false := by simp; omega
  have n7 : (c == 7) = false := by simp; omega
  have n8 : (c == 8) = false := by simp; omega
  have n9 : (c == 9) = false := by simp; omega
  clear h
  go_enter Tryd.func13, Tryd.ntmps13
  go_wp2_with fail
  go_ret2
  exact ⟨rfl, rfl⟩
theorem holds_any (c : Int) (a b : Nat) (ha : a < 18446744073709551616) (hb : b < 18446744073709551616) : Calls Tryd.prog 13 #[.int .i64 c, .int .u64 (a : Int), .int .u64 (b : Int)] w fun e w' => e = .returned (.tuple #[.bool (hdV c a b), .int .i64 (hdE c)]) ∧ w = w' := by
  by_cases h : c < 1 ∨ 9 < c
  · have e1 : hdV c a b = false := by
      unfold hdV
      rw [if_neg (by omega), if_neg (by omega), if_neg (by omega), if_neg (by omega), if_neg (by omega), if_neg (by omega), if_neg (by omega), if_neg (by omega), if_neg (by omega)]
    have e2 : hdE c = 1 := by unfold hdE; rw [if_neg (by omega)]
    rw [e1, e2]
    exact holds_no c a b h
  · rcases (show c = 1 ∨ c = 2 ∨ c = 3 ∨ c = 4 ∨ c = 5 ∨ c = 6 ∨ c = 7 ∨ c = 8 ∨ c = 9 by omega) with rfl | rfl | rfl | rfl | rfl | rfl | rfl | rfl | rfl
    · exact holds_eq a b
    · exact holds_ne a b
    · exact holds_lt a b
    · exact holds_le a b
    · exact holds_gt a b
    · exact holds_ge a b
    · exact holds_slt a b ha hb
    · exact holds_sge a b ha hb
    · exact holds_set a b ha hb
/-- Not's table lies in its block. -/
def Nots (w : World) : Prop := ∃ t fr, w.heap[0]? = some (.cells #[.int .i64 0, .int .i64 2, .int .i64 1, .int .i64 6, .int .i64 5, .int .i64 4, .int .i64 3, .int .i64 8, .int .i64 7] t fr)
theorem Nots.at {w : World} (h : Nots w) (j : Nat) : w.cell? ⟨0, j, none⟩ = (#[Value.int .i64 0, .int .i64 2, .int .i64 1, .int .i64 6, .int .i64 5, .int .i64 4, .int .i64 3, .int .i64 8, .int .i64 7] : Array Value)[j]? := by
  obtain ⟨t, fr, h⟩ := h
  exact cell_of_row w _ j _ t fr h
theorem Nots.lt {w : World} (h : Nots w) : 0 < w.heap.size := by
  obtain ⟨t, fr, e⟩ := h
  exact (Array.getElem?_eq_some_iff.1 e).1
theorem Nots.below {B : Nat} {w w' : World} (h : Nots w) (hb : Below B w w') (hB : 0 < B) : Nots w' := by
  obtain ⟨t, fr, e⟩ := h
  exact ⟨t, fr, (hb.block _ hB).trans e⟩
theorem not_no (c : Int) (h : c < 1 ∨ 8 < c) : Calls Tryd.prog 18 #[.int .i64 c] w fun e w' => e = .returned (.tuple #[.int .i64 0, .int .i64 1]) ∧ w = w' := by
  rcases h with h | h
  · go_enter Tryd.func18, Tryd.ntmps18
    go_wp2_with fail
    go_ret2
    exact ⟨rfl, rfl⟩
  · have h0 : ¬ c < 1 := by omega
    go_enter Tryd.func18, Tryd.ntmps18
    go_wp2_with fail
    go_ret2
    exact ⟨rfl, rfl⟩
theorem not_yes (k : Nat) (hk : k < 9) (h0 : 0 < k) (T : Hid (Nots w)) : Calls Tryd.prog 18 #[.int .i64 k] w fun e w' => e = .returned (.tuple #[.int .i64 (ntV k), .int .i64 0]) ∧ w = w' := by
  have hc := T.out.at k
  rcases (show k = 1 ∨ k = 2 ∨ k = 3 ∨ k = 4 ∨ k = 5 ∨ k = 6 ∨ k = 7 ∨ k = 8 by omega) with rfl | rfl | rfl | rfl | rfl | rfl | rfl | rfl
  all_goals
    clear hk h0
    simp at hc
    go_enter Tryd.func18, Tryd.ntmps18
    go_wp2_with fail
    go_ret2
    exact ⟨rfl, rfl⟩
theorem not_any (c : Int) (T : Hid (Nots w)) : Calls Tryd.prog 18 #[.int .i64 c] w fun e w' => e = .returned (.tuple #[.int .i64 (ntV c), .int .i64 (ntE c)]) ∧ w = w' := by
  by_cases h : c < 1 ∨ 8 < c
  · have e1 : ntV c = 0 := by
      unfold ntV
      rw [if_neg (by omega), if_neg (by omega), if_neg (by omega), if_neg (by omega), if_neg (by omega), if_neg (by omega), if_neg (by omega), if_neg (by omega)]
    have e2 : ntE c = 1 := by unfold ntE; rw [if_neg (by omega)]
    rw [e1, e2]
    exact not_no c h
  · obtain ⟨k, rfl⟩ := Int.eq_ofNat_of_zero_le (show 0 ≤ c by omega)
    have e2 : ntE (k : Int) = 0 := by unfold ntE; rw [if_pos (by omega)]
    rw [e2]
    exact not_yes k (by omega) (by omega) T
end
end Go.Proofs.YticgehmpfgdbhaaDoor
