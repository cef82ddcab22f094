/- The document's examples hold: the contract of the statements' shown. Condition: the tables lie in their blocks. -/
import Derived.Test.YtcedjjolikmbbaaDoorIRead
import Derived.Test.YtcedjjolikmbbaaDoorITwice2
namespace Go.Proofs.YtcedjjolikmbbaaDoor
open Go.RowKit
set_option maxRecDepth 100000
set_option maxHeartbeats 4000000

theorem ck_a : ck ⟨7, 1, 0, 1, 3⟩ = 0 := by decide +kernel
theorem ck_b : ck ⟨12, 1, 2, 0, 5⟩ = 0 := by decide +kernel
theorem ck_c : ck ⟨5, 0, 0, 0, 0⟩ = 4 := by decide +kernel
theorem ck_d : ck ⟨1, 0, 0, 1, 0⟩ = 1 := by decide +kernel
theorem tx_a : tx ⟨7, 1, 0, 1, 3⟩ = [106, 101, 113, 105, 32, 114, 49, 32, 48, 32, 43, 51] := by
  have d0 : Lib.decDigits 0 = [48] := Lib.decDigits_one (by omega)
  have d1 : Lib.decDigits 1 = [49] := Lib.decDigits_one (by omega)
  have d3 : Lib.decDigits 3 = [51] := Lib.decDigits_one (by omega)
  unfold tx
  rw [if_pos ck_a]
  simp [rowN, rowsN, txL, hw, fwF, fw, wd, signN, signT, opAt, condT, d0, d1, d3]
theorem tx_b : tx ⟨12, 1, 2, 0, 5⟩ = [112, 117, 116, 32, 114, 50, 32, 102, 48, 32, 53, 32, 114, 49] := by
  have d0 : Lib.decDigits 0 = [48] := Lib.decDigits_one (by omega)
  have d1 : Lib.decDigits 1 = [49] := Lib.decDigits_one (by omega)
  have d2 : Lib.decDigits 2 = [50] := Lib.decDigits_one (by omega)
  have d5 : Lib.decDigits 5 = [53] := Lib.decDigits_one (by omega)
  unfold tx
  rw [if_pos ck_b]
  simp [rowN, rowsN, txL, hw, fwF, fw, wd, signN, signT, opAt, opsT, d0, d1, d2, d5]
theorem rd_b : rd [112, 117, 116, 32, 114, 50, 32, 102, 48, 32, 53, 32, 114, 49] = some ⟨12, 1, 2, 0, 5⟩ := by
  rw [← tx_b]
  exact rd_tx (by simp [In.ok]) ck_b
theorem rdV_b : rdV [112, 117, 116, 32, 114, 50, 32, 102, 48, 32, 53, 32, 114, 49] = ⟨12, 1, 2, 0, 5⟩ := by unfold rdV; rw [rd_b]; rfl
theorem rdE_b : rdE [112, 117, 116, 32, 114, 50, 32, 102, 48, 32, 53, 32, 114, 49] = 0 := by unfold rdE; rw [rd_b]; rfl
section
variable {w : World}
theorem text_a (T : Hid (Tabs w)) : Calls Tryd.prog 11 #[.agg #[.int .u8 7, .int .u8 1, .int .u8 0, .int .u8 1, .int .u32 3]] w fun e w' => e = .returned (.tuple #[.string ⟨#[106, 101, 113, 105, 32, 114, 49, 32, 48, 32, 43, 51]⟩, .int .i64 0]) ∧ Below w.heap.size w w' := by
  have h := text_any T ⟨7, 1, 0, 1, 3⟩ (by simp [In.ok])
  rw [tx_a, ck_a] at h
  exact h
theorem read_b (T : Hid (Tabs w)) : Calls Tryd.prog 15 #[.string ⟨#[112, 117, 116, 32, 114, 50, 32, 102, 48, 32, 53, 32, 114, 49]⟩] w fun e w' => e = .returned (.tuple #[.agg #[.int .u8 12, .int .u8 1, .int .u8 2, .int .u8 0, .int .u32 5], .int .i64 0]) ∧ Below w.heap.size w w' := by
  have h := read_any T [112, 117, 116, 32, 114, 50, 32, 102, 48, 32, 53, 32, 114, 49] (by simp)
  rw [rdV_b, rdE_b] at h
  exact h
theorem check_c (T : Hid (Tabs w)) : Calls Tryd.prog 13 #[.agg #[.int .u8 5, .int .u8 0, .int .u8 0, .int .u8 0, .int .u32 0]] w fun e w' => e = .returned (.int .i64 4) ∧ Below w.heap.size w w' := by
  have h := check_any T ⟨5, 0, 0, 0, 0⟩ (by simp [In.ok])
  rw [ck_c] at h
  exact h
theorem check_d (T : Hid (Tabs w)) : Calls Tryd.prog 13 #[.agg #[.int .u8 1, .int .u8 0, .int .u8 0, .int .u8 1, .int .u32 0]] w fun e w' => e = .returned (.int .i64 1) ∧ Below w.heap.size w w' := by
  have h := check_any T ⟨1, 0, 0, 1, 0⟩ (by simp [In.ok])
  rw [ck_d] at h
  exact h
theorem shown_any (T : Hid (Tabs w)) : Calls Tryd.prog 10 #[] w fun e w' => e = .returned (.bool true) ∧ Below w.heap.size w w' := by
  go_enter Tryd.func10, Tryd.ntmps10
  go_wp2_with (first
    | (go_at_call 11; refine (text_a T).mono ?_; rintro e w1 ⟨rfl, hb1⟩; have X1 := Lib.hid hb1; have T1 := Lib.hid (T.out.out hb1); clear hb1))
  go_wp2_with (go_at_call 15; refine (read_b T1).mono ?_; rintro e w2 ⟨rfl, hb2⟩; have X2 := Lib.hid (X1.out.trans (hb2.mono X1.out.size)); have X3 := Lib.hid (X2.out.alloc X2.out.size (Obj.cells #[.int .u8 12, .int .u8 1, .int .u8 2, .int .u8 0, .int .u32 5] 24)); have T3 := Lib.hid (T.out.out X3.out); clear hb2)
  go_wp2_with (go_at_call 13; refine (check_c T3).mono ?_; rintro e w4 ⟨rfl, hb4⟩; have X4 := Lib.hid (X3.out.trans (hb4.mono X3.out.size)); have T4 := Lib.hid (T.out.out X4.out); clear hb4 T3)
  go_wp2_with (go_at_call 13; refine (check_d T4).mono ?_; rintro e w5 ⟨rfl, hb5⟩; have X5 := Lib.hid (X4.out.trans (hb5.mono X4.out.size)); clear hb5)
  go_ret
  exact ⟨rfl, X5.out⟩
end
end Go.Proofs.YtcedjjolikmbbaaDoor
