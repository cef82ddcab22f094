/- The contracts of the small functions: inFirstWord, hasWord, inRange, operandAt, withOperand. Condition: the tables lie in their blocks. -/
import Derived.Test.YtcedjjolikmbbaaDoorIWords
import Derived.Handy
namespace Go.Proofs.YtcedjjolikmbbaaDoor
open Go.RowKit
set_option maxRecDepth 100000

theorem run_ix0 {w : World} (v0 v1 v2 v3 v4 v5 v6 v7 : Value) : (Instr.index 53 (.agg #[v0, v1, v2, v3, v4, v5, v6, v7]) (.int .i64 0)).run Tryd.prog w = .ok (.agg #[v0, v1]) w := by
  simp [Instr.index, run_underlying Tryd.underlying53, asIntOf, go_sem]
theorem run_ix1 {w : World} (v0 v1 v2 v3 v4 v5 v6 v7 : Value) : (Instr.index 53 (.agg #[v0, v1, v2, v3, v4, v5, v6, v7]) (.int .i64 1)).run Tryd.prog w = .ok (.agg #[v2, v3]) w := by
  simp [Instr.index, run_underlying Tryd.underlying53, asIntOf, go_sem]
theorem run_ix2 {w : World} (v0 v1 v2 v3 v4 v5 v6 v7 : Value) : (Instr.index 53 (.agg #[v0, v1, v2, v3, v4, v5, v6, v7]) (.int .i64 2)).run Tryd.prog w = .ok (.agg #[v4, v5]) w := by
  simp [Instr.index, run_underlying Tryd.underlying53, asIntOf, go_sem]
theorem run_ix3 {w : World} (v0 v1 v2 v3 v4 v5 v6 v7 : Value) : (Instr.index 53 (.agg #[v0, v1, v2, v3, v4, v5, v6, v7]) (.int .i64 3)).run Tryd.prog w = .ok (.agg #[v6, v7]) w := by
  simp [Instr.index, run_underlying Tryd.underlying53, asIntOf, go_sem]
section
variable {w : World}
theorem inFirst_any (f : Nat) : Calls Tryd.prog 40 #[.int .u8 (f : Int)] w fun e w' => e = .returned (.bool (fwF f)) ∧ w' = w := by
  by_cases h7 : f = 7
  · subst h7
    go_enter Tryd.func40, Tryd.ntmps40
    go_wp2_with fail
    go_ret
    exact ⟨rfl, rfl⟩
  · by_cases h8 : f = 8
    · subst h8
      go_enter Tryd.func40, Tryd.ntmps40
      go_wp2_with fail
      go_ret
      exact ⟨rfl, rfl⟩
    · have n7 : ((f : Int) == 7) = false := by simp; omega
      have n8 : ((f : Int) == 8) = false := by simp; omega
      have HL := Lib.hid (show fwF f = false by simp [fwF]; omega)
      clear h7 h8
      go_enter Tryd.func40, Tryd.ntmps40
      go_wp2_with fail
      go_ret
      rw [HL.out]
      exact ⟨rfl, rfl⟩
theorem hasWord_any (p f : Nat) : Calls Tryd.prog 23 #[.agg #[.int .u8 (p : Int), .int .u8 (f : Int)]] w fun e w' => e = .returned (.bool (hw p f)) ∧ Below w.heap.size w w' := by
  by_cases hp : p = 0
  · subst hp
    have HL := Lib.hid (show hw 0 f = false by simp [hw])
    go_enter Tryd.func23, Tryd.ntmps23
    go_wp2_with fail
    go_ret
    rw [HL.out]
    refine ⟨rfl, ?_⟩
    (repeat' (first | exact Below.refl _ _ | assumption | (refine Below.alloc ?_ (by (try simp) <;> omega) _)))
  · have n0 : ((p : Int) == 0) = false := by simp; omega
    have HL := Lib.hid (show hw p f = ((p : Int) != 0 && !fwF f) by have e : ((p : Int) != 0) = true := by { simp [hp] }; simp [hw, hp, e])
    go_enter Tryd.func23, Tryd.ntmps23
    go_wp2_with (go_at_call 40; refine (inFirst_any f).mono ?_; rintro e w1 ⟨rfl, rfl⟩)
    go_ret
    rw [HL.out]
    refine ⟨rfl, ?_⟩
    (repeat' (first | exact Below.refl _ _ | assumption | (refine Below.alloc ?_ (by (try simp) <;> omega) _)))
theorem inRange_any (T : Hid (Tabs w)) (f v : Nat) (hf : f < 10) : Calls Tryd.prog 30 #[.int .u8 (f : Int), .int .u32 (v : Int)] w fun e w' => e = .returned (.bool (inR f v)) ∧ w' = w := by
  obtain ⟨c0, c1, c2⟩ := T.out.forms f hf
  by_cases h1 : lowN f ≤ v
  · have g1 : decide ((lowN f : Int) ≤ v) = true := by simp; omega
    have HL := Lib.hid (show inR f v = decide (v ≤ highN f) by simp [inR, h1])
    have hf' : (f : Int) < 10 := by omega
    go_enter Tryd.func30, Tryd.ntmps30
    go_wp2_with fail
    go_ret
    rw [HL.out]
    exact ⟨rfl, rfl⟩
  · have g1 : decide ((lowN f : Int) ≤ v) = false := by simp; omega
    have HL := Lib.hid (show inR f v = false by simp [inR, h1])
    have hf' : (f : Int) < 10 := by omega
    go_enter Tryd.func30, Tryd.ntmps30
    go_wp2_with fail
    go_ret
    rw [HL.out]
    exact ⟨rfl, rfl⟩
theorem operandAt_any (i : In) (hi : i.ok) (p : Nat) (hp : p < 5) : Calls Tryd.prog 25 #[iv i, .int .u8 (p : Int)] w fun e w' => e = .returned (.int .u32 (opAt i p : Int)) ∧ Below w.heap.size w w' := by
  obtain ⟨op, a, b, c, im⟩ := i
  obtain ⟨_, ha, hb, hc, _⟩ := hi
  simp only at ha hb hc
  unfold iv
  have wa := w32 a (by omega)
  have wb := w32 b (by omega)
  have wc := w32 c (by omega)
  rcases (show p = 0 ∨ p = 1 ∨ p = 2 ∨ p = 3 ∨ p = 4 by omega) with rfl | rfl | rfl | rfl | rfl
  all_goals
    go_enter Tryd.func25, Tryd.ntmps25
    go_wp2_with fail
    go_ret
    refine ⟨rfl, ?_⟩
    (repeat' (first | exact Below.refl _ _ | assumption | (refine Below.alloc ?_ (by (try simp) <;> omega) _)))
theorem withOperand_any (i : In) (p v : Nat) (hp : p < 5) : Calls Tryd.prog 31 #[iv i, .int .u8 (p : Int), .int .u32 (v : Int)] w fun e w' => e = .returned (iv (wOp i p v)) ∧ Below w.heap.size w w' := by
  obtain ⟨op, a, b, c, im⟩ := i
  unfold iv
  have wv := w8 v
  rcases (show p = 0 ∨ p = 1 ∨ p = 2 ∨ p = 3 ∨ p = 4 by omega) with rfl | rfl | rfl | rfl | rfl
  all_goals
    go_enter Tryd.func31, Tryd.ntmps31
    go_wp2_with fail
    go_returns
    refine ⟨rfl, ?_⟩
    (repeat' (first | exact Below.refl _ _ | assumption | (refine Below.setCell ?_ (by (try simp) <;> omega) _) | (refine Below.alloc ?_ (by (try simp) <;> omega) _)))
end
end Go.Proofs.YtcedjjolikmbbaaDoor
