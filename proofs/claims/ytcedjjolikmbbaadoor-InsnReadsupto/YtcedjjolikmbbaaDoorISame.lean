/- The contract of the statements' same, of equal lists. Condition: the instructions can be read. -/
import Derived.Test.YtcedjjolikmbbaaDoorIRows
import Derived.Handy
import Derived.Deep.QuietTactic
import Derived.BigQuiet
namespace Go.Proofs.YtcedjjolikmbbaaDoor
open Go.RowKit
set_option maxRecDepth 100000
set_option maxHeartbeats 1000000
theorem bel_drewN {B : Nat} {a w : World} (h : Below B a w) (n : Nat) : Below B a (w.drewN n) := h.trans ⟨rfl, rfl, rfl, Nat.le_refl _, fun _ _ => rfl⟩
section
variable {w : World}
theorem same6_any (A : Option Addr) (k c : Nat) (A' : Option Addr) (c' : Nat) (l : List In) (h : Ri w A k c l) (h' : Ri w A' k c' l) : Calls Tryd.prog 19 #[.slice A k c, .slice A' k c'] w fun e w' => e = .returned (.bool true) ∧ Below w.heap.size w w' := by
  have hmx := h.max
  have hle := h.le
  have R1 := Lib.hid h
  have R2 := Lib.hid h'
  clear h h'
  go_enter Tryd.func19, Tryd.ntmps19
  go_wp2_with fail
  go_loopw [5] (fun q wr => ∃ j : Nat, j ≤ k ∧ q = .int .i64 j ∧ Hid (Below w.heap.size w wr)) (fun q _ => k - (intOf q).toNat)
  case atStart => exact ⟨0, by omega, rfl, Below.refl _ _⟩
  case round =>
    obtain ⟨j, hj, rfl, HW⟩ := hrel
    by_cases hjk : j < k
    · have hjk' : (j : Int) < k := by omega
      have wj : IntKind.i64.wrap ((j : Int) + 1) = ((j + 1 : Nat) : Int) := by rw [show (j : Int) + 1 = ((j + 1 : Nat) : Int) by omega]; exact w64 _ (by omega)
      obtain ⟨b, o, f, rfl, HF, hok, hb, c0, c1, c2, c3, c4⟩ := (R1.out.below HW.out (Nat.le_refl _)).at j hjk
      obtain ⟨b2, o2, f2, rfl, HF2, hok2, hb2, d0, d1, d2, d3, d4⟩ := (R2.out.below HW.out (Nat.le_refl _)).at j hjk
      obtain rfl : f = f2 := Option.some.inj (HF.out.symm.trans HF2.out)
      have HWD := Lib.hid (show Below w.heap.size w wr.drew from HW.out.drew)
      clear hok hok2
      go_wp2_with fail
      go_quiet (fail)
      go_wp2_with fail
      go_roundw
      case rel => exact ⟨j + 1, by omega, by go_num, by first | exact HWD.out | exact bel_drewN HW.out _⟩
      case measure => simp [intOf]; omega
    · obtain rfl : j = k := by omega
      go_wp2_with fail
      go_ret
      exact ⟨rfl, HW.out⟩
end
end Go.Proofs.YtcedjjolikmbbaaDoor
