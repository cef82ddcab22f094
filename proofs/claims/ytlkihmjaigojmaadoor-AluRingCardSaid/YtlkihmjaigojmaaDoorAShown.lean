/- The contracts of the laws' own do and of the document's examples ('shown'). Condition: Not's table lies in its block. -/
import Derived.Test.YtlkihmjaigojmaaDoorAHolds
import Derived.OpenShut
namespace Go.Proofs.YtlkihmjaigojmaaDoor
open Go.RowKit
set_option maxRecDepth 100000
theorem nat_u64 {n : Int} (h : (Lit.int .u64 n).wf = true) : ∃ a : Nat, n = a ∧ a < 18446744073709551616 := by
  have := Go.bounds_u64 h
  exact ⟨n.toNat, by omega, by omega⟩
theorem nat_u8 {n : Int} (h : (Lit.int .u8 n).wf = true) : ∃ a : Nat, n = a ∧ a < 256 := by
  have := Go.bounds_u8 h
  exact ⟨n.toNat, by omega, by omega⟩
section
variable {w : World}
theorem shown_any (T : Hid (Nots w)) : Calls Tryd.prog 10 #[] w fun e w' => e = .returned (.bool true) ∧ w = w' := by
  have C1 : Hid (Calls Tryd.prog 11 #[.int .i64 5, .int .u64 7, .int .u64 0] w fun e w' => e = .returned (.tuple #[.int .u64 7, .int .i64 0]) ∧ w = w') := Lib.hid (do_any 5 7 0 (by decide) (by decide))
  have C2 : Hid (Calls Tryd.prog 11 #[.int .i64 11, .int .u64 9223372036854775808, .int .u64 65] w fun e w' => e = .returned (.tuple #[.int .u64 13835058055282163712, .int .i64 0]) ∧ w = w') := Lib.hid (do_any 11 9223372036854775808 65 (by decide) (by decide))
  have C3 : Hid (Calls Tryd.prog 13 #[.int .i64 7, .int .u64 18446744073709551615, .int .u64 0] w fun e w' => e = .returned (.tuple #[.bool true, .int .i64 0]) ∧ w = w') := Lib.hid (holds_any 7 18446744073709551615 0 (by decide) (by decide))
  have C4 : Hid (Calls Tryd.prog 15 #[.int .i64 3] w fun e w' => e = .returned (.tuple #[.int .i64 6, .int .i64 0]) ∧ w = w') := Lib.hid (not_any 3 T)
  go_enter Tryd.func10, Tryd.ntmps10
  go_wp2_with (first
    | (go_at_call 11; (with_reducible refine C1.out.mono ?_); rintro e w1 ⟨rfl, rfl⟩)
    | (go_at_call 11; (with_reducible refine C2.out.mono ?_); rintro e w1 ⟨rfl, rfl⟩)
    | (go_at_call 13; (with_reducible refine C3.out.mono ?_); rintro e w1 ⟨rfl, rfl⟩)
    | (go_at_call 15; (with_reducible refine C4.out.mono ?_); rintro e w1 ⟨rfl, rfl⟩))
  go_ret
  exact ⟨rfl, rfl⟩
theorem dow_any (op : Int) (a b : Nat) (h : 1 ≤ op ∧ op ≤ 11) (ha : a < 18446744073709551616) (hb : b < 18446744073709551616) :
    Calls Tryd.prog 17 #[.int .i64 op, .int .u64 (a : Int), .int .u64 (b : Int)] w fun e w' => e = .returned (.int .u64 (doV op a b : Nat)) ∧ w = w' := by
  have C := Lib.hid (do_any (w := w) op a b ha hb)
  rw [show doE op = 0 by unfold doE; rw [if_pos h]] at C
  clear ha hb h
  generalize doV op a b = v at C
  go_enter Tryd.func17, Tryd.ntmps17
  go_wp2_with (go_at_call 11; (with_reducible refine C.out.mono ?_); rintro e w1 ⟨rfl, rfl⟩)
  go_ret
  exact ⟨rfl, rfl⟩
/-- One call of the laws' own do: the answer under a name. -/
abbrev Dw (w : World) (op : Int) (a b v : Nat) : Prop := Hid (Calls Tryd.prog 17 #[.int .i64 op, .int .u64 (a : Int), .int .u64 (b : Int)] w fun e w' => e = .returned (.int .u64 (v : Nat)) ∧ w = w')
theorem dw_new (w : World) (op : Int) (a b : Nat) (h : 1 ≤ op ∧ op ≤ 11) (ha : a < 18446744073709551616) (hb : b < 18446744073709551616) : ∃ v, v < 18446744073709551616 ∧ v = doV op a b ∧ Dw w op a b v :=
  ⟨_, doV_lt op ha hb, rfl, Lib.hid (dow_any op a b h ha hb)⟩
theorem dw_is (w : World) (op : Int) (a b : Nat) (h : 1 ≤ op ∧ op ≤ 11) (ha : a < 18446744073709551616) (hb : b < 18446744073709551616) {v : Nat} (e : doV op a b = v) : Dw w op a b v := by
  have := dow_any (w := w) op a b h ha hb
  rw [e] at this
  exact Lib.hid this
end
end Go.Proofs.YtlkihmjaigojmaaDoor
