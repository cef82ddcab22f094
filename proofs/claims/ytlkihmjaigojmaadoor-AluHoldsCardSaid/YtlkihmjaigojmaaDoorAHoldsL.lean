/- The walk of AluHolds: it returns true, and nothing that was there has turned. Conditions: the numbers have at most 64 bits; Not's table lies in its block. -/
import Derived.Test.YtlkihmjaigojmaaDoorAShown
import Derived.Test.YtlkihmjaigojmaaDoorARHolds
namespace Go.Proofs.YtlkihmjaigojmaaDoor
open Go.RowKit
set_option maxRecDepth 100000
theorem holds7_nat (c : Int) (a b : Nat) (ha : a < 18446744073709551616) (hb : b < 18446744073709551616) (w : World) (T : Hid (Nots w)) :
    Calls Tryd.prog 4 #[.int .i64 c, .int .u64 (a : Int), .int .u64 (b : Int)] w fun e w' => e = .returned (.bool true) ∧ Below w.heap.size w w' := by
  have SH := Lib.hid (shown_any T)
  have C1 := Lib.hid (holds_any (w := w) c a b ha hb)
  have C2 := Lib.hid (rholds_any (w := w) c a b ha hb)
  have C3 := Lib.hid (not_any c T)
  have C4 := Lib.hid (rnot_any (w := w) c)
  clear ha hb
  generalize hdV c a b = v at C1 C2
  generalize hdE c = x at C1 C2
  generalize ntV c = n at C3 C4
  generalize ntE c = y at C3 C4
  cases v
  all_goals
    go_enter Tryd.func4, Tryd.ntmps4
    go_wp2_with (first
      | (go_at_call 10; (with_reducible refine SH.out.mono ?_); rintro e w1 ⟨rfl, rfl⟩)
      | (go_at_call 13; (with_reducible refine C1.out.mono ?_); rintro e w1 ⟨rfl, rfl⟩)
      | (go_at_call 14; (with_reducible refine C2.out.mono ?_); rintro e w1 ⟨rfl, rfl⟩)
      | (go_at_call 15; (with_reducible refine C3.out.mono ?_); rintro e w1 ⟨rfl, rfl⟩)
      | (go_at_call 16; (with_reducible refine C4.out.mono ?_); rintro e w1 ⟨rfl, hb⟩; have HB := Lib.hid hb; clear hb))
    go_ret
    exact ⟨rfl, HB.out⟩
theorem holds7_walk (x0 x1 x2 : Int) (w : World) (_h0 : (Lit.int .i64 x0).wf = true) (h1 : (Lit.int .u64 x1).wf = true) (h2 : (Lit.int .u64 x2).wf = true) (hT : Nots w) (_hB : True) :
    Calls Tryd.prog 4 #[.int .i64 x0, .int .u64 x1, .int .u64 x2] w fun e w' => e = .returned (.bool true) ∧ Below w.heap.size w w' := by
  obtain ⟨a1, rfl, b1⟩ := nat_u64 h1
  obtain ⟨a2, rfl, b2⟩ := nat_u64 h2
  exact holds7_nat x0 a1 a2 b1 b2 w (Lib.hid hT)
end Go.Proofs.YtlkihmjaigojmaaDoor
