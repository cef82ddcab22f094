/- The walk of AluDoes: it returns true, and nothing that was there has turned. Conditions: the numbers have at most 64 bits; Not's table lies in its block. -/
import Derived.Test.YtlkihmjaigojmaaDoorAShown
import Derived.Test.YtlkihmjaigojmaaDoorARDo
namespace Go.Proofs.YtlkihmjaigojmaaDoor
open Go.RowKit
set_option maxRecDepth 100000
theorem does7_nat (op : Int) (a b : Nat) (ha : a < 18446744073709551616) (hb : b < 18446744073709551616) (w : World) (T : Hid (Nots w)) :
    Calls Tryd.prog 3 #[.int .i64 op, .int .u64 (a : Int), .int .u64 (b : Int)] w fun e w' => e = .returned (.bool true) ∧ w = w' := by
  have SH := Lib.hid (shown_any T)
  have C1 := Lib.hid (do_any (w := w) op a b ha hb)
  have C2 := Lib.hid (rdo_any (w := w) op a b ha hb)
  clear ha hb
  generalize doV op a b = v at C1 C2
  generalize doE op = x at C1 C2
  go_enter Tryd.func3, Tryd.ntmps3
  go_wp2_with (first
    | (go_at_call 10; (with_reducible refine SH.out.mono ?_); rintro e w1 ⟨rfl, rfl⟩)
    | (go_at_call 11; (with_reducible refine C1.out.mono ?_); rintro e w1 ⟨rfl, rfl⟩)
    | (go_at_call 12; (with_reducible refine C2.out.mono ?_); rintro e w1 ⟨rfl, rfl⟩))
  go_ret
  exact ⟨rfl, rfl⟩
theorem does7_walk (x0 x1 x2 : Int) (w : World) (_h0 : (Lit.int .i64 x0).wf = true) (h1 : (Lit.int .u64 x1).wf = true) (h2 : (Lit.int .u64 x2).wf = true) (hT : Nots w) (_hB : True) :
    Calls Tryd.prog 3 #[.int .i64 x0, .int .u64 x1, .int .u64 x2] w fun e w' => e = .returned (.bool true) ∧ Below w.heap.size w w' := by
  obtain ⟨a1, rfl, b1⟩ := nat_u64 h1
  obtain ⟨a2, rfl, b2⟩ := nat_u64 h2
  exact (does7_nat x0 a1 a2 b1 b2 w (Lib.hid hT)).mono fun _ _ h => ⟨h.1, by rw [← h.2]; exact Below.refl _ _⟩
end Go.Proofs.YtlkihmjaigojmaaDoor
