/- InsnApart's walk, as the frame asks it. Conditions: as the walk's. -/
import Derived.Test.YtcedjjolikmbbaaDoorIApart
import Derived.Test.YtcedjjolikmbbaaDoorIOpen
namespace Go.Proofs.YtcedjjolikmbbaaDoor
open Go.RowKit
theorem apart_row (i j : In) (a : ByteArray) (W : World) (hi : i.ok) (hj : j.ok) (h : a.data.toList.length ≤ 1048575) (T : Tabs W) : Calls Tryd.prog 7 #[iv i, iv j, .string a] W fun e w' => e = .returned (.bool true) ∧ Below W.heap.size W w' := by
  rw [sv_of]
  exact apart_walk i j _ hi hj (by omega) (Lib.hid T)
end Go.Proofs.YtcedjjolikmbbaaDoor
