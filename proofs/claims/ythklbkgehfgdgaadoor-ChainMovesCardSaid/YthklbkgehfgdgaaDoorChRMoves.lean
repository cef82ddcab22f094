/- The walk of ChainMoves, as its row hands the arguments. No condition of its own. -/
import Derived.Test.YthklbkgehfgdgaaDoorChLMoves
import Derived.Test.YthklbkgehfgdgaaDoorChDeeds
namespace Go.Proofs.YthklbkgehfgdgaaDoor
open Go.RowKit
theorem moves_row (n q : Int) (d : Bool) (w : World) (hn : (Lit.int .u8 n).wf = true) (hq : (Lit.int .u8 q).wf = true) (hT : Tab w) (hB : 0 < w.heap.size) :
    Calls Tryd.prog 7 #[.int .u8 n, .int .u8 q, .bool d] w fun e w' => e = .returned (.bool true) ∧ Below w.heap.size w w' := by
  obtain ⟨n, rfl, h⟩ := byte_nat hn
  obtain ⟨q, rfl, h'⟩ := byte_nat hq
  exact moves_walk n q d w h h' hT hB
end Go.Proofs.YthklbkgehfgdgaaDoor
