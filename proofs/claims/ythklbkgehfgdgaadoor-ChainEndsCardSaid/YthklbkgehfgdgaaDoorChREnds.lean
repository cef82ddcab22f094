/- The walk of ChainEnds, as its row hands the argument. No condition of its own. -/
import Derived.Test.YthklbkgehfgdgaaDoorChLEnds
import Derived.Test.YthklbkgehfgdgaaDoorChDeeds
namespace Go.Proofs.YthklbkgehfgdgaaDoor
open Go.RowKit
theorem ends_row (n : Int) (d1 d2 : Bool) (w : World) (hn : (Lit.int .u8 n).wf = true) (hT : Tab w) (hB : 0 < w.heap.size) :
    Calls Tryd.prog 5 #[.int .u8 n, .bool d1, .bool d2] w fun e w' => e = .returned (.bool true) ∧ Below w.heap.size w w' := by
  obtain ⟨n, rfl, h⟩ := byte_nat hn
  exact ends_walk n d1 d2 w h hT hB
end Go.Proofs.YthklbkgehfgdgaaDoor
