/- What WireAgain's walk asks of the bytes that were read. No condition. -/
import Derived.Test.YtipffbhaibamnaaWNumbers
import Derived.Test.YtipffbhaibamnaaWCuts
namespace Go.Proofs.Ytipffbhaibamnaa
theorem xV_byt {bs : List Nat} (h : Byt bs) : Byt (xV bs) := by
  unfold xV
  split
  · exact byt_take (byt_drop h _) _
  · intro x hx; cases hx
end Go.Proofs.Ytipffbhaibamnaa
