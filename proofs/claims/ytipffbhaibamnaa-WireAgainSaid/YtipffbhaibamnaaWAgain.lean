/- WireAgain: the walk. Condition: the slice can be read. -/
import Derived.Test.YtipffbhaibamnaaWAgainOk
import Derived.Test.YtipffbhaibamnaaWAgainNo
namespace Go.Proofs.Ytipffbhaibamnaa
open Go.RowKit
theorem again_walk (A : Option Addr) (k cap : Nat) (w : World) (hA : ∃ bs, Rd w A k cap bs) :
    Calls Try.prog 7 #[.slice A k cap] w fun e w' => e = .returned (.bool true) ∧ Below w.heap.size w w' := by
  obtain ⟨bs, hr⟩ := hA
  by_cases h : xE bs = 0
  · exact again_ok A k cap w bs hr h
  · exact again_no A k cap w bs hr h
end Go.Proofs.Ytipffbhaibamnaa
