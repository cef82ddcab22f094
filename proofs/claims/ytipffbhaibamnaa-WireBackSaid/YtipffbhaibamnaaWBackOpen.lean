/- WireBack: the bytes behind, as the walk asks them: their number is bounded by the form's own reach. -/
import Derived.Test.YtipffbhaibamnaaWBack
import Derived.SizedLaws
namespace Go.Proofs.Ytipffbhaibamnaa
open Go.RowKit Go.Deep
theorem bytes1 : Try.prog.bytesOf 5 = 1 := by kernel_rfl
theorem rest_of {H : Type} {enc : TypeId × Value → H} {W : World} {base : Nat} {sp : Nat → Bool} {held : Bool} {fuel : Nat} {A : Option Addr} {len cap : Nat} {d : DataW H} {ps : List MemPlace}
    (h : DataW.trod enc Try.prog W base sp held fuel 23 (Value.cells (.slice A len cap)).toList = some (d, ps))
    (hw : ∀ elems spare, d = .slice elems spare → (elems.length + spare.length) * Try.prog.bytesOf 5 ≤ reachBytes) : (∃ bs, Rd W A len cap bs) ∧ len ≤ 140737488351232 := by
  refine ⟨bytes_of h, ?_⟩
  rcases open_slice Try.underlying23 h with ⟨h0, _⟩ | ⟨a, l, c, m, n, D, Pl, hcs, _, hl, hm, hmm, hx, _⟩
  · simp [Value.cells] at h0
    omega
  · simp [Value.cells] at hcs
    obtain ⟨rfl, rfl, rfl⟩ := hcs
    injection hx with hx _
    have := hw _ _ hx
    rw [bytes1] at this
    simp [reachBytes] at this
    omega
end Go.Proofs.Ytipffbhaibamnaa
