/- InsnBack's walk, as the frame asks it. Conditions: as the walk's. -/
import Derived.Test.YtcedjjolikmbbaaDoorIBack
import Derived.Test.YtcedjjolikmbbaaDoorIOpen2
namespace Go.Proofs.YtcedjjolikmbbaaDoor
open Go.RowKit
theorem back_row (A : Option Addr) (k c : Nat) (B : Option Addr) (n d : Nat) (W : World) (h : (∃ l, Ri W A k c l) ∧ k ≤ 17592186043904) (g : ∃ bs, Rd W B n d bs) (T : Tabs W) : Calls Tryd.prog 6 #[.slice A k c, .slice B n d] W fun e w' => e = .returned (.bool true) ∧ Below W.heap.size W w' := by
  obtain ⟨⟨l, hl⟩, hk⟩ := h
  obtain ⟨bs, hb⟩ := g
  exact back_walk A k c l B n d bs hl hk hb (Lib.hid T)
end Go.Proofs.YtcedjjolikmbbaaDoor
