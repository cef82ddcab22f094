/- The walk of BranchTurned: it returns true, and nothing that was there has turned. Conditions: the numbers have at most 64 bits; Not's table lies in its block. -/
import Derived.Test.YticgehmpfgdbhaaDoorBrLT0
import Derived.Test.YticgehmpfgdbhaaDoorBrLT1
import Derived.Test.YticgehmpfgdbhaaDoorBrLT2
import Derived.Test.YticgehmpfgdbhaaDoorBrLT3
import Derived.Test.YticgehmpfgdbhaaDoorSpOpen
namespace Go.Proofs.YticgehmpfgdbhaaDoor
open Go.RowKit
set_option maxRecDepth 100000
set_option maxHeartbeats 4000000
section
variable {w : World}
theorem turned9_nat (k : Nat) (s t : Sp) (h : Bool) (hk : k < 256) (hs : s.ok) (ht : t.ok) (T : Hid (Nots w)) : Ans 7 #[.int .u8 (k : Int), spv s, spv t, .bool h] (.bool true) w := by
  have kw : wrap64 (k : Int) = k := by unfold wrap64; omega
  have go : ∀ c : Int, (c = 1 ∨ c = 2 ∨ c = 3 ∨ c = 4) → (∀ W, Hid (Nots W) → Ans 10 #[.int .i64 c, spv s, spv t, .bool h] (.tuple #[spv (br c s t h).u, spv (br c s t h).v, .bool (br c s t h).can, .int .i64 (brE c s t)]) W) ∧ ∀ W, Hid (Nots W) → Ans 10 #[.int .i64 (tw c), spv t, spv s, .bool h] (.tuple #[spv (br c s t h).v, spv (br c s t h).u, .bool (br c s t h).can, .int .i64 (brE c s t)]) W := fun c hc => by
    refine ⟨fun W TW => refine_any c s t h hs ht TW, fun W TW => ?_⟩
    have l := l_turn s t h hc
    have R := refine_any (w := W) (tw c) t s h ht hs TW
    rw [l.1, l.2] at R
    exact R
  have ht4 : (k : Int).tmod 4 = ((k % 4 : Nat) : Int) := by rw [Int.tmod_eq_emod_of_nonneg (by omega)]; omega
  rcases (show k % 4 = 0 ∨ k % 4 = 1 ∨ k % 4 = 2 ∨ k % 4 = 3 by omega) with e | e | e | e
  all_goals rw [e] at ht4
  · exact turned9_0 k s.lo s.hi t.lo t.hi _ _ _ _ h _ _ kw ht4 T (Lib.hid (go 1 (by decide)).1) (Lib.hid (go 1 (by decide)).2)
  · exact turned9_1 k s.lo s.hi t.lo t.hi _ _ _ _ h _ _ kw ht4 T (Lib.hid (go 2 (by decide)).1) (Lib.hid (go 2 (by decide)).2)
  · exact turned9_2 k s.lo s.hi t.lo t.hi _ _ _ _ h _ _ kw ht4 T (Lib.hid (go 3 (by decide)).1) (Lib.hid (go 3 (by decide)).2)
  · exact turned9_3 k s.lo s.hi t.lo t.hi _ _ _ _ h _ _ kw ht4 T (Lib.hid (go 4 (by decide)).1) (Lib.hid (go 4 (by decide)).2)
theorem turned9_row (x0 : Int) (s t : Sp) (h : Bool) (w : World) (h0 : (Lit.int .u8 x0).wf = true) (hs : s.ok) (ht : t.ok) (hT : Nots w) (_hB : True) :
    Calls Tryd.prog 7 #[.int .u8 x0, spv s, spv t, .bool h] w fun e w' => e = .returned (.bool true) ∧ Below w.heap.size w w' := by
  obtain ⟨k, rfl, hk⟩ := nat_u8 h0
  exact turned9_nat k s t h hk hs ht (Lib.hid hT)
end
end Go.Proofs.YticgehmpfgdbhaaDoor
