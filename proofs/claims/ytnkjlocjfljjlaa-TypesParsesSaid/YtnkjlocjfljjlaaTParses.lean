/- TypesParses: the walk. Condition: the argument can be read. -/
import Derived.Test.YtnkjlocjfljjlaaTRParse
import Derived.Test.YtnkjlocjfljjlaaTSame
import Derived.Test.YtnkjlocjfljjlaaTShown
import Derived.Test.YtnkjlocjfljjlaaWLaw
namespace Go.Proofs.Ytnkjlocjfljjlaa
open Go.RowKit
set_option maxRecDepth 100000
set_option maxHeartbeats 4000000
theorem parses_walk (A : Option Addr) (k cap : Nat) (w : World) (h : ∃ bs, Rd w A k cap bs) :
    Calls Try.prog 6 #[.slice A k cap] w fun e w' => e = .returned (.bool true) ∧ Below w.heap.size w w' := by
  obtain ⟨bs, h⟩ := h
  have H := Lib.hid h
  clear h
  go_enter Try.func6, Try.ntmps6
  go_wp2_with (go_at_call 11; refine (shown_any).mono ?_; rintro e w1 ⟨rfl, h1⟩; have W1 := Lib.hid h1; clear h1)
  go_wp2_with (go_at_call 19; refine (parse_any _ _ _ bs (H.out.below W1.out (Nat.le_refl _))).mono ?_; rintro e w2 ⟨A2, k2, c2, rfl, lt2, h2⟩; have LT2 := Lib.hid lt2; have W2 := Lib.hid (W1.out.trans (h2.mono W1.out.size)); clear h2 lt2)
  go_wp2_with (go_at_call 20; refine (rparse_any _ _ _ bs (H.out.below W2.out (Nat.le_refl _))).mono ?_; rintro e w3 ⟨A3, k3, c3, rfl, lt3, h3⟩; have LT3 := Lib.hid lt3; have LT23 := Lib.hid (LT2.out.below h3 (Nat.le_refl _)); have W3 := Lib.hid (W2.out.trans (h3.mono W2.out.size)); clear h3 lt3)
  go_wp2_with (go_at_call 21; refine (same5_any _ _ _ _ _ _ (paV bs) LT23.out LT3.out).mono ?_; rintro e w4 ⟨rfl, h4⟩; have W4 := Lib.hid (W3.out.trans (h4.mono W3.out.size)); clear h4)
  go_ret
  exact ⟨by simp, W4.out⟩
end Go.Proofs.Ytnkjlocjfljjlaa
