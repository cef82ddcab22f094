/- WireTexts: the walk. Condition: the slice can be read. -/
import Derived.Test.YtipffbhaibamnaaWLaw
namespace Go.Proofs.Ytipffbhaibamnaa
open Go.RowKit
set_option maxRecDepth 100000 in
theorem texts_walk (s : ByteArray) (A : Option Addr) (k cap : Nat) (w : World) (hs : s.size ≤ maxLen) (hA : ∃ bs, Rd w A k cap bs) :
    Calls Try.prog 4 #[.string s, .slice A k cap] w fun e w' => e = .returned (.bool true) ∧ Below w.heap.size w w' := by
  obtain ⟨bs, hr⟩ := hA
  unfold maxLen at hs
  have R0 := Lib.hid hr
  have BT := Lib.hid (txV_byt _ (ofS_byt s))
  clear hr
  go_enter Try.func4, Try.ntmps4
  go_wp2_with (go_at_call 10; refine (shown_any).mono ?_; rintro e w1 ⟨rfl, h1⟩; have W1 := Lib.hid h1; clear h1)
  go_wp2_with (go_at_call 15; refine (text_any s hs).mono ?_; rintro e w2 ⟨v2, rfl, h1, h2⟩; obtain ⟨A2, k2, c2, rfl, h3⟩ := h1.form BT.out; have R2 := Lib.hid h3; have W2 := Lib.hid (W1.out.trans (h2.mono W1.out.size)); clear h1 h2 h3)
  go_wp2_with (go_at_call 16; refine (rtext_any s hs).mono ?_; rintro e w3 ⟨v3, rfl, h1, h2⟩; obtain ⟨A3, k3, c3, rfl, h3⟩ := h1.form BT.out; have R3 := Lib.hid h3; have R23 := Lib.hid (R2.out.below h2 (Nat.le_refl _)); have W3 := Lib.hid (W2.out.trans (h2.mono W2.out.size)); clear h1 h2 h3)
  go_wp2_with (go_at_call 17; refine (takeText_any _ _ _ bs (R0.out.below W3.out (Nat.le_refl _))).mono ?_; rintro e w4 ⟨rfl, h2⟩; have R34 := Lib.hid (R3.out.below h2 (Nat.le_refl _)); have R24 := Lib.hid (R23.out.below h2 (Nat.le_refl _)); have W4 := Lib.hid (W3.out.trans (h2.mono W3.out.size)); clear h2)
  go_wp2_with (go_at_call 18; refine (rtakeText_any _ _ _ bs (R0.out.below W4.out (Nat.le_refl _))).mono ?_; rintro e w5 ⟨rfl, h2⟩; have s2 := run_strA (R24.out.below h2 (Nat.le_refl _)); have s3 := run_strA (R34.out.below h2 (Nat.le_refl _)); have W5 := Lib.hid (W4.out.trans (h2.mono W4.out.size)); clear h2)
  go_ret
  exact ⟨rfl, W5.out⟩
end Go.Proofs.Ytipffbhaibamnaa
