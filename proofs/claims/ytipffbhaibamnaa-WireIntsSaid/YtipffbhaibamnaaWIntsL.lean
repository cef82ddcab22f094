/- WireInts: the walk. Condition: the slices can be read. -/
import Derived.Test.YtipffbhaibamnaaWLaw
namespace Go.Proofs.Ytipffbhaibamnaa
open Go.RowKit
set_option maxRecDepth 100000 in
theorem ints_walk (A' : Option Addr) (k' cap' : Nat) (A : Option Addr) (k cap : Nat) (w : World) (hL : ∃ l, Li w A' k' cap' l) (hA : ∃ bs, Rd w A k cap bs) :
    Calls Try.prog 5 #[.slice A' k' cap', .slice A k cap] w fun e w' => e = .returned (.bool true) ∧ Below w.heap.size w w' := by
  obtain ⟨bs, hr⟩ := hA
  obtain ⟨l, hl⟩ := hL
  have R0 := Lib.hid hr
  have L0 := Lib.hid hl
  have FV := Lib.hid (iV_fit hr.byt)
  have BT := Lib.hid (isV_byt l)
  clear hr hl
  go_enter Try.func5, Try.ntmps5
  go_wp2_with (go_at_call 10; refine (shown_any).mono ?_; rintro e w1 ⟨rfl, h1⟩; have W1 := Lib.hid h1; clear h1)
  go_wp2_with (go_at_call 19; refine (ints_any _ _ _ l (L0.out.below W1.out (Nat.le_refl _))).mono ?_; rintro e w2 ⟨v2, rfl, h1, h2⟩; obtain ⟨A2, k2, c2, rfl, h3⟩ := h1.form BT.out; have R2 := Lib.hid h3; have W2 := Lib.hid (W1.out.trans (h2.mono W1.out.size)); clear h1 h2 h3)
  go_wp2_with (go_at_call 20; refine (rints_any _ _ _ l (L0.out.below W2.out (Nat.le_refl _))).mono ?_; rintro e w3 ⟨v3, rfl, h1, h2⟩; obtain ⟨A3, k3, c3, rfl, h3⟩ := h1.form BT.out; have R3 := Lib.hid h3; have R23 := Lib.hid (R2.out.below h2 (Nat.le_refl _)); have W3 := Lib.hid (W2.out.trans (h2.mono W2.out.size)); clear h1 h2 h3)
  go_wp2_with (go_at_call 21; refine (takeInts_any _ _ _ bs (R0.out.below W3.out (Nat.le_refl _))).mono ?_; rintro e w4 ⟨v4, rfl, h1, h2⟩; obtain ⟨A4, k4, c4, rfl, h3⟩ := h1.form FV.out; have L4 := Lib.hid h3; have R34 := Lib.hid (R3.out.below h2 (Nat.le_refl _)); have R24 := Lib.hid (R23.out.below h2 (Nat.le_refl _)); have W4 := Lib.hid (W3.out.trans (h2.mono W3.out.size)); clear h1 h2 h3)
  go_wp2_with (go_at_call 22; refine (rtakeInts_any _ _ _ bs (R0.out.below W4.out (Nat.le_refl _))).mono ?_; rintro e w5 ⟨v5, rfl, h1, h2⟩; obtain ⟨A5, k5, c5, rfl, h3⟩ := h1.form FV.out; have L5 := Lib.hid h3; have L45 := Lib.hid (L4.out.below h2 (Nat.le_refl _)); have R35 := Lib.hid (R34.out.below h2 (Nat.le_refl _)); have R25 := Lib.hid (R24.out.below h2 (Nat.le_refl _)); have W5 := Lib.hid (W4.out.trans (h2.mono W4.out.size)); clear h1 h2 h3)
  go_wp2_with (go_at_call 23; refine (same_any _ _ _ _ _ _ _ _ L45.out L5.out).mono ?_; rintro e w6 ⟨rfl, h2⟩; rw [decide_eq_true rfl]; have s2 := run_strA (R25.out.below h2 (Nat.le_refl _)); have s3 := run_strA (R35.out.below h2 (Nat.le_refl _)); have W6 := Lib.hid (W5.out.trans (h2.mono W5.out.size)); clear h2)
  go_ret
  exact ⟨rfl, W6.out⟩
end Go.Proofs.Ytipffbhaibamnaa
