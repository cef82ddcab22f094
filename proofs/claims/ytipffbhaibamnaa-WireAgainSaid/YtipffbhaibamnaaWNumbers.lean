/- WireNumbers: the walk. Condition: the slice can be read. -/
import Derived.Test.YtipffbhaibamnaaWLengths
import Derived.Deep.RegionHeld
namespace Go.Proofs.Ytipffbhaibamnaa
open Go.RowKit
theorem number_got {w : World} (n : Nat) (hn : n < 18446744073709551616) :
    Calls Try.prog 13 #[.int .u64 n] w fun e w' => ∃ A k cap, e = .returned (.slice A k cap) ∧ Rd w' A k cap (num n) ∧ Below w.heap.size w w' :=
  (number_any n hn).mono fun e w' ⟨v', h, h1, h2⟩ => by
    obtain ⟨A, k, cap, rfl, h3⟩ := h1.form (num_byt _)
    exact ⟨A, k, cap, h, h3, h2⟩
theorem rnumber_got {w : World} (n : Nat) (hn : n < 18446744073709551616) :
    Calls Try.prog 14 #[.int .u64 n] w fun e w' => ∃ A k cap, e = .returned (.slice A k cap) ∧ Rd w' A k cap (num n) ∧ Below w.heap.size w w' :=
  (rnumber_any 9 n w (by omega) hn).mono fun e w' ⟨v', h, h1, h2⟩ => by
    obtain ⟨A, k, cap, rfl, h3⟩ := h1.form (num_byt _)
    exact ⟨A, k, cap, h, h3, h2⟩
set_option maxHeartbeats 8000000 in
set_option maxRecDepth 100000 in
theorem numbers_walk (n0 : Int) (A : Option Addr) (k cap : Nat) (w : World) (h0 : (Lit.int .u64 n0).wf = true) (hA : ∃ bs, Rd w A k cap bs) :
    Calls Try.prog 3 #[.int .u64 n0, .slice A k cap] w fun e w' => e = .returned (.bool true) ∧ Below w.heap.size w w' := by
  obtain ⟨n, rfl, hn⟩ := nat_of h0
  obtain ⟨bs, hr⟩ := hA
  have R0 := Lib.hid hr
  clear hr h0
  go_enter Try.func3, Try.ntmps3
  go_wp2_with (go_at_call 10; refine (shown_any).mono ?_; rintro e w1 ⟨rfl, h1⟩; have W1 := Lib.hid h1; clear h1)
  go_wp2_with (go_at_call 11; refine (take_any _ _ _ bs (R0.out.below W1.out (Nat.le_refl _))).mono ?_; rintro e w2 ⟨rfl, rfl⟩)
  go_wp2_with (go_at_call 12; refine (rtake_any _ _ _ bs (R0.out.below W1.out (Nat.le_refl _))).mono ?_; rintro e w3 ⟨rfl, rfl⟩)
  have W0 := Lib.hid W1.out.drew
  go_region_held (fun w' => Hid (Below w.heap.size w w')) (first | exact W0 | exact W4 | exact W5) (first
    | (go_at_call 13; (with_reducible refine (number_got n hn).mono ?_); rintro e w4 ⟨A4, k4, c4, rfl, h3, h2⟩; have R4 := Lib.hid h3; have s4 := run_strA h3; have W4 := Lib.hid (W0.out.trans (h2.mono W0.out.size)); clear h2 h3)
    | (go_at_call 14; (with_reducible refine (rnumber_got n hn).mono ?_); rintro e w5 ⟨A5, k5, c5, rfl, h3, h2⟩; have s5 := run_strA h3; have s45 := run_strA (R4.out.below h2 (Nat.le_refl _)); have W5 := Lib.hid (W4.out.trans (h2.mono W4.out.size)); clear h2 h3))
  all_goals
    go_wp2_with fail
    go_ret
    exact ⟨rfl, W5.out⟩
end Go.Proofs.Ytipffbhaibamnaa
