/- TypesBytes: the walk. Condition: the argument can be read. -/
import Derived.Test.YtnkjlocjfljjlaaTRBytes
import Derived.Test.YtnkjlocjfljjlaaTChecks
import Derived.Test.YtnkjlocjfljjlaaWLaw
namespace Go.Proofs.Ytnkjlocjfljjlaa
open Go.RowKit
set_option maxRecDepth 100000
set_option maxHeartbeats 4000000
theorem enc_byt (t : Ty) : Byt (enc t) := byt_app (txV_byt' _) (isV_byt' _)
theorem encs_byt (ts : List Ty) : Byt (encs ts) := by
  intro x hx
  obtain ⟨t, _, h⟩ := List.mem_flatMap.1 hx
  exact enc_byt t x h
theorem byV_byt (ts : List Ty) : Byt (byV ts) := by
  unfold byV
  split
  · exact byt_app (num_byt _) (encs_byt _)
  · intro x hx; cases hx
theorem bytes_walk (A : Option Addr) (n cap : Nat) (w : World) (h : ∃ ts, Lt w A n cap ts) :
    Calls Try.prog 5 #[.slice A n cap] w fun e w' => e = .returned (.bool true) ∧ Below w.heap.size w w' := by
  obtain ⟨ts, h⟩ := h
  have H := Lib.hid h
  clear h
  go_enter Try.func5, Try.ntmps5
  go_wp2_with (go_at_call 11; refine (shown_any).mono ?_; rintro e w1 ⟨rfl, h1⟩; have W1 := Lib.hid h1; clear h1)
  go_wp2_with (go_at_call 17; refine (bytes5_any _ n cap ts (H.out.below W1.out (Nat.le_refl _))).mono ?_; rintro e w2 ⟨v2, rfl, o2, h2⟩; obtain ⟨A2, k2, c2, rfl, r2⟩ := o2.form (byV_byt ts); have R2 := Lib.hid r2; have W2 := Lib.hid (W1.out.trans (h2.mono W1.out.size)); clear h2 o2 r2)
  go_wp2_with (go_at_call 18; refine (rbytes5_any _ n cap ts (H.out.below W2.out (Nat.le_refl _))).mono ?_; rintro e w3 ⟨v3, rfl, o3, h3⟩; obtain ⟨A3, k3, c3, rfl, r3⟩ := o3.form (byV_byt ts); have s3 := run_strA r3; have s2 := run_strA (R2.out.below h3 (Nat.le_refl _)); have W3 := Lib.hid (W2.out.trans (h3.mono W2.out.size)); clear h3 o3 r3)
  go_ret
  exact ⟨by simp, W3.out⟩
end Go.Proofs.Ytnkjlocjfljjlaa
