/- InsnBytes' walk. Conditions: the tables lie in their blocks; the instructions and the bytes can be read. -/
import Derived.Test.YtcedjjolikmbbaaDoorJParse
import Derived.Test.YtcedjjolikmbbaaDoorJBytes
import Derived.Test.YtcedjjolikmbbaaDoorIShown
import Derived.Test.YtcedjjolikmbbaaDoorIStr
import Derived.Test.YtcedjjolikmbbaaDoorISame
import Derived.Test.YtcedjjolikmbbaaDoorIBytesM
namespace Go.Proofs.YtcedjjolikmbbaaDoor
open Go.RowKit
set_option maxRecDepth 100000
set_option maxHeartbeats 2000000
section
variable {w : World}
theorem bytes6_got {A : Option Addr} {k c : Nat} {l : List In} (h : Ri w A k c l) (hk : k ≤ 17592186043904) (W : World) (hb : Below w.heap.size w W) :
    Calls Tryd.prog 20 #[.slice A k c] W fun e w' => ∃ A' k' c', e = .returned (.slice A' k' c') ∧ Rd w' A' k' c' (byI l) ∧ Below W.heap.size W w' := by
  refine (bytes6_any _ _ _ _ (h.below hb (Nat.le_refl _)) hk).mono ?_
  rintro e w' ⟨v, rfl, ho, hb'⟩
  obtain ⟨A', k', c', rfl, hr⟩ := ho.form (byI_byt h.ok)
  exact ⟨A', k', c', rfl, hr, hb'⟩
theorem rbytes6_got {A : Option Addr} {k c : Nat} {l : List In} (h : Ri w A k c l) (hk : k ≤ 17592186043904) (W : World) (hb : Below w.heap.size w W) :
    Calls Tryd.prog 21 #[.slice A k c] W fun e w' => ∃ A' k' c', e = .returned (.slice A' k' c') ∧ Rd w' A' k' c' (byI l) ∧ Below W.heap.size W w' := by
  refine (rbytes6_any _ _ _ _ (h.below hb (Nat.le_refl _)) hk).mono ?_
  rintro e w' ⟨v, rfl, ho, hb'⟩
  obtain ⟨A', k', c', rfl, hr⟩ := ho.form (byI_byt h.ok)
  exact ⟨A', k', c', rfl, hr, hb'⟩
theorem bytes6_walk (A : Option Addr) (k c : Nat) (B : Option Addr) (n d : Nat) (l : List In) (bs : List Nat) (h : Ri w A k c l) (hk : k ≤ 17592186043904) (g : Rd w B n d bs) (T : Hid (Tabs w)) :
    Calls Tryd.prog 5 #[.slice A k c, .slice B n d] w fun e w' => e = .returned (.bool true) ∧ Below w.heap.size w w' := by
  have GOT := Lib.hid (fun W hb => bytes6_got h hk W hb)
  have RGOT := Lib.hid (fun W hb => rbytes6_got h hk W hb)
  have R0 := Lib.hid g
  have POK := Lib.hid (paL_ok g.byt)
  clear h g
  obtain ⟨E, hE⟩ : ∃ E, paE bs = E := ⟨_, rfl⟩
  obtain ⟨L, hL⟩ : ∃ L, paL bs = L := ⟨_, rfl⟩
  have P1 := Lib.hid (fun W (TW : Hid (Tabs W)) (hb : Below w.heap.size w W) => parse6_any TW _ _ _ _ (R0.out.below hb (Nat.le_refl _)))
  have P2 := Lib.hid (fun W (hb : Below w.heap.size w W) => rparse6_any (w := W) _ _ _ _ (R0.out.below hb (Nat.le_refl _)))
  rw [hE, hL] at P1 P2
  rw [hL] at POK
  clear hE hL
  go_enter Tryd.func5, Tryd.ntmps5
  go_wp2_with (go_at_call 10; (with_reducible refine (shown_any T).mono ?_); rintro e w1 ⟨rfl, hb1⟩; have X1 := Lib.hid hb1; have T1 := Lib.hid (T.out.out X1.out); clear hb1)
  go_wp2_with (go_at_call 17; (with_reducible refine (P1.out _ T1 X1.out).mono ?_); rintro e w2 ⟨v2, rfl, ho2, hb2⟩; obtain ⟨A2, k2, c2, rfl, hr2⟩ := ho2.form POK.out; have R2 := Lib.hid hr2; have X2 := Lib.hid (X1.out.trans (hb2.mono X1.out.size)); clear ho2 hr2 hb2)
  go_wp2_with (go_at_call 18; (with_reducible refine (P2.out _ X2.out).mono ?_); rintro e w3 ⟨v3, rfl, ho3, hb3⟩; obtain ⟨A3, k3, c3, rfl, hr3⟩ := ho3.form POK.out; have R3 := Lib.hid hr3; have S3 := Lib.hid (R2.out.below hb3 (Nat.le_refl _)); have X3 := Lib.hid (X2.out.trans (hb3.mono X2.out.size)); obtain rfl : k3 = k2 := hr3.len.symm.trans S3.out.len; clear ho3 hr3 hb3 R2)
  go_wp2_with (go_at_call 19; (with_reducible refine (same6_any _ _ _ _ _ _ S3.out R3.out).mono ?_); rintro e w4 ⟨rfl, hb4⟩; have X4 := Lib.hid (X3.out.trans (hb4.mono X3.out.size)); clear hb4)
  have Y4 := Lib.hid X4.out.drew
  go_region_held (fun w' => Hid (Below w.heap.size w w')) (first | exact Y4 | exact Y5 | exact Y6) (first
    | (go_at_call 20; (with_reducible refine (GOT.out _ Y4.out).mono ?_); rintro e w5 ⟨A5, k5, c5, rfl, hr5, hb5⟩; have R5 := Lib.hid hr5; have s5 := run_strA hr5; have Y5 := Lib.hid (Y4.out.trans (hb5.mono Y4.out.size)); clear hb5 hr5)
    | (go_at_call 21; (with_reducible refine (RGOT.out _ Y5.out).mono ?_); rintro e w6 ⟨A6, k6, c6, rfl, hr6, hb6⟩; have s6 := run_strA hr6; have s56 := run_strA (R5.out.below hb6 (Nat.le_refl _)); have Y6 := Lib.hid (Y5.out.trans (hb6.mono Y5.out.size)); clear hb6 hr6))
  all_goals
    go_wp2_with fail
    go_ret
    exact ⟨rfl, Y6.out⟩
theorem bytes6_row (A : Option Addr) (k c : Nat) (B : Option Addr) (n d : Nat) (W : World) (h : (∃ l, Ri W A k c l) ∧ k ≤ 17592186043904) (g : ∃ bs, Rd W B n d bs) (T : Tabs W) : Calls Tryd.prog 5 #[.slice A k c, .slice B n d] W fun e w' => e = .returned (.bool true) ∧ Below W.heap.size W w' := by
  obtain ⟨⟨l, hl⟩, hk⟩ := h
  obtain ⟨bs, hb⟩ := g
  exact bytes6_walk A k c B n d l bs hl hk hb (Lib.hid T)
end
end Go.Proofs.YtcedjjolikmbbaaDoor
