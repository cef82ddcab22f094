/- The contract of the document's example ('shown'): it returns true, and nothing that was there has turned. No condition. -/
import Derived.Test.YthbmheokbekdeaaPTake
namespace Go.Proofs.Ythbmheokbekdeaa
open Go.RowKit

section
variable {w : World}
set_option maxRecDepth 100000 in
theorem shown_any : Calls Try.prog 9 #[] w fun e w' => e = .returned (.bool true) ∧ Below w.heap.size w w' := by
  go_enter Try.func9, Try.ntmps9
  go_wp2_with fail
  refine (new_ok 4 (by decide)).mono ?_
  rintro e w1 ⟨rfl, hp, hz, hb⟩
  have HP := Lib.hid hp
  have HB := Lib.hid hb
  clear hp hb hz
  go_wp2_with fail
  refine (take_any _ _ _ HP.out).mono ?_
  rintro e w2 ⟨rfl, hp, ho⟩
  have v1 : trV 4 (fun _ => false) 1 = 0 := by decide
  rw [v1]
  have HP2 := Lib.hid hp
  have HB2 := Lib.hid (HB.out.trans (ho.below (Nat.le_refl _)))
  clear hp ho v1
  go_wp2_with fail
  refine (take_any _ _ _ HP2.out).mono ?_
  rintro e w3 ⟨rfl, hp, ho⟩
  have v1 : trV 4 (trT 4 (fun _ => false) 1) 1 = 1 := by decide
  rw [v1]
  have HP3 := Lib.hid hp
  have HB3 := Lib.hid (HB2.out.trans (ho.below (Nat.le_refl _)))
  clear hp ho v1
  go_wp2_with fail
  refine (give_any _ _ _ 0 HP3.out).mono ?_
  rintro e w4 ⟨rfl, hp, ho⟩
  have v1 : gvE 4 (trT 4 (trT 4 (fun _ => false) 1) 1) 0 = 0 := by decide
  rw [v1]
  have HP4 := Lib.hid hp
  have HB4 := Lib.hid (HB3.out.trans (ho.below (Nat.le_refl _)))
  clear hp ho v1
  go_wp2_with fail
  refine (takeRun_any _ _ _ 2 HP4.out (by decide)).mono ?_
  rintro e w5 ⟨rfl, hp, ho⟩
  have v1 : trV 4 (gvT 4 (trT 4 (trT 4 (fun _ => false) 1) 1) 0) 2 = 2 := by decide
  have v2 : trE 4 (gvT 4 (trT 4 (trT 4 (fun _ => false) 1) 1) 0) 2 = 0 := by decide
  rw [v1, v2]
  have HP5 := Lib.hid hp
  have HB5 := Lib.hid (HB4.out.trans (ho.below (Nat.le_refl _)))
  clear hp ho v1 v2
  go_wp2_with fail
  refine (take_any _ _ _ HP5.out).mono ?_
  rintro e w6 ⟨rfl, hp, ho⟩
  have v1 : trV 4 (trT 4 (gvT 4 (trT 4 (trT 4 (fun _ => false) 1) 1) 0) 2) 1 = 0 := by decide
  rw [v1]
  have HP6 := Lib.hid hp
  have HB6 := Lib.hid (HB5.out.trans (ho.below (Nat.le_refl _)))
  clear hp ho v1
  go_wp2_with fail
  refine (take_any _ _ _ HP6.out).mono ?_
  rintro e w7 ⟨rfl, hp, ho⟩
  have v2 : trE 4 (trT 4 (trT 4 (gvT 4 (trT 4 (trT 4 (fun _ => false) 1) 1) 0) 2) 1) 1 = 5 := by decide
  rw [v2]
  have HB7 := Lib.hid (HB6.out.trans (ho.below (Nat.le_refl _)))
  clear hp ho v2
  go_wp2
  go_ret
  exact ⟨rfl, HB7.out⟩
end
end Go.Proofs.Ythbmheokbekdeaa
