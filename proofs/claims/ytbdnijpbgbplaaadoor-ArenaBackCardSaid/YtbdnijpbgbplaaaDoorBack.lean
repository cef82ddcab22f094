/- The walk of ArenaBack: it returns true, and nothing that was there has turned. Condition: the table of widths lies in its block. -/
import Derived.Test.YtbdnijpbgbplaaaDoorAny
import Derived.OpenShut
namespace Go.Proofs.YtbdnijpbgbplaaaDoor
open Go.RowKit

/-- What is loaded where it was stored. -/
theorem back_same {n : Nat} {f : Nat → Int} {at_ v width : Int} (h : accE n at_ width = 0) : ldV n (stF n f at_ v width) at_ width = v % 256 ^ width.toNat := by
  unfold ldV stF
  rw [if_pos h, if_pos h, ld_st _ _ _ _ _ (Nat.le_refl _)]
/-- What is loaded elsewhere. -/
theorem back_other {n : Nat} {f : Nat → Int} {at_ v width other : Int} (h : other < at_ ∨ at_ + width ≤ other ∨ accE n at_ width ≠ 0) : ldV n (stF n f at_ v width) other 1 = ldV n f other 1 := by
  unfold ldV stF
  by_cases h1 : accE n other 1 = 0
  · rw [if_pos h1, if_pos h1]
    by_cases h0 : accE n at_ width = 0
    · obtain ⟨a, b, c⟩ := accE_ok h0
      obtain ⟨a', b', c'⟩ := accE_ok h1
      have := isW_bd a
      rw [if_pos h0]
      show ld _ _ 1 = ld _ _ 1
      refine ld_congr _ _ fun i hi hi' => ?_
      unfold st
      rw [if_neg (by omega)]
    · rw [if_neg h0]
  · rw [if_neg h1, if_neg h1]

set_option maxRecDepth 100000 in
theorem back_walk (n at_ width v other : Int) (w : World) (h0 : (Lit.int .u16 n).wf = true) (h1 : (Lit.int .i64 at_).wf = true) (h2 : (Lit.int .i64 width).wf = true) (h3 : (Lit.int .u64 v).wf = true) (h4 : (Lit.int .i64 other).wf = true)
    (hT : Tab w) (hB : 0 < w.heap.size) :
    Calls Tryd.prog 4 #[.int .u16 n, .int .i64 at_, .int .i64 width, .int .u64 v, .int .i64 other] w fun e w' => e = .returned (.bool true) ∧ Below w.heap.size w w' := by
  have b0 := bounds_u16 h0
  have b1 := bounds_i64 h1
  have b2 := bounds_i64 h2
  have b3 := bounds_u64 h3
  have b4 := bounds_i64 h4
  clear h0 h1 h2 h3 h4
  obtain ⟨N, rfl⟩ := Int.eq_ofNat_of_zero_le b0.1
  have hN : N ≤ 65535 := by omega
  clear b0
  have HT := Lib.hid hT
  clear hT
  go_enter Tryd.func4, Tryd.ntmps4
  go_wp2_with fail
  refine (shown_any HT.out hB).mono ?_
  rintro e w1 ⟨rfl, hb⟩
  have HB := Lib.hid hb
  clear hb
  go_wp2_with fail
  refine (new_ok N (by omega)).mono ?_
  rintro e w2 ⟨rfl, hA, hz, hb⟩
  have HA := Lib.hid hA
  have HB2 := Lib.hid (HB.out.trans (hb.mono HB.out.size))
  have T2 := Lib.hid (HT.out.below HB2.out hB)
  clear hA hz hb
  go_wp2_with fail
  refine (load_any _ _ _ _ _ _ T2.out HA.out).mono ?_
  rintro e w' ⟨rfl, rfl⟩
  go_wp2_with fail
  refine (store_any _ _ _ _ _ _ _ T2.out HA.out b3.1).mono ?_
  rintro e w3 ⟨rfl, hA, ho⟩
  have HA3 := Lib.hid hA
  have HB3 := Lib.hid (HB2.out.trans (ho.below HB.out.size))
  have T3 := Lib.hid (HT.out.below HB3.out hB)
  clear hA ho
  go_wp2_with fail
  refine (load_any _ _ _ _ _ _ T3.out HA3.out).mono ?_
  rintro e w' ⟨rfl, rfl⟩
  go_wp2_with fail
  refine (load_any _ _ _ _ _ _ T3.out HA3.out).mono ?_
  rintro e w' ⟨rfl, rfl⟩
  by_cases her : accE N at_ width = 0
  · obtain ⟨hW, ha, hb⟩ := accE_ok her
    rw [back_same her, her]
    have hw4 : width = 1 ∨ width = 2 ∨ width = 4 ∨ width = 8 := by simpa [isW, or_assoc] using hW
    have hcase : (at_ ≤ other ∧ other < at_ + width) ∨ Hid (ldV N (stF N (fun _ => 0) at_ v width) other 1 = ldV N (fun _ => 0) other 1) ∧ other < at_ ∨ Hid (ldV N (stF N (fun _ => 0) at_ v width) other 1 = ldV N (fun _ => 0) other 1) ∧ at_ + width ≤ other := by
      by_cases c1 : other < at_
      · exact .inr (.inl ⟨back_other (.inl c1), c1⟩)
      · by_cases c2 : at_ + width ≤ other
        · exact .inr (.inr ⟨back_other (.inr (.inl c2)), c2⟩)
        · exact .inl ⟨by omega, by omega⟩
    have e8 : v % 256 ^ 8 = v := Int.emod_eq_of_lt b3.1 (by omega)
    have E8 := Lib.hid e8
    clear her hW b2 e8
    rcases hw4 with rfl | rfl | rfl | rfl
    · rw [show v % 256 ^ (1 : Int).toNat = v % 256 from rfl]
      rcases hcase with ⟨c1, c2⟩ | ⟨E, c1⟩ | ⟨E, c1⟩
      · go_wp2
        go_ret
        exact ⟨rfl, HB3.out⟩
      · rw [E.out]
        go_wp2
        go_ret
        exact ⟨rfl, HB3.out⟩
      · rw [E.out]
        go_wp2
        go_ret
        exact ⟨rfl, HB3.out⟩
    · rw [show v % 256 ^ (2 : Int).toNat = v % 65536 from rfl]
      rcases hcase with ⟨c1, c2⟩ | ⟨E, c1⟩ | ⟨E, c1⟩
      · go_wp2
        go_ret
        exact ⟨rfl, HB3.out⟩
      · rw [E.out]
        go_wp2
        go_ret
        exact ⟨rfl, HB3.out⟩
      · rw [E.out]
        go_wp2
        go_ret
        exact ⟨rfl, HB3.out⟩
    · rw [show v % 256 ^ (4 : Int).toNat = v % 4294967296 from rfl]
      rcases hcase with ⟨c1, c2⟩ | ⟨E, c1⟩ | ⟨E, c1⟩
      · go_wp2
        go_ret
        exact ⟨rfl, HB3.out⟩
      · rw [E.out]
        go_wp2
        go_ret
        exact ⟨rfl, HB3.out⟩
      · rw [E.out]
        go_wp2
        go_ret
        exact ⟨rfl, HB3.out⟩
    · rw [show v % 256 ^ (8 : Int).toNat = v % 256 ^ 8 from rfl, E8.out]
      rcases hcase with ⟨c1, c2⟩ | ⟨E, c1⟩ | ⟨E, c1⟩
      · go_wp2
        go_ret
        exact ⟨rfl, HB3.out⟩
      · rw [E.out]
        go_wp2
        go_ret
        exact ⟨rfl, HB3.out⟩
      · rw [E.out]
        go_wp2
        go_ret
        exact ⟨rfl, HB3.out⟩
  · rw [back_other (.inr (.inr her)), show ldV N (stF N (fun _ => 0) at_ v width) at_ width = 0 from by unfold ldV; rw [if_neg her]]
    have hq : (accE N at_ width == 0) = false := by simpa using her
    have hq' : (accE N at_ width != 0) = true := by simpa using her
    clear her
    go_wp2
    go_ret
    exact ⟨rfl, HB3.out⟩
end Go.Proofs.YtbdnijpbgbplaaaDoor
