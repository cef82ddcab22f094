/- The contract of the document's Filled. Condition: the number has at most 64 bits. -/
import Derived.Test.YtfeobcmkbkaphaaSpOps2
namespace Go.Proofs.Ytfeobcmkbkaphaa
open Go.RowKit
set_option maxRecDepth 100000
set_option maxHeartbeats 4000000
section
variable {w : World}
theorem rfilled_any (n : Nat) (hn : n < 18446744073709551616) : Calls Try.prog 44 #[.int .u64 (n : Int)] w fun e w' => e = .returned (.int .u64 ((fil n : Nat) : Int)) ∧ w = w' := by
  have HN := Lib.hid hn
  clear hn
  go_enter Try.func44, Try.ntmps44
  go_wp2_with fail
  go_loop [3] (fun f => ∃ k x : Nat, k ≤ Lib.bitLen n ∧ x = 2 ^ k - 1 ∧ f = .int .u64 (x : Int)) (fun f => 18446744073709551616 - (intOf f).toNat)
  case atStart => exact ⟨0, 0, Nat.zero_le _, rfl, rfl⟩
  case round =>
    obtain ⟨k, x, hk, hx, rfl⟩ := hrel
    have hl := bl_le HN.out
    have h2 := Nat.two_pow_pos k
    have hx64 : x < 18446744073709551616 := by
      have : 2 ^ k ≤ 2 ^ 64 := Nat.pow_le_pow_right (by decide) (by omega)
      omega
    by_cases hlt : x < n
    · have hk2 : k < Lib.bitLen n := by
        rcases Nat.lt_or_ge k (Lib.bitLen n) with h | h
        · exact h
        · obtain rfl : k = Lib.bitLen n := by omega
          have := bl_lt HN.out
          omega
      have h3 : 2 ^ (k + 1) ≤ 2 ^ 64 := Nat.pow_le_pow_right (by decide) (by omega)
      have h4 : 2 ^ (k + 1) = 2 ^ k * 2 := Nat.pow_succ ..
      have hm : IntKind.u64.wrap (2 * (x : Int)) = ((2 * x : Nat) : Int) := u_in (by omega) (by omega)
      have HA : Hid (IntKind.u64.wrap (((2 * x : Nat) : Int) + 1) = ((2 * x + 1 : Nat) : Int)) := Lib.hid (u_in (by omega) (by omega))
      have HX := Lib.hid (show 2 * x + 1 = 2 ^ (k + 1) - 1 by omega)
      have HK := Lib.hid hk2
      have H64 := Lib.hid (show 2 * x + 1 < 18446744073709551616 by omega)
      have HY := Lib.hid (show x < 2 * x + 1 by omega)
      generalize 2 * x = y at hm HA HX H64 HY
      have hw := HA.out
      generalize y + 1 = z at hw HX H64 HY
      clear hk hx hl h2 hx64 hk2 h3 h4 HA
      go_wp2_with fail
      go_round
      case rel => exact ⟨k + 1, z, HK.out, HX.out, rfl⟩
      case measure => have := HY.out; have := H64.out; simp [intOf]; omega
    · have HE : Hid (x = fil n) := Lib.hid (by
        rcases Nat.lt_or_ge k (Lib.bitLen n) with h | h
        · have := bl_ge HN.out h
          omega
        · obtain rfl : k = Lib.bitLen n := by omega
          exact hx)
      clear hk hx hl h2 hx64
      go_wp2_with fail
      go_ret
      rw [HE.out]
      exact ⟨rfl, rfl⟩
end
end Go.Proofs.Ytfeobcmkbkaphaa
