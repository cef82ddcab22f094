/- The contracts of the document's Pow, Bit, bits, turned. Conditions: the numbers have at most 64 bits. -/
import Derived.Test.YticgehmpfgdbhaaDoorADo
namespace Go.Proofs.YticgehmpfgdbhaaDoor
open Go.RowKit
set_option maxRecDepth 100000
section
variable {w : World}
theorem pow_any (n : Nat) (hn : n < 64) : Calls Tryd.prog 34 #[.int .i64 (n : Int)] w fun e w' => e = .returned (.int .u64 ((2 ^ n : Nat) : Int)) ∧ w = w' := by
  have HN := Lib.hid hn
  clear hn
  go_enter Tryd.func34, Tryd.ntmps34
  go_wp2_with fail
  go_loop [3, 4] (fun p i => ∃ k : Nat, k ≤ n ∧ i = .int .i64 k ∧ p = .int .u64 ((2 ^ k : Nat) : Int)) (fun _ i => n - (intOf i).toNat)
  case atStart => exact ⟨0, Nat.zero_le _, rfl, rfl⟩
  case round =>
    obtain ⟨k, hk, rfl, rfl⟩ := hrel
    have hn := HN.out
    by_cases hlt : k < n
    · have HP := Lib.hid (show IntKind.u64.wrap (((2 ^ k : Nat) : Int) * 2) = ((2 ^ (k + 1) : Nat) : Int) by
        have h1 := pow_lt64 (show k + 1 < 64 by omega)
        rw [Nat.pow_succ] at h1 ⊢
        rw [IntKind.wrap_u64]
        generalize 2 ^ k = q at h1
        omega)
      generalize hq : ((2 ^ k : Nat) : Int) = q at HP
      clear hq
      go_wp2_with fail
      go_round
      case rel => exact ⟨k + 1, by omega, by go_num, by rw [← HP.out]⟩
      case measure => simp [intOf]; omega
    · obtain rfl : k = n := by omega
      generalize hq : ((2 ^ k : Nat) : Int) = q
      clear hlt
      go_wp2_with fail
      go_ret
      exact ⟨rfl, rfl⟩
theorem testBit_val (a i : Nat) : ((((a / 2 ^ i : Nat) : Int) % 2) == 1) = a.testBit i := by
  rw [Nat.testBit_eq_decide_div_mod_eq, Bool.eq_iff_iff]
  simp only [beq_iff_eq, decide_eq_true_eq]
  omega
theorem bit_any (a i : Nat) (ha : a < 18446744073709551616) (hi : i < 64) : Calls Tryd.prog 35 #[.int .u64 (a : Int), .int .i64 (i : Int)] w fun e w' => e = .returned (.bool (a.testBit i)) ∧ w = w' := by
  have HB := Lib.hid (testBit_val a i)
  have PW := Lib.hid (fun w => pow_any (w := w) i hi)
  have h2 := Nat.two_pow_pos i
  clear hi
  generalize 2 ^ i = q at HB PW h2
  have HQ := Lib.hid (v_quo (b := q) ha)
  have hp : ¬ q = 0 := by omega
  have h0 : 0 ≤ IntKind.u64.wrap ((a : Int) / q) := by rw [HQ.out]; exact Int.natCast_nonneg _
  clear ha h2
  go_enter Tryd.func35, Tryd.ntmps35
  go_wp2_with (go_at_call 34; refine (PW.out _).mono ?_; rintro e w1 ⟨rfl, rfl⟩)
  go_ret
  refine ⟨?_, rfl⟩
  show Ending.returned (.bool (IntKind.u64.wrap ((a : Int) / q) % 2 == 1)) = _
  rw [HQ.out, HB.out]
/-- Which bits the answer has. -/
def bt (z o t x y : Bool) : Bool := x && y && t || x != y && o || !x && !y && z
theorem turned_any (a : Nat) (ha : a < 18446744073709551616) : Calls Tryd.prog 29 #[.int .u64 (a : Int)] w fun e w' => e = .returned (.int .u64 (((a + 9223372036854775808) % 18446744073709551616 : Nat) : Int)) ∧ w = w' := by
  have HA := Lib.hid ha
  clear ha
  go_enter Tryd.func29, Tryd.ntmps29
  go_wp2_with (go_at_call 34; refine (pow_any 63 (by decide)).mono ?_; rintro e w1 ⟨rfl, rfl⟩)
  go_ret
  refine ⟨ret_u ?_, rfl⟩
  have := HA.out
  rw [IntKind.wrap_u64]
  omega
theorem bt_val (z o t x y : Bool) : (x && y && t || x != y && o || !x && !y && z) = bt z o t x y := rfl
theorem bn_step (r q : Nat) {s : Nat} (h : s < 2 ^ 64) (e : s = r + q) : IntKind.u64.wrap ((r : Int) + q) = ((r + q : Nat) : Int) := by
  rw [IntKind.wrap_u64]; omega
set_option maxHeartbeats 4000000 in
theorem bits_any (a b : Nat) (o t : Bool) (ha : a < 18446744073709551616) (hb : b < 18446744073709551616) : Calls Tryd.prog 30 #[.int .u64 (a : Int), .int .u64 (b : Int), .bool false, .bool o, .bool t] w fun e w' => e = .returned (.int .u64 ((bn (fun i => bt false o t (a.testBit i) (b.testBit i)) 64 : Nat) : Int)) ∧ w = w' := by
  have BA := Lib.hid (fun w i hi => bit_any (w := w) a i ha hi)
  have BB := Lib.hid (fun w i hi => bit_any (w := w) b i hb hi)
  clear ha hb
  have ⟨F, hF⟩ : ∃ F : Nat → Bool, F = fun i => bt false o t (a.testBit i) (b.testBit i) := ⟨_, rfl⟩
  rw [← hF]
  have HS : Hid (∀ k, bn F (k + 1) = bn F k + if bt false o t (a.testBit k) (b.testBit k) then 2 ^ k else 0) := Lib.hid (fun k => by rw [hF]; rfl)
  clear hF
  cases o <;> cases t
  all_goals
    go_enter Tryd.func30, Tryd.ntmps30
    go_wp2_with fail
    go_loop [11, 12] (fun v i => ∃ k : Nat, k ≤ 64 ∧ i = .int .i64 k ∧ v = .int .u64 ((bn F k : Nat) : Int)) (fun _ i => 64 - (intOf i).toNat)
    case atStart => exact ⟨0, Nat.zero_le _, rfl, rfl⟩
    case round =>
      obtain ⟨k, hk, rfl, rfl⟩ := hrel
      by_cases hlt : k < 64
      · have HK := Lib.hid hlt
        obtain ⟨x, hx⟩ : ∃ x, x = a.testBit k := ⟨_, rfl⟩
        obtain ⟨y, hy⟩ : ∃ y, y = b.testBit k := ⟨_, rfl⟩
        have HX := Lib.hid hx
        have HY := Lib.hid hy
        have PA := Lib.hid (fun w => BA.out w k hlt)
        have PB := Lib.hid (fun w => BB.out w k hlt)
        have PP := Lib.hid (fun w => pow_any (w := w) k hlt)
        rw [← hx] at PA
        rw [← hy] at PB
        have HV := Lib.hid (HS.out k)
        rw [← hx, ← hy] at HV
        clear hx hy
        have HL := Lib.hid (Nat.lt_of_lt_of_le (bn_lt F (k + 1)) (Nat.pow_le_pow_right (i := k + 1) (j := 64) (by decide) (by omega)))
        generalize hq : 2 ^ k = q at HV PP
        generalize hr : bn F k = r at HV
        clear hq hr
        cases x <;> cases y
        all_goals
          go_wp2_with (first | (go_at_call 34; refine (PP.out _).mono ?_; rintro e w1 ⟨rfl, rfl⟩) | (go_at_call 35; (with_reducible refine (PA.out _).mono ?_); rintro e w1 ⟨rfl, rfl⟩) | (go_at_call 35; (with_reducible refine (PB.out _).mono ?_); rintro e w1 ⟨rfl, rfl⟩))
          go_round
          case rel =>
            have hv := HV.out
            simp [bt] at hv
            exact ⟨k + 1, by omega, by go_num, by first | exact congrArg (Value.int .u64) ((bn_step r q HL.out hv).trans (congrArg _ hv.symm)) | (rw [hv])⟩
          case measure => simp [intOf]; omega
      · obtain rfl : k = 64 := by omega
        clear hlt hk
        go_wp2_with fail
        go_ret
        exact ⟨rfl, rfl⟩
end
end Go.Proofs.YticgehmpfgdbhaaDoor
