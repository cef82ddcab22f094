/- The walk of AluShifts: it returns true, and nothing that was there has turned. Conditions: the numbers have at most 64 bits; Not's table lies in its block. -/
import Derived.Test.YtlkihmjaigojmaaDoorAShown
namespace Go.Proofs.YtlkihmjaigojmaaDoor
open Go.RowKit
set_option maxRecDepth 100000
theorem shifts7_nat (a k : Nat) (ha : a < 18446744073709551616) (hk8 : k < 256) (w : World) (T : Hid (Nots w)) :
    Calls Tryd.prog 6 #[.int .u64 (a : Int), .int .u8 (k : Int)] w fun e w' => e = .returned (.bool true) ∧ w = w' := by
  have SH := Lib.hid (shown_any T)
  have h1 : 1 < 18446744073709551616 := by decide
  have hk : k % 64 < 64 := Nat.mod_lt k (by decide)
  obtain ⟨n, hn⟩ : ∃ n, n = k % 64 := ⟨_, rfl⟩
  rw [← hn] at hk
  have hk6 : k < 18446744073709551616 := by omega
  have hn6 : n < 18446744073709551616 := by omega
  have hm6 : 64 - n < 18446744073709551616 := by omega
  have hnn : n % 64 = n := Nat.mod_eq_of_lt hk
  obtain ⟨p, hp, ep, Dp⟩ := dw_new w 9 1 n (by decide) h1 hn6
  obtain ⟨l, hl, el, Dl⟩ := dw_new w 9 a k (by decide) ha hk6
  obtain ⟨r, hr, er, Dr⟩ := dw_new w 10 a k (by decide) ha hk6
  obtain ⟨s, hs, es, Ds⟩ := dw_new w 11 a k (by decide) ha hk6
  obtain ⟨q, hq, eq, Dq⟩ := dw_new w 9 1 (64 - n) (by decide) h1 hm6
  obtain ⟨t, ht, et, Dt⟩ := dw_new w 9 r n (by decide) hr hn6
  have el' : l = a * 2 ^ n % 18446744073709551616 := by rw [el, hn]; rfl
  have er' : r = a / 2 ^ n := by rw [er, hn]; rfl
  have es' : s = sar a n := by rw [es, hn]; rfl
  have ep' : p = 2 ^ n := by rw [ep]; show 1 * 2 ^ (n % 64) % 18446744073709551616 = _; rw [hnn, Nat.one_mul, Nat.mod_eq_of_lt (pow_lt64 hk)]
  have D1 := dw_is w 9 s n (by decide) hs hn6 (v := t) (by rw [et, es', er']; show sar a n * 2 ^ (n % 64) % 18446744073709551616 = a / 2 ^ n * 2 ^ (n % 64) % 18446744073709551616; rw [hnn]; exact l_sar hk)
  have D2 := dw_is w 10 l n (by decide) hl hn6 (v := a % 2 ^ (64 - n)) (by rw [el']; show a * 2 ^ n % 18446744073709551616 / 2 ^ (n % 64) = _; rw [hnn]; exact l_back hk)
  have p0 : ¬ p = 0 := by rw [ep']; have := Nat.two_pow_pos n; omega
  have VL : IntKind.u64.wrap ((a : Int) * (p : Int)) = (l : Int) := by rw [el', ep']; rw [IntKind.wrap_u64, ← Int.natCast_mul]; rfl
  have VR : IntKind.u64.wrap ((a : Int) / (p : Int)) = (r : Int) := by rw [v_quo ha, er', ep']
  have VS : (s : Int) / 9223372036854775808 = (a : Int) / 9223372036854775808 := by have := l_sign ha hk; rw [← es'] at this; omega
  have KC : (k : Int) % 64 = (n : Int) := by omega
  by_cases h0 : n = 0
  · rw [show a % 2 ^ (64 - n) = a by rw [h0]; exact Nat.mod_eq_of_lt ha] at D2
    clear ha h1 hk hn hk6 hn6 hm6 hnn hp ep hl el hr er hs es hq eq ht et el' er' es' ep'
    subst h0
    simp only [Dw, Int.natCast_zero, Int.natCast_one] at Dp Dt D1 D2 KC
    go_enter Tryd.func6, Tryd.ntmps6
    go_wp2_with (first
      | (go_at_call 10; (with_reducible refine SH.out.mono ?_); rintro e w1 ⟨rfl, rfl⟩)
      | (go_at_call 17; (with_reducible refine Dp.out.mono ?_); rintro e w1 ⟨rfl, rfl⟩)
      | (go_at_call 17; (with_reducible refine Dl.out.mono ?_); rintro e w1 ⟨rfl, rfl⟩)
      | (go_at_call 17; (with_reducible refine Dr.out.mono ?_); rintro e w1 ⟨rfl, rfl⟩)
      | (go_at_call 17; (with_reducible refine Ds.out.mono ?_); rintro e w1 ⟨rfl, rfl⟩)
      | (go_at_call 17; (with_reducible refine Dq.out.mono ?_); rintro e w1 ⟨rfl, rfl⟩)
      | (go_at_call 17; (with_reducible refine Dt.out.mono ?_); rintro e w1 ⟨rfl, rfl⟩)
      | (go_at_call 17; (with_reducible refine D1.out.mono ?_); rintro e w1 ⟨rfl, rfl⟩)
      | (go_at_call 17; (with_reducible refine D2.out.mono ?_); rintro e w1 ⟨rfl, rfl⟩))
    go_ret
    exact ⟨rfl, rfl⟩
  · have eq' : q = 2 ^ (64 - n) := by rw [eq]; show 1 * 2 ^ ((64 - n) % 64) % 18446744073709551616 = _; rw [Nat.mod_eq_of_lt (show 64 - n < 64 by omega), Nat.one_mul, Nat.mod_eq_of_lt (pow_lt64 (show 64 - n < 64 by omega))]
    have q0 : ¬ q = 0 := by rw [eq']; have := Nat.two_pow_pos (64 - n); omega
    rw [← eq'] at D2
    have g0 : 0 < n := by omega
    have SB : (64 : Int) - (n : Int) = ((64 - n : Nat) : Int) := by omega
    clear ha h1 hk hn hk6 hn6 hm6 hnn hp ep hl el hr er hs es hq eq ht et el' er' es' ep' h0 eq'
    simp only [Dw, Int.natCast_one] at Dp Dq
    go_enter Tryd.func6, Tryd.ntmps6
    go_wp2_with (first
      | (go_at_call 10; (with_reducible refine SH.out.mono ?_); rintro e w1 ⟨rfl, rfl⟩)
      | (go_at_call 17; (with_reducible refine Dp.out.mono ?_); rintro e w1 ⟨rfl, rfl⟩)
      | (go_at_call 17; (with_reducible refine Dl.out.mono ?_); rintro e w1 ⟨rfl, rfl⟩)
      | (go_at_call 17; (with_reducible refine Dr.out.mono ?_); rintro e w1 ⟨rfl, rfl⟩)
      | (go_at_call 17; (with_reducible refine Ds.out.mono ?_); rintro e w1 ⟨rfl, rfl⟩)
      | (go_at_call 17; (with_reducible refine Dq.out.mono ?_); rintro e w1 ⟨rfl, rfl⟩)
      | (go_at_call 17; (with_reducible refine Dt.out.mono ?_); rintro e w1 ⟨rfl, rfl⟩)
      | (go_at_call 17; (with_reducible refine D1.out.mono ?_); rintro e w1 ⟨rfl, rfl⟩)
      | (go_at_call 17; (with_reducible refine D2.out.mono ?_); rintro e w1 ⟨rfl, rfl⟩))
    go_ret
    exact ⟨rfl, rfl⟩
theorem shifts7_walk (x0 x1 : Int) (w : World) (h0 : (Lit.int .u64 x0).wf = true) (h1 : (Lit.int .u8 x1).wf = true) (hT : Nots w) (_hB : True) :
    Calls Tryd.prog 6 #[.int .u64 x0, .int .u8 x1] w fun e w' => e = .returned (.bool true) ∧ Below w.heap.size w w' := by
  obtain ⟨a0, rfl, b0⟩ := nat_u64 h0
  obtain ⟨a1, rfl, b1⟩ := nat_u8 h1
  exact (shifts7_nat a0 a1 b0 b1 w (Lib.hid hT)).mono fun _ _ h => ⟨h.1, by rw [← h.2]; exact Below.refl _ _⟩
end Go.Proofs.YtlkihmjaigojmaaDoor
