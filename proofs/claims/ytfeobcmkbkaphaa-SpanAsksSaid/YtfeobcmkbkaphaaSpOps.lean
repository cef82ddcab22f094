/- The contracts of span's small steps: isSingle, filled, sum, difference, product. Conditions: the numbers have at most 64 bits; spans that are valid. -/
import Derived.Test.YtfeobcmkbkaphaaSpSmall
import Derived.Test.YtfeobcmkbkaphaaShelf
import Derived.Laws.Externs
namespace Go.Proofs.Ytfeobcmkbkaphaa
open Go.RowKit
set_option maxRecDepth 100000
set_option maxHeartbeats 1000000
section
variable {w : World}
theorem isSingle_any (s : Sp) : Ans 30 #[spv s] (.bool (isOne s)) w := by
  obtain ⟨a, b⟩ := s
  have O1 := Lib.hid (fun W => of_any (w := W) a)
  simp only [spv, isOne, one] at O1 ⊢
  have F0 := Lib.hid (Fr.f1 w a b).drew
  have S0 := Lib.hid F0.out.q1
  by_cases h : a = b
  · subst h
    go_enter Try.func30, Try.ntmps30
    go_wp2_with fail
    go_region_held3 (fun w' => S2 w' w.heap.size a a) (first | (with_reducible exact S0.out) | (with_reducible exact S1.out) | go_keep) (first | (go_at_call 12; (with_reducible refine (O1.out _).mono ?_); rintro e w1 ⟨rfl, hb1⟩; have F1 := Lib.hid (F0.out.step hb1); have S1 := Lib.hid F1.out.q1; clear hb1))
    go_wp2_with fail
    go_ret
    exact ⟨by simp, F1.out.below⟩
  · have h' : ((b : Int) == a) = false := by simp; omega
    have HD := Lib.hid (show decide (a = b) = false by simpa using h)
    rw [HD.out]
    go_enter Try.func30, Try.ntmps30
    go_wp2_with fail
    go_region_held3 (fun w' => S2 w' w.heap.size a b) (first | (with_reducible exact S0.out) | (with_reducible exact S1.out) | go_keep) (first | (go_at_call 12; (with_reducible refine (O1.out _).mono ?_); rintro e w1 ⟨rfl, hb1⟩; have F1 := Lib.hid (F0.out.step hb1); have S1 := Lib.hid F1.out.q1; clear hb1))
    go_wp2_with fail
    go_ret
    exact ⟨rfl, F1.out.below⟩
theorem fil_val {k : Nat} (hk : k ≤ 64) : IntKind.u64.wrap (IntKind.u64.wrap ((2 : Int) ^ min k 64) - 1) = ((2 ^ k - 1 : Nat) : Int) := by
  rw [Nat.min_eq_left hk]
  by_cases h : k = 64
  · subst h; decide
  · have h1 := pow_lt64 (show k < 64 by omega)
    have h2 := Nat.two_pow_pos k
    have e : ((2 : Int) ^ k) = ((2 ^ k : Nat) : Int) := by rw [Int.natCast_pow]; rfl
    rw [e, u_in rfl h1]
    exact u_in (by omega) (by omega)
theorem filled_any (n : Nat) (hn : n < 18446744073709551616) : Calls Try.prog 37 #[.int .u64 (n : Int)] w fun e w' => e = .returned (.int .u64 ((fil n : Nat) : Int)) ∧ w = w' := by
  have L1 := Lib.hid (fun W => Try.bits_Len64 (n : Int) W (by omega) (by omega))
  rw [Int.toNat_natCast] at L1
  have hk := bl_le hn
  have HF := Lib.hid (show fil n = 2 ^ Lib.bitLen n - 1 from rfl)
  generalize Lib.bitLen n = k at L1 hk HF
  have HK := Lib.hid hk
  clear hn hk
  go_enter Try.func37, Try.ntmps37
  go_wp2_with (go_at_call 49; (with_reducible refine (L1.out _).mono ?_); rintro e w1 ⟨rfl, rfl⟩)
  go_ret
  refine ⟨?_, rfl⟩
  rw [HF.out]
  exact congrArg (fun z => Ending.returned (.int .u64 z)) (fil_val HK.out)
theorem add64_0 (x y : Nat) (W : World) : (callFunc 47 #[.int .u64 (x : Int), .int .u64 (y : Int), .int .u64 0]).run Try.prog W =
    .ok (.value (.tuple #[.int .u64 (((x + y) % 18446744073709551616 : Nat) : Int), .int .u64 (((x + y) / 18446744073709551616 : Nat) : Int)])) W := by
  rw [run_callFunc_extern Try.func47 (by kernel_rfl) (by kernel_rfl) (by kernel_rfl) (e := add64Entry) (by kernel_rfl), run_add64 (x : Int) (y : Int) 0 (by omega) (by omega) (by omega) (by omega)]
  simp only [Result.andThen]
  congr 5 <;> omega
theorem sum_any (s t : Sp) (hs : s.ok) (ht : t.ok) (ms : s.lo ≤ s.hi) (mt : t.lo ≤ t.hi) : Ans 31 #[spv s, spv t] (spv (addV s t)) w := by
  obtain ⟨a, b⟩ := s
  obtain ⟨c, d⟩ := t
  have A64 := Lib.hid (fun W => add64_0 b d W)
  by_cases h : b + d < 18446744073709551616
  · rw [show addV ⟨a, b⟩ ⟨c, d⟩ = ⟨a + c, b + d⟩ from if_pos h]
    dsimp only at ms mt
    have HL := Lib.hid (u_in (show (a : Int) + c = ((a + c : Nat) : Int) by omega) (by omega))
    rw [Nat.mod_eq_of_lt h, Nat.div_eq_of_lt h] at A64
    generalize b + d = x at A64
    clear h ms mt hs ht
    show Ans _ #[.agg #[.int .u64 (a : Int), .int .u64 (b : Int)], .agg #[.int .u64 (c : Int), .int .u64 (d : Int)]] _ _
    go_enter Try.func31, Try.ntmps31
    go_wp2_with (simp only [A64.out])
    exact done1 rfl rfl rfl third HL.out rfl (by go_grown)
  · rw [show addV ⟨a, b⟩ ⟨c, d⟩ = spAll from if_neg h]
    have hc : (b + d) / 18446744073709551616 = 1 := by
      have := hs.2
      have := ht.2
      dsimp only at *
      omega
    rw [hc] at A64
    generalize (b + d) % 18446744073709551616 = x at A64
    clear h ms mt hs ht hc
    show Ans _ #[.agg #[.int .u64 (a : Int), .int .u64 (b : Int)], .agg #[.int .u64 (c : Int), .int .u64 (d : Int)]] _ _
    go_enter Try.func31, Try.ntmps31
    go_wp2_with (first | simp only [A64.out] | (go_at_call 26; (with_reducible refine (all_any (w := _)).mono ?_); rintro e w1 ⟨rfl, hb1⟩; have F1 := Lib.hid ((Fr.f3 w a b c d).step hb1); clear hb1; obtain ⟨q0, q1⟩ := F1.out.q1; obtain ⟨z0, z1⟩ := F1.out.i1; unfold spv))
    exact done1 rfl rfl rfl (put2 F1.out.1 _ _) rfl rfl (below2 F1.out.below (by omega) _ _)
theorem difference_any (s t : Sp) (hs : s.ok) (ms : s.lo ≤ s.hi) (mt : t.lo ≤ t.hi) : Ans 32 #[spv s, spv t] (spv (subV s t)) w := by
  obtain ⟨a, b⟩ := s
  obtain ⟨c, d⟩ := t
  by_cases h : a < d
  · rw [show subV ⟨a, b⟩ ⟨c, d⟩ = spAll from if_pos h]
    clear ms mt hs
    show Ans _ #[.agg #[.int .u64 (a : Int), .int .u64 (b : Int)], .agg #[.int .u64 (c : Int), .int .u64 (d : Int)]] _ _
    go_enter Try.func32, Try.ntmps32
    go_wp2_with (go_at_call 26; (with_reducible refine (all_any (w := _)).mono ?_); rintro e w1 ⟨rfl, hb1⟩; have F1 := Lib.hid ((Fr.f3 w a b c d).step hb1); clear hb1; obtain ⟨q0, q1⟩ := F1.out.q1; obtain ⟨z0, z1⟩ := F1.out.i1; unfold spv)
    exact done1 rfl rfl rfl (put2 F1.out.1 _ _) rfl rfl (below2 F1.out.below (by omega) _ _)
  · rw [show subV ⟨a, b⟩ ⟨c, d⟩ = ⟨a - d, b - c⟩ from if_neg h]
    have h1 := hs.1
    have h2 := hs.2
    dsimp only at *
    have HL := Lib.hid (u_in (show (a : Int) - d = ((a - d : Nat) : Int) by omega) (by omega))
    have HH := Lib.hid (u_in (show (b : Int) - c = ((b - c : Nat) : Int) by omega) (by omega))
    clear ms mt hs h1 h2
    show Ans _ #[.agg #[.int .u64 (a : Int), .int .u64 (b : Int)], .agg #[.int .u64 (c : Int), .int .u64 (d : Int)]] _ _
    go_enter Try.func32, Try.ntmps32
    go_wp2_with fail
    exact done1 rfl rfl rfl third HL.out HH.out (by go_grown)
theorem product_any (s t : Sp) (hs : s.ok) (ht : t.ok) (ms : s.lo ≤ s.hi) (mt : t.lo ≤ t.hi) : Ans 33 #[spv s, spv t] (spv (mulV s t)) w := by
  obtain ⟨a, b⟩ := s
  obtain ⟨c, d⟩ := t
  have M64 := Lib.hid (fun W => Try.bits_Mul64 b d hs.2 ht.2 W)
  by_cases h : b * d < 18446744073709551616
  · rw [show mulV ⟨a, b⟩ ⟨c, d⟩ = ⟨a * c, b * d⟩ from if_pos h]
    dsimp only at ms mt
    have h1 := Nat.mul_le_mul ms mt
    have HL := Lib.hid (u_in (show (a : Int) * c = ((a * c : Nat) : Int) from (Int.natCast_mul a c).symm) (by omega))
    rw [Nat.mod_eq_of_lt h, Nat.div_eq_of_lt h] at M64
    generalize b * d = x at M64
    generalize a * c = y at HL
    clear h ms mt hs ht h1
    show Ans _ #[.agg #[.int .u64 (a : Int), .int .u64 (b : Int)], .agg #[.int .u64 (c : Int), .int .u64 (d : Int)]] _ _
    go_enter Try.func33, Try.ntmps33
    go_wp2_with (go_at_call 48; (with_reducible refine (M64.out _).mono ?_); rintro e w1 ⟨rfl, rfl⟩)
    exact done1 rfl rfl rfl third HL.out rfl (by go_grown)
  · rw [show mulV ⟨a, b⟩ ⟨c, d⟩ = spAll from if_neg h]
    have hc : ¬ b * d / 18446744073709551616 = 0 := by omega
    generalize b * d % 18446744073709551616 = x at M64
    generalize b * d / 18446744073709551616 = y at M64 hc
    clear h ms mt hs ht
    show Ans _ #[.agg #[.int .u64 (a : Int), .int .u64 (b : Int)], .agg #[.int .u64 (c : Int), .int .u64 (d : Int)]] _ _
    go_enter Try.func33, Try.ntmps33
    go_wp2_with (first | (go_at_call 48; (with_reducible refine (M64.out _).mono ?_); rintro e w1 ⟨rfl, rfl⟩) | (go_at_call 26; (with_reducible refine (all_any (w := _)).mono ?_); rintro e w1 ⟨rfl, hb1⟩; have F1 := Lib.hid ((Fr.f3 w a b c d).step hb1); clear hb1; obtain ⟨q0, q1⟩ := F1.out.q1; obtain ⟨z0, z1⟩ := F1.out.i1; unfold spv))
    exact done1 rfl rfl rfl (put2 F1.out.1 _ _) rfl rfl (below2 F1.out.below (by omega) _ _)
end
end Go.Proofs.Ytfeobcmkbkaphaa
