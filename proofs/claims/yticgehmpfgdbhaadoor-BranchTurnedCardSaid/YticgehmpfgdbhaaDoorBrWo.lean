/- The contract of branch.without. Conditions: the numbers have at most 64 bits; not both spans are single. -/
import Derived.Test.YticgehmpfgdbhaaDoorBrSmall
namespace Go.Proofs.YticgehmpfgdbhaaDoor
open Go.RowKit
set_option maxRecDepth 100000
set_option maxHeartbeats 4000000
section
variable {w : World}
theorem wo_many (a b c d : Nat) (h : ¬ c = d) : Ans 26 #[.agg #[.int .u64 (a : Int), .int .u64 (b : Int)], .agg #[.int .u64 (c : Int), .int .u64 (d : Int)]] (spv ⟨a, b⟩) w := by
  have I1 := Lib.hid (fun W => bsingle_any (w := W) ⟨c, d⟩)
  simp only [spv] at I1
  rw [show isOne ⟨c, d⟩ = false by simpa [isOne] using h] at I1
  clear h
  go_enter Tryd.func26, Tryd.ntmps26
  go_wp2_with (go_at_call 17; (with_reducible refine (I1.out _).mono ?_); rintro e wc ⟨rfl, hbc⟩; have FC := Lib.hid ((Fr.p3 w a b c d 0 0).step hbc); clear hbc; obtain ⟨q0, q1⟩ := FC.out.q1; obtain ⟨q2, q3⟩ := FC.out.2.q1; obtain ⟨q4, q5⟩ := FC.out.2.2.q1; obtain ⟨z4, z5⟩ := FC.out.2.2.i1)
  exact done1 (v := ⟨a, b⟩) rfl rfl rfl (put2 FC.out.2.2.1 _ _) rfl rfl (below2 FC.out.below (by omega) _ _)
theorem wo_first (a b c : Nat) (e : c = a) (hab : a < b) (hb : b < 18446744073709551616) : Ans 26 #[.agg #[.int .u64 (a : Int), .int .u64 (b : Int)], .agg #[.int .u64 (c : Int), .int .u64 (c : Int)]] (spv ⟨a + 1, b⟩) w := by
  subst e
  have W1 := Lib.hid (show IntKind.u64.wrap ((c : Int) + 1) = ((c + 1 : Nat) : Int) by rw [IntKind.wrap_u64]; omega)
  have I1 := Lib.hid (fun W => bsingle_any (w := W) ⟨c, c⟩)
  rw [show isOne ⟨c, c⟩ = true by simp [isOne]] at I1
  simp only [spv] at I1
  clear hab hb
  go_enter Tryd.func26, Tryd.ntmps26
  go_wp2_with (go_at_call 17; (with_reducible refine (I1.out _).mono ?_); rintro e wc ⟨rfl, hbc⟩; have FC := Lib.hid ((Fr.p3 w c b c c 0 0).step hbc); clear hbc; obtain ⟨q0, q1⟩ := FC.out.q1; obtain ⟨q2, q3⟩ := FC.out.2.q1; obtain ⟨q4, q5⟩ := FC.out.2.2.q1; obtain ⟨z4, z5⟩ := FC.out.2.2.i1)
  exact done1 (v := ⟨c + 1, b⟩) rfl rfl rfl (put2 FC.out.2.2.1 _ _) W1.out rfl (below2 FC.out.below (by omega) _ _)
theorem wo_last (a b c : Nat) (e : c = b) (hab : a < b) (hb : b < 18446744073709551616) : Ans 26 #[.agg #[.int .u64 (a : Int), .int .u64 (b : Int)], .agg #[.int .u64 (c : Int), .int .u64 (c : Int)]] (spv ⟨a, b - 1⟩) w := by
  subst e
  have W1 := Lib.hid (show IntKind.u64.wrap ((c : Int) - 1) = ((c - 1 : Nat) : Int) by rw [IntKind.wrap_u64]; omega)
  have I1 := Lib.hid (fun W => bsingle_any (w := W) ⟨c, c⟩)
  rw [show isOne ⟨c, c⟩ = true by simp [isOne]] at I1
  simp only [spv] at I1
  have n1 : ((c : Int) == a) = false := by simp; omega
  clear hab hb
  go_enter Tryd.func26, Tryd.ntmps26
  go_wp2_with (go_at_call 17; (with_reducible refine (I1.out _).mono ?_); rintro e wc ⟨rfl, hbc⟩; have FC := Lib.hid ((Fr.p3 w a c c c 0 0).step hbc); clear hbc; obtain ⟨q0, q1⟩ := FC.out.q1; obtain ⟨q2, q3⟩ := FC.out.2.q1; obtain ⟨q4, q5⟩ := FC.out.2.2.q1; obtain ⟨z4, z5⟩ := FC.out.2.2.i1)
  exact done1 (v := ⟨a, c - 1⟩) rfl rfl rfl (put2 FC.out.2.2.1 _ _) rfl W1.out (below2 FC.out.below (by omega) _ _)
theorem wo_mid (a b c : Nat) (ne : ¬ c = a) (ne2 : ¬ c = b) : Ans 26 #[.agg #[.int .u64 (a : Int), .int .u64 (b : Int)], .agg #[.int .u64 (c : Int), .int .u64 (c : Int)]] (spv ⟨a, b⟩) w := by
  have I1 := Lib.hid (fun W => bsingle_any (w := W) ⟨c, c⟩)
  rw [show isOne ⟨c, c⟩ = true by simp [isOne]] at I1
  simp only [spv] at I1
  have n1 : ((c : Int) == a) = false := by simp; omega
  have n2 : ((c : Int) == b) = false := by simp; omega
  clear ne ne2
  go_enter Tryd.func26, Tryd.ntmps26
  go_wp2_with (go_at_call 17; (with_reducible refine (I1.out _).mono ?_); rintro e wc ⟨rfl, hbc⟩; have FC := Lib.hid ((Fr.p3 w a b c c 0 0).step hbc); clear hbc; obtain ⟨q0, q1⟩ := FC.out.q1; obtain ⟨q2, q3⟩ := FC.out.2.q1; obtain ⟨q4, q5⟩ := FC.out.2.2.q1; obtain ⟨z4, z5⟩ := FC.out.2.2.i1)
  exact done1 (v := ⟨a, b⟩) rfl rfl rfl (put2 FC.out.2.2.1 _ _) rfl rfl (below2 FC.out.below (by omega) _ _)
theorem wo_any (s t : Sp) (ho : ¬ bothOne s t) (ms : s.lo ≤ s.hi) (hs : s.ok) : Ans 26 #[spv s, spv t] (spv (wo s t)) w := by
  obtain ⟨a, b⟩ := s
  obtain ⟨c, d⟩ := t
  have hb : b < 18446744073709551616 := hs.2
  change a ≤ b at ms
  unfold wo
  dsimp only
  by_cases h : c = d
  · subst h
    have hab : a < b := by
      rcases Nat.lt_or_ge a b with k | k
      · exact k
      · exact absurd (show bothOne ⟨a, b⟩ ⟨c, c⟩ from ⟨show a = b by omega, rfl⟩) ho
    rw [if_pos rfl]
    by_cases e : c = a
    · rw [if_pos e]
      exact wo_first a b c e hab hb
    · rw [if_neg e]
      by_cases e2 : c = b
      · rw [if_pos e2]
        exact wo_last a b c e2 hab hb
      · rw [if_neg e2]
        exact wo_mid a b c e e2
  · rw [if_neg h]
    exact wo_many a b c d h
end
end Go.Proofs.YticgehmpfgdbhaaDoor
