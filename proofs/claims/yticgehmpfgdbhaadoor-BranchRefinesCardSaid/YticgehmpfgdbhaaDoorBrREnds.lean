/- The contract of the document's ends. Conditions: the numbers have at most 64 bits; not both spans are single. -/
import Derived.Test.YticgehmpfgdbhaaDoorBrWords
namespace Go.Proofs.YticgehmpfgdbhaaDoor
open Go.RowKit
set_option maxRecDepth 100000
set_option maxHeartbeats 4000000
section
variable {w : World}
theorem ends_many (a b c d : Nat) (h : ¬ c = d) : Ans 24 #[.agg #[.int .u64 (a : Int), .int .u64 (b : Int)], .agg #[.int .u64 (c : Int), .int .u64 (d : Int)]] (spv ⟨a, b⟩) w := by
  have n1 : ((c : Int) != d) = true := by simp; omega
  have n2 : ((c : Int) == d) = false := by simp; omega
  clear h
  go_enter Tryd.func24, Tryd.ntmps24
  go_wp2_with fail
  exact done1 (v := ⟨a, b⟩) rfl rfl rfl (Fr.p3 w a b c d a b).2.2.1 rfl rfl (Fr.p3 w a b c d a b).below
theorem ends_first (a b c : Nat) (e : a = c) (hab : a < b) (hb : b < 18446744073709551616) : Ans 24 #[.agg #[.int .u64 (a : Int), .int .u64 (b : Int)], .agg #[.int .u64 (c : Int), .int .u64 (c : Int)]] (spv ⟨a + 1, b⟩) w := by
  have n0 : ((a : Int) == b) = false := by simp; omega
  subst e
  have W1 := Lib.hid (show IntKind.u64.wrap ((a : Int) + 1) = ((a + 1 : Nat) : Int) by rw [IntKind.wrap_u64]; omega)
  have w1 := W1.out
  clear hab hb W1
  generalize a + 1 = q at *
  go_enter Tryd.func24, Tryd.ntmps24
  go_wp2_with fail
  exact done1 (v := ⟨q, b⟩) rfl rfl rfl (Fr.p3 w a b a a q b).2.2.1 rfl rfl (Fr.p3 w a b a a q b).below
theorem ends_last (a b c : Nat) (ne : ¬ a = c) (e : b = c) (hab : a < b) (hb : b < 18446744073709551616) : Ans 24 #[.agg #[.int .u64 (a : Int), .int .u64 (b : Int)], .agg #[.int .u64 (c : Int), .int .u64 (c : Int)]] (spv ⟨a, b - 1⟩) w := by
  have n0 : ((a : Int) == b) = false := by simp; omega
  subst e
  have W1 := Lib.hid (show IntKind.u64.wrap ((b : Int) - 1) = ((b - 1 : Nat) : Int) by rw [IntKind.wrap_u64]; omega)
  have w1 := W1.out
  clear hab hb W1 ne
  generalize b - 1 = q at *
  go_enter Tryd.func24, Tryd.ntmps24
  go_wp2_with fail
  exact done1 (v := ⟨a, q⟩) rfl rfl rfl (Fr.p3 w a b b b a q).2.2.1 rfl rfl (Fr.p3 w a b b b a q).below
theorem ends_mid (a b c : Nat) (ne : ¬ a = c) (ne2 : ¬ b = c) (hab : a < b) : Ans 24 #[.agg #[.int .u64 (a : Int), .int .u64 (b : Int)], .agg #[.int .u64 (c : Int), .int .u64 (c : Int)]] (spv ⟨a, b⟩) w := by
  have n0 : ((a : Int) == b) = false := by simp; omega
  have n1 : ((a : Int) == c) = false := by simp; omega
  have n2 : ((b : Int) == c) = false := by simp; omega
  clear hab ne ne2
  go_enter Tryd.func24, Tryd.ntmps24
  go_wp2_with fail
  exact done1 (v := ⟨a, b⟩) rfl rfl rfl (Fr.p3 w a b c c a b).2.2.1 rfl rfl (Fr.p3 w a b c c a b).below
theorem ends_any (s t : Sp) (ho : ¬ bothOne s t) (ms : s.lo ≤ s.hi) (hs : s.ok) : Ans 24 #[spv s, spv t] (spv (wo s t)) w := by
  obtain ⟨a, b⟩ := s
  obtain ⟨c, d⟩ := t
  have hb : b < 18446744073709551616 := hs.2
  change a ≤ b at ms
  unfold wo
  dsimp only
  by_cases h : c = d
  · subst h
    have hab : a < b := by
      rcases Nat.lt_or_ge a b with k | k
      · exact k
      · exact absurd (show bothOne ⟨a, b⟩ ⟨c, c⟩ from ⟨show a = b by omega, rfl⟩) ho
    rw [if_pos rfl]
    by_cases e : c = a
    · rw [if_pos e]
      exact ends_first a b c e.symm hab hb
    · rw [if_neg e]
      by_cases e2 : c = b
      · rw [if_pos e2]
        exact ends_last a b c (fun k => e k.symm) e2.symm hab hb
      · rw [if_neg e2]
        exact ends_mid a b c (fun k => e k.symm) (fun k => e2 k.symm) hab
  · rw [if_neg h]
    exact ends_many a b c d h
end
end Go.Proofs.YticgehmpfgdbhaaDoor
