/- The contract of the document's Do, whatever its arguments. Conditions: the numbers have at most 64 bits. -/
import Derived.Test.YtfeobcmkbkaphaaSpRDo1
import Derived.Test.YtfeobcmkbkaphaaSpRDo2
import Derived.Test.YtfeobcmkbkaphaaSpRDo3
import Derived.Test.YtfeobcmkbkaphaaSpRDo4
import Derived.Test.YtfeobcmkbkaphaaSpRDo5
import Derived.Test.YtfeobcmkbkaphaaSpRDo6
import Derived.Test.YtfeobcmkbkaphaaSpRDo7
namespace Go.Proofs.Ytfeobcmkbkaphaa
open Go.RowKit
set_option maxRecDepth 100000
set_option maxHeartbeats 4000000
section
variable {w : World}
theorem dov_out {op : Int} {a b : Nat} (h : op < 1 ∨ 11 < op) : doV op a b = 0 := by
  unfold doV
  rw [if_neg (by omega), if_neg (by omega), if_neg (by omega), if_neg (by omega), if_neg (by omega), if_neg (by omega), if_neg (by omega), if_neg (by omega), if_neg (by omega), if_neg (by omega), if_neg (by omega)]
theorem tab_out {op : Int} {s t : Sp} (h : op < 1 ∨ 11 < op) : tabV op s t = sp0 := by
  unfold tabV
  rw [if_neg (by omega), if_neg (by omega), if_neg (by omega), if_neg (by omega), if_neg (by omega), if_neg (by omega), if_neg (by omega), if_neg (by omega), if_neg (by omega), if_neg (by omega), if_neg (by omega)]
theorem rsdo_any (op : Int) (s t : Sp) (hs : s.ok) (ht : t.ok) : Ans 24 #[.int .i64 op, spv s, spv t] (.tuple #[spv (sdV op s t), .int .i64 (sdE op s t)]) w := by
  obtain ⟨a, b⟩ := s
  obtain ⟨c, d⟩ := t
  show Ans _ #[.int .i64 op, .agg #[.int .u64 (a : Int), .int .u64 (b : Int)], .agg #[.int .u64 (c : Int), .int .u64 (d : Int)]] _ _
  by_cases h0 : op < 1
  · have e1 : sdV op ⟨a, b⟩ ⟨c, d⟩ = sp0 := by
      unfold sdV
      rw [dov_out (by omega), tab_out (by omega)]
      repeat' split
      all_goals rfl
    have e2 : sdE op ⟨a, b⟩ ⟨c, d⟩ = 1 := by
      unfold sdE doE
      rw [if_neg (show ¬ (1 ≤ op ∧ op ≤ 11) by omega)]
      split <;> rfl
    rw [e1, e2]
    exact rdo_bad1 op a b c d h0
  · by_cases h9 : 11 < op
    · have e1 : sdV op ⟨a, b⟩ ⟨c, d⟩ = sp0 := by
        unfold sdV
        rw [dov_out (by omega), tab_out (by omega)]
        repeat' split
        all_goals rfl
      have e2 : sdE op ⟨a, b⟩ ⟨c, d⟩ = 1 := by
        unfold sdE doE
        rw [if_neg (show ¬ (1 ≤ op ∧ op ≤ 11) by omega)]
        split <;> rfl
      rw [e1, e2]
      exact rdo_bad2 op a b c d h0 h9
    · by_cases ms : a ≤ b
      · by_cases mt : c ≤ d
        · have m1 : mayV ⟨a, b⟩ = true := may_iff.2 ms
          have m2 : mayV ⟨c, d⟩ = true := may_iff.2 mt
          rw [sdE_0 (by omega) m1 m2]
          by_cases hn : a = b ∧ c = d
          · obtain ⟨h1, h2⟩ := hn
            subst h1 h2
            rw [show sdV op ⟨a, a⟩ ⟨c, c⟩ = one (doV op a c) from l_single op a c]
            exact rdo_one op a c h0 h9 hs.1 ht.1
          · have hn : a ≠ b ∨ (a = b ∧ c ≠ d) := by omega
            have ho : (isOne ⟨a, b⟩ && isOne ⟨c, d⟩) = false := by
              cases hh : (isOne ⟨a, b⟩ && isOne ⟨c, d⟩) with
              | false => rfl
              | true =>
                simp only [Bool.and_eq_true, one_iff] at hh
                omega
            rw [sd_tab op m1 m2 ho]
            rcases (show op = 1 ∨ op = 2 ∨ op = 3 ∨ op = 4 ∨ op = 5 ∨ op = 6 ∨ op = 7 ∨ op = 8 ∨ op = 9 ∨ op = 10 ∨ op = 11 by omega) with rfl | rfl | rfl | rfl | rfl | rfl | rfl | rfl | rfl | rfl | rfl
            · show Ans _ _ (.tuple #[spv (addV ⟨a, b⟩ ⟨c, d⟩), _]) _
              by_cases h : b + d < 18446744073709551616
              · rw [show addV ⟨a, b⟩ ⟨c, d⟩ = ⟨a + c, b + d⟩ from if_pos h]
                rcases hn with h1 | ⟨h1, h2⟩
                · exact rdo_add1_i a b c d hs ht ms mt h1 h
                · exact rdo_add1_ii a b c d hs ht ms mt h1 h2 h
              · rw [show addV ⟨a, b⟩ ⟨c, d⟩ = spAll from if_neg h]
                rcases hn with h1 | ⟨h1, h2⟩
                · exact rdo_add2_i a b c d hs ht ms mt h1 h
                · exact rdo_add2_ii a b c d hs ht ms mt h1 h2 h
            · show Ans _ _ (.tuple #[spv (subV ⟨a, b⟩ ⟨c, d⟩), _]) _
              by_cases h : a < d
              · rw [show subV ⟨a, b⟩ ⟨c, d⟩ = spAll from if_pos h]
                rcases hn with h1 | ⟨h1, h2⟩
                · exact rdo_sub2_i a b c d hs ht ms mt h1 h
                · exact rdo_sub2_ii a b c d hs ht ms mt h1 h2 h
              · rw [show subV ⟨a, b⟩ ⟨c, d⟩ = ⟨a - d, b - c⟩ from if_neg h]
                rcases hn with h1 | ⟨h1, h2⟩
                · exact rdo_sub1_i a b c d hs ht ms mt h1 h
                · exact rdo_sub1_ii a b c d hs ht ms mt h1 h2 h
            · show Ans _ _ (.tuple #[spv (mulV ⟨a, b⟩ ⟨c, d⟩), _]) _
              by_cases hd : d = 0
              · obtain rfl : c = 0 := by omega
                subst hd
                rw [show mulV ⟨a, b⟩ ⟨0, 0⟩ = ⟨0, 0⟩ by unfold mulV; rw [if_pos (by simp)]; simp]
                exact rdo_mul0 a b hs ms (by omega)
              · by_cases h : b * d < 18446744073709551616
                · rw [show mulV ⟨a, b⟩ ⟨c, d⟩ = ⟨a * c, b * d⟩ from if_pos h]
                  rcases hn with h1 | ⟨h1, h2⟩
                  · exact rdo_mul1_i a b c d hs ht ms mt h1 hd h
                  · exact rdo_mul1_ii a b c d hs ht ms mt h1 h2 hd h
                · rw [show mulV ⟨a, b⟩ ⟨c, d⟩ = spAll from if_neg h]
                  rcases hn with h1 | ⟨h1, h2⟩
                  · exact rdo_mul2_i a b c d hs ht ms mt h1 hd h
                  · exact rdo_mul2_ii a b c d hs ht ms mt h1 h2 hd h
            · show Ans _ _ (.tuple #[spv (divV ⟨a, b⟩ ⟨c, d⟩), _]) _
              by_cases h : c = 0
              · rw [show divV ⟨a, b⟩ ⟨c, d⟩ = ⟨0, b⟩ from if_pos h]
                rcases hn with h1 | ⟨h1, h2⟩
                · exact rdo_div1_i a b c d hs ht ms mt h1 h
                · exact rdo_div1_ii a b c d hs ht ms mt h1 h2 h
              · rw [show divV ⟨a, b⟩ ⟨c, d⟩ = ⟨a / d, b / c⟩ from if_neg h]
                rcases hn with h1 | ⟨h1, h2⟩
                · exact rdo_div2_i a b c d hs ht ms mt h1 h
                · exact rdo_div2_ii a b c d hs ht ms mt h1 h2 h
            · show Ans _ _ (.tuple #[spv (modV ⟨a, b⟩ ⟨c, d⟩), _]) _
              by_cases h : b < c
              · rw [show modV ⟨a, b⟩ ⟨c, d⟩ = ⟨a, b⟩ from if_pos (.inl h)]
                rcases hn with h1 | ⟨h1, h2⟩
                · exact rdo_mod1_i a b c d hs ht ms mt h1 h
                · exact rdo_mod1_ii a b c d hs ht ms mt h1 h2 h
              · by_cases hd : d = 0
                · obtain rfl : c = 0 := by omega
                  subst hd
                  rw [show modV ⟨a, b⟩ ⟨0, 0⟩ = ⟨a, b⟩ from if_pos (.inr rfl)]
                  exact rdo_mod0 a b hs ms (by omega)
                · have hm : modV ⟨a, b⟩ ⟨c, d⟩ = if c = 0 then ⟨0, b⟩ else ⟨0, min b (d - 1)⟩ := if_neg (fun e => e.elim h (fun e => hd (congrArg Sp.hi e)))
                  rw [hm]
                  by_cases hc : c = 0
                  · rw [if_pos hc]
                    rcases hn with h1 | ⟨h1, h2⟩
                    · exact rdo_mod3_i a b c d hs ht ms mt h1 h hd hc
                    · exact rdo_mod3_ii a b c d hs ht ms mt h1 h2 h hd hc
                  · rw [if_neg hc]
                    rcases hn with h1 | ⟨h1, h2⟩
                    · exact rdo_mod4_i a b c d hs ht ms mt h1 h hd hc
                    · exact rdo_mod4_ii a b c d hs ht ms mt h1 h2 h hd hc
            · rcases hn with h1 | ⟨h1, h2⟩
              · exact rdo_and8_i a b c d hs ht ms mt h1
              · exact rdo_and8_ii a b c d hs ht ms mt h1 h2
            · rcases hn with h1 | ⟨h1, h2⟩
              · exact rdo_or8_i a b c d hs ht ms mt h1
              · exact rdo_or8_ii a b c d hs ht ms mt h1 h2
            · rcases hn with h1 | ⟨h1, h2⟩
              · exact rdo_xor8_i a b c d hs ht ms mt h1
              · exact rdo_xor8_ii a b c d hs ht ms mt h1 h2
            · show Ans _ _ (.tuple #[spv (shlV ⟨a, b⟩ ⟨c, d⟩), _]) _
              by_cases hc : c = d
              · subst hc
                have h1 : a ≠ b := by omega
                by_cases h : b ≤ 18446744073709551615 / 2 ^ (c % 64)
                · rw [show shlV ⟨a, b⟩ ⟨c, c⟩ = ⟨a * 2 ^ (c % 64), b * 2 ^ (c % 64)⟩ from if_pos ⟨rfl, h⟩]
                  exact rdo_shl1 a b c hs ht ms mt h1 h
                · rw [show shlV ⟨a, b⟩ ⟨c, c⟩ = spAll from if_neg (fun e => h e.2)]
                  exact rdo_shl2 a b c hs ht ms mt h1 h
              · rw [show shlV ⟨a, b⟩ ⟨c, d⟩ = spAll from if_neg (fun e => hc e.1)]
                rcases hn with h1 | ⟨h1, h2⟩
                · exact rdo_shl3_i a b c d hs ht ms mt h1 hc
                · exact rdo_shl3_ii a b c d hs ht ms mt h1 h2 hc
            · show Ans _ _ (.tuple #[spv (shrV ⟨a, b⟩ ⟨c, d⟩), _]) _
              by_cases hc : c = d
              · subst hc
                have h1 : a ≠ b := by omega
                rw [show shrV ⟨a, b⟩ ⟨c, c⟩ = ⟨a / 2 ^ (c % 64), b / 2 ^ (c % 64)⟩ from if_pos rfl]
                exact rdo_shr1 a b c hs ht ms mt h1
              · rw [show shrV ⟨a, b⟩ ⟨c, d⟩ = ⟨0, b⟩ from if_neg hc]
                rcases hn with h1 | ⟨h1, h2⟩
                · exact rdo_shr3_i a b c d hs ht ms mt h1 hc
                · exact rdo_shr3_ii a b c d hs ht ms mt h1 h2 hc
            · show Ans _ _ (.tuple #[spv (sarV ⟨a, b⟩ ⟨c, d⟩), _]) _
              by_cases h5 : 9223372036854775808 ≤ b
              · rw [show sarV ⟨a, b⟩ ⟨c, d⟩ = spAll from if_pos h5]
                by_cases hc : c = d
                · subst hc
                  exact rdo_sar2 a b c hs ht ms mt (by omega) h5
                · rcases hn with h1 | ⟨h1, h2⟩
                  · exact rdo_sar4_i a b c d hs ht ms mt h1 hc h5
                  · exact rdo_sar4_ii a b c d hs ht ms mt h1 h2 hc h5
              · rw [show sarV ⟨a, b⟩ ⟨c, d⟩ = shrV ⟨a, b⟩ ⟨c, d⟩ from if_neg h5]
                by_cases hc : c = d
                · subst hc
                  rw [show shrV ⟨a, b⟩ ⟨c, c⟩ = ⟨a / 2 ^ (c % 64), b / 2 ^ (c % 64)⟩ from if_pos rfl]
                  exact rdo_sar1 a b c hs ht ms mt (by omega) h5
                · rw [show shrV ⟨a, b⟩ ⟨c, d⟩ = ⟨0, b⟩ from if_neg hc]
                  rcases hn with h1 | ⟨h1, h2⟩
                  · exact rdo_sar3_i a b c d hs ht ms mt h1 hc h5
                  · exact rdo_sar3_ii a b c d hs ht ms mt h1 h2 hc h5
        · have m2 : mayV ⟨c, d⟩ = false := by simpa [mayV] using mt
          rw [show sdV op ⟨a, b⟩ ⟨c, d⟩ = sp0 by unfold sdV; rw [m2, Bool.and_false]; rfl, show sdE op ⟨a, b⟩ ⟨c, d⟩ = 1 by unfold sdE; rw [m2, Bool.and_false]; rfl]
          exact rdo_bad4 op a b c d h0 h9 ms mt
      · have m1 : mayV ⟨a, b⟩ = false := by simpa [mayV] using ms
        rw [show sdV op ⟨a, b⟩ ⟨c, d⟩ = sp0 by unfold sdV; rw [m1]; rfl, show sdE op ⟨a, b⟩ ⟨c, d⟩ = 1 by unfold sdE; rw [m1]; rfl]
        exact rdo_bad3 op a b c d h0 h9 ms
end
end Go.Proofs.Ytfeobcmkbkaphaa
