/- The contract of span.Do: whatever its arguments. Conditions: the numbers have at most 64 bits; spans that are valid where an operation reckons with them. -/
import Derived.Test.YtfeobcmkbkaphaaSpDo1
import Derived.Test.YtfeobcmkbkaphaaSpDo2
import Derived.Test.YtfeobcmkbkaphaaSpDo3
import Derived.Test.YtfeobcmkbkaphaaSpDo4
namespace Go.Proofs.Ytfeobcmkbkaphaa
open Go.RowKit
set_option maxRecDepth 100000
set_option maxHeartbeats 4000000
section
variable {w : World}
theorem sdo_any (op : Int) (s t : Sp) (hs : s.ok) (ht : t.ok) : Ans 23 #[.int .i64 op, spv s, spv t] (.tuple #[spv (sdV op s t), .int .i64 (sdE op s t)]) w := by
  obtain ⟨a, b⟩ := s
  obtain ⟨c, d⟩ := t
  show Ans _ #[.int .i64 op, .agg #[.int .u64 (a : Int), .int .u64 (b : Int)], .agg #[.int .u64 (c : Int), .int .u64 (d : Int)]] _ _
  by_cases ms : a ≤ b
  · by_cases mt : c ≤ d
    · have m1 : mayV ⟨a, b⟩ = true := may_iff.2 ms
      have m2 : mayV ⟨c, d⟩ = true := may_iff.2 mt
      have e2 : sdE op ⟨a, b⟩ ⟨c, d⟩ = doE op := by unfold sdE; rw [m1, m2]; rfl
      rw [e2]
      cases ho : (isOne ⟨a, b⟩ && isOne ⟨c, d⟩) with
      | true =>
        rw [show sdV op ⟨a, b⟩ ⟨c, d⟩ = one (doV op a c) by unfold sdV; rw [m1, m2, ho]; rfl]
        simp only [Bool.and_eq_true, one_iff] at ho
        obtain ⟨h1, h2⟩ := ho
        subst h1 h2
        exact sdo_one op a c hs.1 ht.1
      | false =>
        rw [sd_tab op m1 m2 ho]
        by_cases h : op < 1 ∨ 11 < op
        · rw [show doE op = 1 by unfold doE; rw [if_neg (by omega)]]
          rw [show tabV op ⟨a, b⟩ ⟨c, d⟩ = sp0 by unfold tabV; rw [if_neg (by omega), if_neg (by omega), if_neg (by omega), if_neg (by omega), if_neg (by omega), if_neg (by omega), if_neg (by omega), if_neg (by omega), if_neg (by omega), if_neg (by omega), if_neg (by omega)]]
          exact sdo_no op a b c d h ms mt ho
        · rcases (show op = 1 ∨ op = 2 ∨ op = 3 ∨ op = 4 ∨ op = 5 ∨ op = 6 ∨ op = 7 ∨ op = 8 ∨ op = 9 ∨ op = 10 ∨ op = 11 by omega) with rfl | rfl | rfl | rfl | rfl | rfl | rfl | rfl | rfl | rfl | rfl
          · exact sdo_add a b c d hs ht ms mt ho
          · exact sdo_sub a b c d hs ht ms mt ho
          · exact sdo_mul a b c d hs ht ms mt ho
          · exact sdo_div a b c d hs ht ms mt ho
          · exact sdo_mod a b c d hs ht ms mt ho
          · exact sdo_and a b c d hs ht ms mt ho
          · exact sdo_or a b c d hs ht ms mt ho
          · exact sdo_xor a b c d hs ht ms mt ho
          · exact sdo_shl a b c d hs ht ms mt ho
          · exact sdo_shr a b c d hs ht ms mt ho
          · exact sdo_sar a b c d hs ht ms mt ho
    · have m2 : mayV ⟨c, d⟩ = false := by simpa [mayV] using mt
      rw [show sdV op ⟨a, b⟩ ⟨c, d⟩ = sp0 by unfold sdV; rw [m2, Bool.and_false]; rfl, show sdE op ⟨a, b⟩ ⟨c, d⟩ = 1 by unfold sdE; rw [m2, Bool.and_false]; rfl]
      exact sdo_bad2 op a b c d ms mt
  · have m1 : mayV ⟨a, b⟩ = false := by simpa [mayV] using ms
    rw [show sdV op ⟨a, b⟩ ⟨c, d⟩ = sp0 by unfold sdV; rw [m1]; rfl, show sdE op ⟨a, b⟩ ⟨c, d⟩ = 1 by unfold sdE; rw [m1]; rfl]
    exact sdo_bad1 op a b c d ms
end
end Go.Proofs.Ytfeobcmkbkaphaa
