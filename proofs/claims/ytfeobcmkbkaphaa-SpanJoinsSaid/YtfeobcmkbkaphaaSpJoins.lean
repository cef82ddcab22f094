/- The walk of SpanJoins: it returns true, and nothing that was there has turned. Conditions: the numbers have at most 64 bits. -/
import Derived.Test.YtfeobcmkbkaphaaSpRSmall
import Derived.Test.YtfeobcmkbkaphaaSpShown
import Derived.Test.YtfeobcmkbkaphaaSpJoin
import Derived.Test.YtfeobcmkbkaphaaSpMeet
import Derived.Test.YtfeobcmkbkaphaaSpOpen
namespace Go.Proofs.Ytfeobcmkbkaphaa
open Go.RowKit
set_option maxRecDepth 100000
set_option maxHeartbeats 4000000
section
variable {w : World}
theorem joins_nat (a b c d : Nat) :
    Ans 4 #[.agg #[.int .u64 (a : Int), .int .u64 (b : Int)], .agg #[.int .u64 (c : Int), .int .u64 (d : Int)]] (.bool true) w := by
  have SH := Lib.hid (fun W => shown_any (w := W))
  have D1 := Lib.hid (fun W => join_any (w := W) ⟨a, b⟩ ⟨c, d⟩)
  have D2 := Lib.hid (fun W => rjoin_any (w := W) ⟨a, b⟩ ⟨c, d⟩)
  have D3 := Lib.hid (fun W => meet_any (w := W) ⟨a, b⟩ ⟨c, d⟩)
  have D4 := Lib.hid (fun W => rmeet_any (w := W) ⟨a, b⟩ ⟨c, d⟩)
  generalize joV ⟨a, b⟩ ⟨c, d⟩ = v at D1 D2
  generalize joE ⟨a, b⟩ ⟨c, d⟩ = E at D1 D2
  generalize meV ⟨a, b⟩ ⟨c, d⟩ = u at D3 D4
  generalize meE ⟨a, b⟩ ⟨c, d⟩ = G at D3 D4
  obtain ⟨x, y⟩ := v
  obtain ⟨p, q⟩ := u
  simp only [spv] at D1 D2 D3 D4
  go_enter Try.func4, Try.ntmps4
  go_wp2_with (first
    | (go_at_call 11; (with_reducible refine (SH.out _).mono ?_); rintro e wc ⟨rfl, hbc⟩; have FC := Lib.hid ((Fr.p2 w _ _ _ _).step hbc); clear hbc; obtain ⟨q0, q1⟩ := FC.out.q1; obtain ⟨q2, q3⟩ := FC.out.2.q1)
    | (go_at_call 19; (with_reducible refine (D1.out _).mono ?_); rintro e wc ⟨rfl, hbc⟩; have FC := Lib.hid ((FC.out.step hbc).put x y); clear hbc; (try clear q0 q1); obtain ⟨q0, q1⟩ := FC.out.q1; (try clear q2 q3); obtain ⟨q2, q3⟩ := FC.out.2.q1)
    | (go_at_call 20; (with_reducible refine (D2.out _).mono ?_); rintro e wc ⟨rfl, hbc⟩; have FC := Lib.hid ((FC.out.step hbc).put x y); clear hbc; (try clear q0 q1); obtain ⟨q0, q1⟩ := FC.out.q1; (try clear q2 q3); obtain ⟨q2, q3⟩ := FC.out.2.q1)
    | (go_at_call 21; (with_reducible refine (D3.out _).mono ?_); rintro e wc ⟨rfl, hbc⟩; have FC := Lib.hid ((FC.out.step hbc).put p q); clear hbc; (try clear q0 q1); obtain ⟨q0, q1⟩ := FC.out.q1; (try clear q2 q3); obtain ⟨q2, q3⟩ := FC.out.2.q1)
    | (go_at_call 22; (with_reducible refine (D4.out _).mono ?_); rintro e wc ⟨rfl, hbc⟩; have FC := Lib.hid ((FC.out.step hbc).put p q); clear hbc; (try clear q0 q1); obtain ⟨q0, q1⟩ := FC.out.q1; (try clear q2 q3); obtain ⟨q2, q3⟩ := FC.out.2.q1; (try clear q4 q5); (try (obtain ⟨q4, q5⟩ := FC.out.2.2.q1)); (try clear q6 q7); (try (obtain ⟨q6, q7⟩ := FC.out.2.2.2.q1)); (try clear q8 q9); (try (obtain ⟨q8, q9⟩ := FC.out.2.2.2.2.q1)); (try clear q10 q11); (try (obtain ⟨q10, q11⟩ := FC.out.2.2.2.2.2.q1))))
  go_ret
  exact ⟨rfl, FC.out.below⟩
theorem joins_row (s t : Sp) (W : World) (_hs : s.ok) (_ht : t.ok) :
    Calls Try.prog 4 #[spv s, spv t] W fun e w' => e = .returned (.bool true) ∧ Below W.heap.size W w' :=
  joins_nat s.lo s.hi t.lo t.hi
end
end Go.Proofs.Ytfeobcmkbkaphaa
