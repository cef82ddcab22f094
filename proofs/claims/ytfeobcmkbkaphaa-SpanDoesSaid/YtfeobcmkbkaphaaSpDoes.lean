/- The walk of SpanDoes: it returns true, and nothing that was there has turned. Conditions: the numbers have at most 64 bits. -/
import Derived.Test.YtfeobcmkbkaphaaSpRDo
import Derived.Test.YtfeobcmkbkaphaaSpShown
import Derived.Test.YtfeobcmkbkaphaaSpOpen
namespace Go.Proofs.Ytfeobcmkbkaphaa
open Go.RowKit
set_option maxRecDepth 100000
set_option maxHeartbeats 4000000
section
variable {w : World}
theorem does_nat (op : Int) (a b c d : Nat) (hs : (⟨a, b⟩ : Sp).ok) (ht : (⟨c, d⟩ : Sp).ok) :
    Ans 5 #[.int .i64 op, .agg #[.int .u64 (a : Int), .int .u64 (b : Int)], .agg #[.int .u64 (c : Int), .int .u64 (d : Int)]] (.bool true) w := by
  have SH := Lib.hid (fun W => shown_any (w := W))
  have D1 := Lib.hid (fun W => sdo_any (w := W) op ⟨a, b⟩ ⟨c, d⟩ hs ht)
  have D2 := Lib.hid (fun W => rsdo_any (w := W) op ⟨a, b⟩ ⟨c, d⟩ hs ht)
  generalize sdV op ⟨a, b⟩ ⟨c, d⟩ = v at D1 D2
  generalize sdE op ⟨a, b⟩ ⟨c, d⟩ = E at D1 D2
  obtain ⟨x, y⟩ := v
  simp only [spv] at D1 D2
  clear hs ht
  go_enter Try.func5, Try.ntmps5
  go_wp2_with (first
    | (go_at_call 11; (with_reducible refine (SH.out _).mono ?_); rintro e wc ⟨rfl, hbc⟩; have FC := Lib.hid ((Fr.p2 w _ _ _ _).step hbc); clear hbc; obtain ⟨q0, q1⟩ := FC.out.q1; obtain ⟨q2, q3⟩ := FC.out.2.q1)
    | (go_at_call 23; (with_reducible refine (D1.out _).mono ?_); rintro e wc ⟨rfl, hbc⟩; have FC := Lib.hid ((FC.out.step hbc).put x y); clear hbc; (try clear q0 q1); obtain ⟨q0, q1⟩ := FC.out.q1; (try clear q2 q3); obtain ⟨q2, q3⟩ := FC.out.2.q1)
    | (go_at_call 24; (with_reducible refine (D2.out _).mono ?_); rintro e wc ⟨rfl, hbc⟩; have FC := Lib.hid ((FC.out.step hbc).put x y); clear hbc; (try clear q0 q1); obtain ⟨q0, q1⟩ := FC.out.q1; (try clear q2 q3); obtain ⟨q2, q3⟩ := FC.out.2.q1; (try clear q4 q5); (try (obtain ⟨q4, q5⟩ := FC.out.2.2.q1)); (try clear q6 q7); (try (obtain ⟨q6, q7⟩ := FC.out.2.2.2.q1))))
  go_ret
  exact ⟨rfl, FC.out.below⟩
theorem does_row (x0 : Int) (s t : Sp) (W : World) (_h : (Lit.int .i64 x0).wf = true) (hs : s.ok) (ht : t.ok) :
    Calls Try.prog 5 #[.int .i64 x0, spv s, spv t] W fun e w' => e = .returned (.bool true) ∧ Below W.heap.size W w' :=
  does_nat x0 s.lo s.hi t.lo t.hi hs ht
end
end Go.Proofs.Ytfeobcmkbkaphaa
