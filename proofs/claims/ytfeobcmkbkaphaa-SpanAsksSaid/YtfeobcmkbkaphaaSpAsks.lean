/- The walk of SpanAsks: it returns true, and nothing that was there has turned. Conditions: the numbers have at most 64 bits. -/
import Derived.Test.YtfeobcmkbkaphaaSpRSmall
import Derived.Test.YtfeobcmkbkaphaaSpShown
import Derived.Test.YtfeobcmkbkaphaaSpOpen
namespace Go.Proofs.Ytfeobcmkbkaphaa
open Go.RowKit
set_option maxRecDepth 100000
set_option maxHeartbeats 4000000
section
variable {w : World}
theorem asks_nat (a b c d n : Nat) :
    Ans 3 #[.agg #[.int .u64 (a : Int), .int .u64 (b : Int)], .agg #[.int .u64 (c : Int), .int .u64 (d : Int)], .int .u64 (n : Int)] (.bool true) w := by
  have SH := Lib.hid (fun W => shown_any (w := W))
  have O1 := Lib.hid (fun W => of_any (w := W) n)
  have M1 := Lib.hid (fun W => may_any (w := W) ⟨a, b⟩)
  have M2 := Lib.hid (fun W => rmay_any (w := W) ⟨a, b⟩)
  have H1 := Lib.hid (fun W => has_any (w := W) ⟨a, b⟩ n)
  have H2 := Lib.hid (fun W => rhas_any (w := W) ⟨a, b⟩ n)
  have W1 := Lib.hid (fun W => within_any (w := W) ⟨a, b⟩ ⟨c, d⟩)
  have W2 := Lib.hid (fun W => rwithin_any (w := W) ⟨a, b⟩ ⟨c, d⟩)
  generalize mayV ⟨a, b⟩ = m at M1 M2
  generalize hasV ⟨a, b⟩ n = h at H1 H2
  generalize wiV ⟨a, b⟩ ⟨c, d⟩ = v at W1 W2
  simp only [spv, one] at O1 M1 M2 H1 H2 W1 W2
  go_enter Try.func3, Try.ntmps3
  go_wp2_with (first
    | (go_at_call 11; (with_reducible refine (SH.out _).mono ?_); rintro e wc ⟨rfl, hbc⟩; have FC := Lib.hid ((Fr.p2 w _ _ _ _).step hbc); clear hbc; obtain ⟨q0, q1⟩ := FC.out.q1; obtain ⟨q2, q3⟩ := FC.out.2.q1))
  have FC := Lib.hid FC.out.drew
  have SC := Lib.hid FC.out.s6
  go_region_held3 (fun w' => S6 w' w.heap.size a b c d) (first | (with_reducible exact SC.out) | go_keep) (first
    | (go_at_call 12; (with_reducible refine (O1.out _).mono ?_); rintro e wc ⟨rfl, hbc⟩; have FC := Lib.hid (FC.out.step hbc); have SC := Lib.hid FC.out.s6; clear hbc)
    | (go_at_call 13; (with_reducible refine (M1.out _).mono ?_); rintro e wc ⟨rfl, hbc⟩; have FC := Lib.hid (FC.out.step hbc); have SC := Lib.hid FC.out.s6; clear hbc)
    | (go_at_call 14; (with_reducible refine (M2.out _).mono ?_); rintro e wc ⟨rfl, hbc⟩; have FC := Lib.hid (FC.out.step hbc); have SC := Lib.hid FC.out.s6; clear hbc)
    | (go_at_call 15; (with_reducible refine (H1.out _).mono ?_); rintro e wc ⟨rfl, hbc⟩; have FC := Lib.hid (FC.out.step hbc); have SC := Lib.hid FC.out.s6; clear hbc)
    | (go_at_call 16; (with_reducible refine (H2.out _).mono ?_); rintro e wc ⟨rfl, hbc⟩; have FC := Lib.hid (FC.out.step hbc); have SC := Lib.hid FC.out.s6; clear hbc)
    | (go_at_call 17; (with_reducible refine (W1.out _).mono ?_); rintro e wc ⟨rfl, hbc⟩; have FC := Lib.hid (FC.out.step hbc); have SC := Lib.hid FC.out.s6; clear hbc)
    | (go_at_call 18; (with_reducible refine (W2.out _).mono ?_); rintro e wc ⟨rfl, hbc⟩; have FC := Lib.hid (FC.out.step hbc); have SC := Lib.hid FC.out.s6; clear hbc))
  all_goals
    go_wp2_with fail
    go_ret
    exact ⟨rfl, FC.out.below⟩
theorem asks_row (s t : Sp) (x : Int) (W : World) (h : (Lit.int .u64 x).wf = true) (_hs : s.ok) (_ht : t.ok) :
    Calls Try.prog 3 #[spv s, spv t, .int .u64 x] W fun e w' => e = .returned (.bool true) ∧ Below W.heap.size W w' := by
  obtain ⟨n, rfl, _⟩ := nat_u64 h
  exact asks_nat s.lo s.hi t.lo t.hi n
end
end Go.Proofs.Ytfeobcmkbkaphaa
