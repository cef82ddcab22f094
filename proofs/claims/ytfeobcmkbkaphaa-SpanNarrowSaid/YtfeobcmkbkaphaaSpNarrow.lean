/- The walk of SpanNarrow: it returns true, and nothing that was there has turned. Conditions: the numbers have at most 64 bits. -/
import Derived.Test.YtfeobcmkbkaphaaSpFrame
import Derived.Test.YtfeobcmkbkaphaaSpJoin
namespace Go.Proofs.Ytfeobcmkbkaphaa
open Go.RowKit
set_option maxRecDepth 100000
set_option maxHeartbeats 4000000
section
variable {w : World}
theorem narrow_nat (a b c d e f g h : Nat) (hs : (⟨a, b⟩ : Sp).ok) (ht : (⟨c, d⟩ : Sp).ok) (hu : (⟨e, f⟩ : Sp).ok) (hv : (⟨g, h⟩ : Sp).ok) :
    Ans 8 #[.agg #[.int .u64 (a : Int), .int .u64 (b : Int)], .agg #[.int .u64 (c : Int), .int .u64 (d : Int)], .agg #[.int .u64 (e : Int), .int .u64 (f : Int)], .agg #[.int .u64 (g : Int), .int .u64 (h : Int)]] (.bool true) w := by
  have SH := Lib.hid (fun W => shown_any (w := W))
  have W1 := Lib.hid (fun W => within_any (w := W) ⟨a, b⟩ ⟨e, f⟩)
  have W2 := Lib.hid (fun W => within_any (w := W) ⟨c, d⟩ ⟨g, h⟩)
  simp only [spv] at W1 W2
  cases h1 : wiV ⟨a, b⟩ ⟨e, f⟩ with
  | false =>
    rw [h1] at W1
    clear h1 W2 hs ht hu hv
    go_enter Try.func8, Try.ntmps8
    go_wp2_with (first
      | (go_at_call 11; (with_reducible refine (SH.out _).mono ?_); rintro e wc ⟨rfl, hbc⟩; have FC := Lib.hid ((Fr.p4 w a b c d e f g h).step hbc); clear hbc; obtain ⟨q0, q1⟩ := FC.out.q1; obtain ⟨q2, q3⟩ := FC.out.2.q1; obtain ⟨q4, q5⟩ := FC.out.2.2.q1; obtain ⟨q6, q7⟩ := FC.out.2.2.2.q1)
      | (go_at_call 17; (with_reducible refine (W1.out _).mono ?_); rintro e wc ⟨rfl, hbc⟩; have FC := Lib.hid (FC.out.step hbc); clear hbc; (try clear q0 q1); (try clear q2 q3); (try clear q4 q5); (try clear q6 q7); obtain ⟨q0, q1⟩ := FC.out.q1; obtain ⟨q2, q3⟩ := FC.out.2.q1; obtain ⟨q4, q5⟩ := FC.out.2.2.q1; obtain ⟨q6, q7⟩ := FC.out.2.2.2.q1))
    go_ret
    exact ⟨rfl, FC.out.below⟩
  | true =>
    cases h2 : wiV ⟨c, d⟩ ⟨g, h⟩ with
    | false =>
      rw [h1] at W1
      rw [h2] at W2
      clear h1 h2 hs ht hu hv
      go_enter Try.func8, Try.ntmps8
      go_wp2_with (first
        | (go_at_call 11; (with_reducible refine (SH.out _).mono ?_); rintro e wc ⟨rfl, hbc⟩; have FC := Lib.hid ((Fr.p4 w a b c d e f g h).step hbc); clear hbc; obtain ⟨q0, q1⟩ := FC.out.q1; obtain ⟨q2, q3⟩ := FC.out.2.q1; obtain ⟨q4, q5⟩ := FC.out.2.2.q1; obtain ⟨q6, q7⟩ := FC.out.2.2.2.q1)
        | (go_at_call 17; (with_reducible refine (W1.out _).mono ?_); rintro e wc ⟨rfl, hbc⟩; have FC := Lib.hid (FC.out.step hbc); clear hbc; (try clear q0 q1); (try clear q2 q3); (try clear q4 q5); (try clear q6 q7); obtain ⟨q0, q1⟩ := FC.out.q1; obtain ⟨q2, q3⟩ := FC.out.2.q1; obtain ⟨q4, q5⟩ := FC.out.2.2.q1; obtain ⟨q6, q7⟩ := FC.out.2.2.2.q1)
        | (go_at_call 17; (with_reducible refine (W2.out _).mono ?_); rintro e wc ⟨rfl, hbc⟩; have FC := Lib.hid (FC.out.step hbc); clear hbc; (try clear q0 q1); (try clear q2 q3); (try clear q4 q5); (try clear q6 q7); obtain ⟨q0, q1⟩ := FC.out.q1; obtain ⟨q2, q3⟩ := FC.out.2.q1; obtain ⟨q4, q5⟩ := FC.out.2.2.q1; obtain ⟨q6, q7⟩ := FC.out.2.2.2.q1))
      go_ret
      exact ⟨rfl, FC.out.below⟩
    | true =>
      have ms := wi_may h1
      have mt := wi_may h2
      have l1 := l_add_mono hs ht hu hv h1 h2
      have l2 := l_mul_mono hs ht hu hv h1 h2
      have l3 := l_jo_mono h1 h2
      have D1 := Lib.hid (fun W => sdo_any (w := W) 1 ⟨a, b⟩ ⟨c, d⟩ hs ht)
      have D2 := Lib.hid (fun W => sdo_any (w := W) 1 ⟨e, f⟩ ⟨g, h⟩ hu hv)
      have D3 := Lib.hid (fun W => sdo_any (w := W) 3 ⟨a, b⟩ ⟨c, d⟩ hs ht)
      have D4 := Lib.hid (fun W => sdo_any (w := W) 3 ⟨e, f⟩ ⟨g, h⟩ hu hv)
      have D5 := Lib.hid (fun W => join_any (w := W) ⟨a, b⟩ ⟨c, d⟩)
      have D6 := Lib.hid (fun W => join_any (w := W) ⟨e, f⟩ ⟨g, h⟩)
      rw [sdE_0 (by decide) ms.1 mt.1] at D1 D3
      rw [sdE_0 (by decide) ms.2 mt.2] at D2 D4
      rw [(jo_ok0 ms.1 mt.1).1] at D5
      rw [(jo_ok0 ms.2 mt.2).1] at D6
      rw [h1] at W1
      rw [h2] at W2
      clear h1 h2 hs ht hu hv ms mt
      generalize sdV 1 ⟨a, b⟩ ⟨c, d⟩ = v1 at D1 l1
      generalize sdV 1 ⟨e, f⟩ ⟨g, h⟩ = v2 at D2 l1
      generalize sdV 3 ⟨a, b⟩ ⟨c, d⟩ = v3 at D3 l2
      generalize sdV 3 ⟨e, f⟩ ⟨g, h⟩ = v4 at D4 l2
      generalize joV ⟨a, b⟩ ⟨c, d⟩ = v5 at D5 l3
      generalize joV ⟨e, f⟩ ⟨g, h⟩ = v6 at D6 l3
      have W3 := Lib.hid (fun W => within_any (w := W) v1 v2)
      have W4 := Lib.hid (fun W => within_any (w := W) v3 v4)
      have W5 := Lib.hid (fun W => within_any (w := W) v5 v6)
      rw [l1] at W3
      rw [l2] at W4
      rw [l3] at W5
      clear l1 l2 l3
      obtain ⟨x1, y1⟩ := v1
      obtain ⟨x2, y2⟩ := v2
      obtain ⟨x3, y3⟩ := v3
      obtain ⟨x4, y4⟩ := v4
      obtain ⟨x5, y5⟩ := v5
      obtain ⟨x6, y6⟩ := v6
      simp only [spv] at D1 D2 D3 D4 D5 D6 W3 W4 W5
      go_enter Try.func8, Try.ntmps8
      go_wp2_with (first
        | (go_at_call 11; (with_reducible refine (SH.out _).mono ?_); rintro e wc ⟨rfl, hbc⟩; have FC := Lib.hid ((Fr.p4 w a b c d e f g h).step hbc); clear hbc; obtain ⟨q0, q1⟩ := FC.out.q1; obtain ⟨q2, q3⟩ := FC.out.2.q1; obtain ⟨q4, q5⟩ := FC.out.2.2.q1; obtain ⟨q6, q7⟩ := FC.out.2.2.2.q1)
        | (go_at_call 17; (with_reducible refine (W1.out _).mono ?_); rintro e wc ⟨rfl, hbc⟩; have FC := Lib.hid (FC.out.step hbc); clear hbc; (try clear q0 q1); (try clear q2 q3); (try clear q4 q5); (try clear q6 q7); obtain ⟨q0, q1⟩ := FC.out.q1; obtain ⟨q2, q3⟩ := FC.out.2.q1; obtain ⟨q4, q5⟩ := FC.out.2.2.q1; obtain ⟨q6, q7⟩ := FC.out.2.2.2.q1)
        | (go_at_call 17; (with_reducible refine (W2.out _).mono ?_); rintro e wc ⟨rfl, hbc⟩; have FC := Lib.hid (FC.out.step hbc); clear hbc; (try clear q0 q1); (try clear q2 q3); (try clear q4 q5); (try clear q6 q7); obtain ⟨q0, q1⟩ := FC.out.q1; obtain ⟨q2, q3⟩ := FC.out.2.q1; obtain ⟨q4, q5⟩ := FC.out.2.2.q1; obtain ⟨q6, q7⟩ := FC.out.2.2.2.q1)
        | (go_at_call 23; (with_reducible refine (D1.out _).mono ?_); rintro e wc ⟨rfl, hbc⟩; have FC := Lib.hid ((FC.out.step hbc).put x1 y1); clear hbc; (try clear q0 q1); (try clear q2 q3); (try clear q4 q5); (try clear q6 q7); obtain ⟨q0, q1⟩ := FC.out.q1; obtain ⟨q2, q3⟩ := FC.out.2.q1; obtain ⟨q4, q5⟩ := FC.out.2.2.q1; obtain ⟨q6, q7⟩ := FC.out.2.2.2.q1)
        | (go_at_call 23; (with_reducible refine (D2.out _).mono ?_); rintro e wc ⟨rfl, hbc⟩; have FC := Lib.hid ((FC.out.step hbc).put x2 y2); clear hbc; (try clear q0 q1); (try clear q2 q3); (try clear q4 q5); (try clear q6 q7); obtain ⟨q0, q1⟩ := FC.out.q1; obtain ⟨q2, q3⟩ := FC.out.2.q1; obtain ⟨q4, q5⟩ := FC.out.2.2.q1; obtain ⟨q6, q7⟩ := FC.out.2.2.2.q1)
        | (go_at_call 23; (with_reducible refine (D3.out _).mono ?_); rintro e wc ⟨rfl, hbc⟩; have FC := Lib.hid ((FC.out.step hbc).put x3 y3); clear hbc; (try clear q0 q1); (try clear q2 q3); (try clear q4 q5); (try clear q6 q7); obtain ⟨q0, q1⟩ := FC.out.q1; obtain ⟨q2, q3⟩ := FC.out.2.q1; obtain ⟨q4, q5⟩ := FC.out.2.2.q1; obtain ⟨q6, q7⟩ := FC.out.2.2.2.q1)
        | (go_at_call 23; (with_reducible refine (D4.out _).mono ?_); rintro e wc ⟨rfl, hbc⟩; have FC := Lib.hid ((FC.out.step hbc).put x4 y4); clear hbc; (try clear q0 q1); (try clear q2 q3); (try clear q4 q5); (try clear q6 q7); obtain ⟨q0, q1⟩ := FC.out.q1; obtain ⟨q2, q3⟩ := FC.out.2.q1; obtain ⟨q4, q5⟩ := FC.out.2.2.q1; obtain ⟨q6, q7⟩ := FC.out.2.2.2.q1)
        | (go_at_call 19; (with_reducible refine (D5.out _).mono ?_); rintro e wc ⟨rfl, hbc⟩; have FC := Lib.hid ((FC.out.step hbc).put x5 y5); clear hbc; (try clear q0 q1); (try clear q2 q3); (try clear q4 q5); (try clear q6 q7); obtain ⟨q0, q1⟩ := FC.out.q1; obtain ⟨q2, q3⟩ := FC.out.2.q1; obtain ⟨q4, q5⟩ := FC.out.2.2.q1; obtain ⟨q6, q7⟩ := FC.out.2.2.2.q1)
        | (go_at_call 19; (with_reducible refine (D6.out _).mono ?_); rintro e wc ⟨rfl, hbc⟩; have FC := Lib.hid ((FC.out.step hbc).put x6 y6); clear hbc; (try clear q0 q1); (try clear q2 q3); (try clear q4 q5); (try clear q6 q7); (try clear q8 q9); (try clear q10 q11); (try clear q12 q13); (try clear q14 q15); (try clear q16 q17); (try clear q18 q19); obtain ⟨q0, q1⟩ := FC.out.q1; obtain ⟨q2, q3⟩ := FC.out.2.q1; obtain ⟨q4, q5⟩ := FC.out.2.2.q1; obtain ⟨q6, q7⟩ := FC.out.2.2.2.q1; (try (obtain ⟨q8, q9⟩ := FC.out.2.2.2.2.q1)); (try (obtain ⟨q10, q11⟩ := FC.out.2.2.2.2.2.q1)); (try (obtain ⟨q12, q13⟩ := FC.out.2.2.2.2.2.2.q1)); (try (obtain ⟨q14, q15⟩ := FC.out.2.2.2.2.2.2.2.q1)); (try (obtain ⟨q16, q17⟩ := FC.out.2.2.2.2.2.2.2.2.q1)); (try (obtain ⟨q18, q19⟩ := FC.out.2.2.2.2.2.2.2.2.2.q1)))
        | (go_at_call 17; (with_reducible refine (W3.out _).mono ?_); rintro e wc ⟨rfl, hbc⟩; have FC := Lib.hid (FC.out.step hbc); clear hbc; (try clear q0 q1); (try clear q2 q3); (try clear q4 q5); (try clear q6 q7); (try clear q8 q9); (try clear q10 q11); (try clear q12 q13); (try clear q14 q15); (try clear q16 q17); (try clear q18 q19); obtain ⟨q0, q1⟩ := FC.out.q1; obtain ⟨q2, q3⟩ := FC.out.2.q1; obtain ⟨q4, q5⟩ := FC.out.2.2.q1; obtain ⟨q6, q7⟩ := FC.out.2.2.2.q1; (try (obtain ⟨q8, q9⟩ := FC.out.2.2.2.2.q1)); (try (obtain ⟨q10, q11⟩ := FC.out.2.2.2.2.2.q1)); (try (obtain ⟨q12, q13⟩ := FC.out.2.2.2.2.2.2.q1)); (try (obtain ⟨q14, q15⟩ := FC.out.2.2.2.2.2.2.2.q1)); (try (obtain ⟨q16, q17⟩ := FC.out.2.2.2.2.2.2.2.2.q1)); (try (obtain ⟨q18, q19⟩ := FC.out.2.2.2.2.2.2.2.2.2.q1)))
        | (go_at_call 17; (with_reducible refine (W4.out _).mono ?_); rintro e wc ⟨rfl, hbc⟩; have FC := Lib.hid (FC.out.step hbc); clear hbc; (try clear q0 q1); (try clear q2 q3); (try clear q4 q5); (try clear q6 q7); (try clear q8 q9); (try clear q10 q11); (try clear q12 q13); (try clear q14 q15); (try clear q16 q17); (try clear q18 q19); obtain ⟨q0, q1⟩ := FC.out.q1; obtain ⟨q2, q3⟩ := FC.out.2.q1; obtain ⟨q4, q5⟩ := FC.out.2.2.q1; obtain ⟨q6, q7⟩ := FC.out.2.2.2.q1; (try (obtain ⟨q8, q9⟩ := FC.out.2.2.2.2.q1)); (try (obtain ⟨q10, q11⟩ := FC.out.2.2.2.2.2.q1)); (try (obtain ⟨q12, q13⟩ := FC.out.2.2.2.2.2.2.q1)); (try (obtain ⟨q14, q15⟩ := FC.out.2.2.2.2.2.2.2.q1)); (try (obtain ⟨q16, q17⟩ := FC.out.2.2.2.2.2.2.2.2.q1)); (try (obtain ⟨q18, q19⟩ := FC.out.2.2.2.2.2.2.2.2.2.q1)))
        | (go_at_call 17; (with_reducible refine (W5.out _).mono ?_); rintro e wc ⟨rfl, hbc⟩; have FC := Lib.hid (FC.out.step hbc); clear hbc))
      go_ret
      exact ⟨rfl, FC.out.below⟩
theorem narrow_row (s t u v : Sp) (W : World) (hs : s.ok) (ht : t.ok) (hu : u.ok) (hv : v.ok) :
    Calls Try.prog 8 #[spv s, spv t, spv u, spv v] W fun e w' => e = .returned (.bool true) ∧ Below W.heap.size W w' :=
  narrow_nat s.lo s.hi t.lo t.hi u.lo u.hi v.lo v.hi hs ht hu hv
end
end Go.Proofs.Ytfeobcmkbkaphaa
