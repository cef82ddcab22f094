/- The walk of SpanWithin: it returns true, and nothing that was there has turned. Conditions: the numbers have at most 64 bits. -/
import Derived.Test.YtfeobcmkbkaphaaSpFrame
import Derived.Test.YtfeobcmkbkaphaaSpJoin
namespace Go.Proofs.Ytfeobcmkbkaphaa
open Go.RowKit
set_option maxRecDepth 100000
set_option maxHeartbeats 4000000
section
variable {w : World}
theorem within_b1 (a b c d e f : Nat) (h1 : wiV ⟨a, b⟩ ⟨c, d⟩ = true) (h2 : wiV ⟨c, d⟩ ⟨e, f⟩ = true) (h3 : wiV ⟨a, b⟩ ⟨e, f⟩ = true) (h4 : wiV ⟨c, d⟩ ⟨a, b⟩ = false) (hE : joE ⟨a, b⟩ ⟨c, d⟩ = 0) :
    Ans 10 #[.agg #[.int .u64 (a : Int), .int .u64 (b : Int)], .agg #[.int .u64 (c : Int), .int .u64 (d : Int)], .agg #[.int .u64 (e : Int), .int .u64 (f : Int)]] (.bool true) w := by
  have SH := Lib.hid (fun W => shown_any (w := W))
  have W1 := Lib.hid (fun W => within_any (w := W) ⟨a, b⟩ ⟨c, d⟩)
  rw [h1] at W1
  have W2 := Lib.hid (fun W => within_any (w := W) ⟨c, d⟩ ⟨e, f⟩)
  rw [h2] at W2
  have W3 := Lib.hid (fun W => within_any (w := W) ⟨a, b⟩ ⟨e, f⟩)
  rw [h3] at W3
  have W4 := Lib.hid (fun W => within_any (w := W) ⟨c, d⟩ ⟨a, b⟩)
  rw [h4] at W4
  have J1 := Lib.hid (fun W => join_any (w := W) ⟨a, b⟩ ⟨c, d⟩)
  rw [hE] at J1
  have mm : mayV ⟨a, b⟩ = true ∧ mayV ⟨c, d⟩ = true := by
    unfold joE at hE
    cases g1 : mayV ⟨a, b⟩ <;> cases g2 : mayV ⟨c, d⟩ <;> simp [g1, g2] at hE ⊢
  have W6 := Lib.hid (fun W => within_any (w := W) ⟨a, b⟩ (joV ⟨a, b⟩ ⟨c, d⟩))
  rw [l_jo_has mm.1 mm.2] at W6
  have W7 := Lib.hid (fun W => within_any (w := W) ⟨c, d⟩ (joV ⟨a, b⟩ ⟨c, d⟩))
  rw [show wiV ⟨c, d⟩ (joV ⟨a, b⟩ ⟨c, d⟩) = true by rw [l_jo_comm]; exact l_jo_has mm.2 mm.1] at W7
  have W5 := Lib.hid (fun W => within_any (w := W) (joV ⟨a, b⟩ ⟨c, d⟩) ⟨e, f⟩)
  rw [l_least h3 h2] at W5
  clear mm
  clear h1 h2 h3 h4 hE
  generalize joV ⟨a, b⟩ ⟨c, d⟩ = v at J1 W6 W7 W5
  obtain ⟨x, y⟩ := v
  simp only [spv] at J1 W1 W2 W3 W4 W6 W7 W5
  go_enter Try.func10, Try.ntmps10
  go_wp2_with (first
    | (go_at_call 11; (with_reducible refine (SH.out _).mono ?_); rintro e wc ⟨rfl, hbc⟩; have FC := Lib.hid ((Fr.p3 w a b c d e f).step hbc); clear hbc; obtain ⟨q0, q1⟩ := FC.out.q1; obtain ⟨q2, q3⟩ := FC.out.2.q1; obtain ⟨q4, q5⟩ := FC.out.2.2.q1)
    | (go_at_call 17; (with_reducible refine (W1.out _).mono ?_); rintro e wc ⟨rfl, hbc⟩; have FC := Lib.hid (FC.out.step hbc); clear hbc; (try clear q0 q1); (try clear q2 q3); (try clear q4 q5); (try clear q6 q7); obtain ⟨q0, q1⟩ := FC.out.q1; obtain ⟨q2, q3⟩ := FC.out.2.q1; obtain ⟨q4, q5⟩ := FC.out.2.2.q1; (try (obtain ⟨q6, q7⟩ := FC.out.2.2.2.q1)))
    | (go_at_call 17; (with_reducible refine (W2.out _).mono ?_); rintro e wc ⟨rfl, hbc⟩; have FC := Lib.hid (FC.out.step hbc); clear hbc; (try clear q0 q1); (try clear q2 q3); (try clear q4 q5); (try clear q6 q7); obtain ⟨q0, q1⟩ := FC.out.q1; obtain ⟨q2, q3⟩ := FC.out.2.q1; obtain ⟨q4, q5⟩ := FC.out.2.2.q1; (try (obtain ⟨q6, q7⟩ := FC.out.2.2.2.q1)))
    | (go_at_call 17; (with_reducible refine (W3.out _).mono ?_); rintro e wc ⟨rfl, hbc⟩; have FC := Lib.hid (FC.out.step hbc); clear hbc; (try clear q0 q1); (try clear q2 q3); (try clear q4 q5); (try clear q6 q7); obtain ⟨q0, q1⟩ := FC.out.q1; obtain ⟨q2, q3⟩ := FC.out.2.q1; obtain ⟨q4, q5⟩ := FC.out.2.2.q1; (try (obtain ⟨q6, q7⟩ := FC.out.2.2.2.q1)))
    | (go_at_call 17; (with_reducible refine (W4.out _).mono ?_); rintro e wc ⟨rfl, hbc⟩; have FC := Lib.hid (FC.out.step hbc); clear hbc; (try clear q0 q1); (try clear q2 q3); (try clear q4 q5); (try clear q6 q7); obtain ⟨q0, q1⟩ := FC.out.q1; obtain ⟨q2, q3⟩ := FC.out.2.q1; obtain ⟨q4, q5⟩ := FC.out.2.2.q1; (try (obtain ⟨q6, q7⟩ := FC.out.2.2.2.q1)))
    | (go_at_call 19; (with_reducible refine (J1.out _).mono ?_); rintro e wc ⟨rfl, hbc⟩; have FC := Lib.hid ((FC.out.step hbc).put x y); clear hbc; (try clear q0 q1); (try clear q2 q3); (try clear q4 q5); (try clear q6 q7); obtain ⟨q0, q1⟩ := FC.out.q1; obtain ⟨q2, q3⟩ := FC.out.2.q1; obtain ⟨q4, q5⟩ := FC.out.2.2.q1; (try (obtain ⟨q6, q7⟩ := FC.out.2.2.2.q1)))
    | (go_at_call 17; (with_reducible refine (W5.out _).mono ?_); rintro e wc ⟨rfl, hbc⟩; have FC := Lib.hid (FC.out.step hbc); clear hbc; (try clear q0 q1); (try clear q2 q3); (try clear q4 q5); (try clear q6 q7); obtain ⟨q0, q1⟩ := FC.out.q1; obtain ⟨q2, q3⟩ := FC.out.2.q1; obtain ⟨q4, q5⟩ := FC.out.2.2.q1; (try (obtain ⟨q6, q7⟩ := FC.out.2.2.2.q1)))
    | (go_at_call 17; (with_reducible refine (W6.out _).mono ?_); rintro e wc ⟨rfl, hbc⟩; have FC := Lib.hid (FC.out.step hbc); clear hbc; (try clear q0 q1); (try clear q2 q3); (try clear q4 q5); (try clear q6 q7); obtain ⟨q0, q1⟩ := FC.out.q1; obtain ⟨q2, q3⟩ := FC.out.2.q1; obtain ⟨q4, q5⟩ := FC.out.2.2.q1; (try (obtain ⟨q6, q7⟩ := FC.out.2.2.2.q1)))
    | (go_at_call 17; (with_reducible refine (W7.out _).mono ?_); rintro e wc ⟨rfl, hbc⟩; have FC := Lib.hid (FC.out.step hbc); clear hbc; (try clear q0 q1); (try clear q2 q3); (try clear q4 q5); (try clear q6 q7); obtain ⟨q0, q1⟩ := FC.out.q1; obtain ⟨q2, q3⟩ := FC.out.2.q1; obtain ⟨q4, q5⟩ := FC.out.2.2.q1; (try (obtain ⟨q6, q7⟩ := FC.out.2.2.2.q1))))
  go_ret
  exact ⟨rfl, FC.out.below⟩
theorem within_b2 (a b c d e f : Nat) (h1 : wiV ⟨a, b⟩ ⟨c, d⟩ = true) (h2 : wiV ⟨c, d⟩ ⟨e, f⟩ = false) (h3 : wiV ⟨a, b⟩ ⟨e, f⟩ = true) (h4 : wiV ⟨c, d⟩ ⟨a, b⟩ = false) (hE : joE ⟨a, b⟩ ⟨c, d⟩ = 0) :
    Ans 10 #[.agg #[.int .u64 (a : Int), .int .u64 (b : Int)], .agg #[.int .u64 (c : Int), .int .u64 (d : Int)], .agg #[.int .u64 (e : Int), .int .u64 (f : Int)]] (.bool true) w := by
  have SH := Lib.hid (fun W => shown_any (w := W))
  have W1 := Lib.hid (fun W => within_any (w := W) ⟨a, b⟩ ⟨c, d⟩)
  rw [h1] at W1
  have W2 := Lib.hid (fun W => within_any (w := W) ⟨c, d⟩ ⟨e, f⟩)
  rw [h2] at W2
  have W3 := Lib.hid (fun W => within_any (w := W) ⟨a, b⟩ ⟨e, f⟩)
  rw [h3] at W3
  have W4 := Lib.hid (fun W => within_any (w := W) ⟨c, d⟩ ⟨a, b⟩)
  rw [h4] at W4
  have J1 := Lib.hid (fun W => join_any (w := W) ⟨a, b⟩ ⟨c, d⟩)
  rw [hE] at J1
  have mm : mayV ⟨a, b⟩ = true ∧ mayV ⟨c, d⟩ = true := by
    unfold joE at hE
    cases g1 : mayV ⟨a, b⟩ <;> cases g2 : mayV ⟨c, d⟩ <;> simp [g1, g2] at hE ⊢
  have W6 := Lib.hid (fun W => within_any (w := W) ⟨a, b⟩ (joV ⟨a, b⟩ ⟨c, d⟩))
  rw [l_jo_has mm.1 mm.2] at W6
  have W7 := Lib.hid (fun W => within_any (w := W) ⟨c, d⟩ (joV ⟨a, b⟩ ⟨c, d⟩))
  rw [show wiV ⟨c, d⟩ (joV ⟨a, b⟩ ⟨c, d⟩) = true by rw [l_jo_comm]; exact l_jo_has mm.2 mm.1] at W7
  clear mm
  clear h1 h2 h3 h4 hE
  generalize joV ⟨a, b⟩ ⟨c, d⟩ = v at J1 W6 W7
  obtain ⟨x, y⟩ := v
  simp only [spv] at J1 W1 W2 W3 W4 W6 W7
  go_enter Try.func10, Try.ntmps10
  go_wp2_with (first
    | (go_at_call 11; (with_reducible refine (SH.out _).mono ?_); rintro e wc ⟨rfl, hbc⟩; have FC := Lib.hid ((Fr.p3 w a b c d e f).step hbc); clear hbc; obtain ⟨q0, q1⟩ := FC.out.q1; obtain ⟨q2, q3⟩ := FC.out.2.q1; obtain ⟨q4, q5⟩ := FC.out.2.2.q1)
    | (go_at_call 17; (with_reducible refine (W1.out _).mono ?_); rintro e wc ⟨rfl, hbc⟩; have FC := Lib.hid (FC.out.step hbc); clear hbc; (try clear q0 q1); (try clear q2 q3); (try clear q4 q5); (try clear q6 q7); obtain ⟨q0, q1⟩ := FC.out.q1; obtain ⟨q2, q3⟩ := FC.out.2.q1; obtain ⟨q4, q5⟩ := FC.out.2.2.q1; (try (obtain ⟨q6, q7⟩ := FC.out.2.2.2.q1)))
    | (go_at_call 17; (with_reducible refine (W2.out _).mono ?_); rintro e wc ⟨rfl, hbc⟩; have FC := Lib.hid (FC.out.step hbc); clear hbc; (try clear q0 q1); (try clear q2 q3); (try clear q4 q5); (try clear q6 q7); obtain ⟨q0, q1⟩ := FC.out.q1; obtain ⟨q2, q3⟩ := FC.out.2.q1; obtain ⟨q4, q5⟩ := FC.out.2.2.q1; (try (obtain ⟨q6, q7⟩ := FC.out.2.2.2.q1)))
    | (go_at_call 17; (with_reducible refine (W3.out _).mono ?_); rintro e wc ⟨rfl, hbc⟩; have FC := Lib.hid (FC.out.step hbc); clear hbc; (try clear q0 q1); (try clear q2 q3); (try clear q4 q5); (try clear q6 q7); obtain ⟨q0, q1⟩ := FC.out.q1; obtain ⟨q2, q3⟩ := FC.out.2.q1; obtain ⟨q4, q5⟩ := FC.out.2.2.q1; (try (obtain ⟨q6, q7⟩ := FC.out.2.2.2.q1)))
    | (go_at_call 17; (with_reducible refine (W4.out _).mono ?_); rintro e wc ⟨rfl, hbc⟩; have FC := Lib.hid (FC.out.step hbc); clear hbc; (try clear q0 q1); (try clear q2 q3); (try clear q4 q5); (try clear q6 q7); obtain ⟨q0, q1⟩ := FC.out.q1; obtain ⟨q2, q3⟩ := FC.out.2.q1; obtain ⟨q4, q5⟩ := FC.out.2.2.q1; (try (obtain ⟨q6, q7⟩ := FC.out.2.2.2.q1)))
    | (go_at_call 19; (with_reducible refine (J1.out _).mono ?_); rintro e wc ⟨rfl, hbc⟩; have FC := Lib.hid ((FC.out.step hbc).put x y); clear hbc; (try clear q0 q1); (try clear q2 q3); (try clear q4 q5); (try clear q6 q7); obtain ⟨q0, q1⟩ := FC.out.q1; obtain ⟨q2, q3⟩ := FC.out.2.q1; obtain ⟨q4, q5⟩ := FC.out.2.2.q1; (try (obtain ⟨q6, q7⟩ := FC.out.2.2.2.q1)))
    | (go_at_call 17; (with_reducible refine (W6.out _).mono ?_); rintro e wc ⟨rfl, hbc⟩; have FC := Lib.hid (FC.out.step hbc); clear hbc; (try clear q0 q1); (try clear q2 q3); (try clear q4 q5); (try clear q6 q7); obtain ⟨q0, q1⟩ := FC.out.q1; obtain ⟨q2, q3⟩ := FC.out.2.q1; obtain ⟨q4, q5⟩ := FC.out.2.2.q1; (try (obtain ⟨q6, q7⟩ := FC.out.2.2.2.q1)))
    | (go_at_call 17; (with_reducible refine (W7.out _).mono ?_); rintro e wc ⟨rfl, hbc⟩; have FC := Lib.hid (FC.out.step hbc); clear hbc; (try clear q0 q1); (try clear q2 q3); (try clear q4 q5); (try clear q6 q7); obtain ⟨q0, q1⟩ := FC.out.q1; obtain ⟨q2, q3⟩ := FC.out.2.q1; obtain ⟨q4, q5⟩ := FC.out.2.2.q1; (try (obtain ⟨q6, q7⟩ := FC.out.2.2.2.q1))))
  go_ret
  exact ⟨rfl, FC.out.below⟩
theorem within_b3 (a b c d e f : Nat) (h1 : wiV ⟨a, b⟩ ⟨c, d⟩ = true) (h2 : wiV ⟨c, d⟩ ⟨e, f⟩ = false) (h3 : wiV ⟨a, b⟩ ⟨e, f⟩ = false) (h4 : wiV ⟨c, d⟩ ⟨a, b⟩ = false) (hE : joE ⟨a, b⟩ ⟨c, d⟩ = 0) :
    Ans 10 #[.agg #[.int .u64 (a : Int), .int .u64 (b : Int)], .agg #[.int .u64 (c : Int), .int .u64 (d : Int)], .agg #[.int .u64 (e : Int), .int .u64 (f : Int)]] (.bool true) w := by
  have SH := Lib.hid (fun W => shown_any (w := W))
  have W1 := Lib.hid (fun W => within_any (w := W) ⟨a, b⟩ ⟨c, d⟩)
  rw [h1] at W1
  have W2 := Lib.hid (fun W => within_any (w := W) ⟨c, d⟩ ⟨e, f⟩)
  rw [h2] at W2
  have W3 := Lib.hid (fun W => within_any (w := W) ⟨a, b⟩ ⟨e, f⟩)
  rw [h3] at W3
  have W4 := Lib.hid (fun W => within_any (w := W) ⟨c, d⟩ ⟨a, b⟩)
  rw [h4] at W4
  have J1 := Lib.hid (fun W => join_any (w := W) ⟨a, b⟩ ⟨c, d⟩)
  rw [hE] at J1
  have mm : mayV ⟨a, b⟩ = true ∧ mayV ⟨c, d⟩ = true := by
    unfold joE at hE
    cases g1 : mayV ⟨a, b⟩ <;> cases g2 : mayV ⟨c, d⟩ <;> simp [g1, g2] at hE ⊢
  have W6 := Lib.hid (fun W => within_any (w := W) ⟨a, b⟩ (joV ⟨a, b⟩ ⟨c, d⟩))
  rw [l_jo_has mm.1 mm.2] at W6
  have W7 := Lib.hid (fun W => within_any (w := W) ⟨c, d⟩ (joV ⟨a, b⟩ ⟨c, d⟩))
  rw [show wiV ⟨c, d⟩ (joV ⟨a, b⟩ ⟨c, d⟩) = true by rw [l_jo_comm]; exact l_jo_has mm.2 mm.1] at W7
  clear mm
  clear h1 h2 h3 h4 hE
  generalize joV ⟨a, b⟩ ⟨c, d⟩ = v at J1 W6 W7
  obtain ⟨x, y⟩ := v
  simp only [spv] at J1 W1 W2 W3 W4 W6 W7
  go_enter Try.func10, Try.ntmps10
  go_wp2_with (first
    | (go_at_call 11; (with_reducible refine (SH.out _).mono ?_); rintro e wc ⟨rfl, hbc⟩; have FC := Lib.hid ((Fr.p3 w a b c d e f).step hbc); clear hbc; obtain ⟨q0, q1⟩ := FC.out.q1; obtain ⟨q2, q3⟩ := FC.out.2.q1; obtain ⟨q4, q5⟩ := FC.out.2.2.q1)
    | (go_at_call 17; (with_reducible refine (W1.out _).mono ?_); rintro e wc ⟨rfl, hbc⟩; have FC := Lib.hid (FC.out.step hbc); clear hbc; (try clear q0 q1); (try clear q2 q3); (try clear q4 q5); (try clear q6 q7); obtain ⟨q0, q1⟩ := FC.out.q1; obtain ⟨q2, q3⟩ := FC.out.2.q1; obtain ⟨q4, q5⟩ := FC.out.2.2.q1; (try (obtain ⟨q6, q7⟩ := FC.out.2.2.2.q1)))
    | (go_at_call 17; (with_reducible refine (W2.out _).mono ?_); rintro e wc ⟨rfl, hbc⟩; have FC := Lib.hid (FC.out.step hbc); clear hbc; (try clear q0 q1); (try clear q2 q3); (try clear q4 q5); (try clear q6 q7); obtain ⟨q0, q1⟩ := FC.out.q1; obtain ⟨q2, q3⟩ := FC.out.2.q1; obtain ⟨q4, q5⟩ := FC.out.2.2.q1; (try (obtain ⟨q6, q7⟩ := FC.out.2.2.2.q1)))
    | (go_at_call 17; (with_reducible refine (W3.out _).mono ?_); rintro e wc ⟨rfl, hbc⟩; have FC := Lib.hid (FC.out.step hbc); clear hbc; (try clear q0 q1); (try clear q2 q3); (try clear q4 q5); (try clear q6 q7); obtain ⟨q0, q1⟩ := FC.out.q1; obtain ⟨q2, q3⟩ := FC.out.2.q1; obtain ⟨q4, q5⟩ := FC.out.2.2.q1; (try (obtain ⟨q6, q7⟩ := FC.out.2.2.2.q1)))
    | (go_at_call 17; (with_reducible refine (W4.out _).mono ?_); rintro e wc ⟨rfl, hbc⟩; have FC := Lib.hid (FC.out.step hbc); clear hbc; (try clear q0 q1); (try clear q2 q3); (try clear q4 q5); (try clear q6 q7); obtain ⟨q0, q1⟩ := FC.out.q1; obtain ⟨q2, q3⟩ := FC.out.2.q1; obtain ⟨q4, q5⟩ := FC.out.2.2.q1; (try (obtain ⟨q6, q7⟩ := FC.out.2.2.2.q1)))
    | (go_at_call 19; (with_reducible refine (J1.out _).mono ?_); rintro e wc ⟨rfl, hbc⟩; have FC := Lib.hid ((FC.out.step hbc).put x y); clear hbc; (try clear q0 q1); (try clear q2 q3); (try clear q4 q5); (try clear q6 q7); obtain ⟨q0, q1⟩ := FC.out.q1; obtain ⟨q2, q3⟩ := FC.out.2.q1; obtain ⟨q4, q5⟩ := FC.out.2.2.q1; (try (obtain ⟨q6, q7⟩ := FC.out.2.2.2.q1)))
    | (go_at_call 17; (with_reducible refine (W6.out _).mono ?_); rintro e wc ⟨rfl, hbc⟩; have FC := Lib.hid (FC.out.step hbc); clear hbc; (try clear q0 q1); (try clear q2 q3); (try clear q4 q5); (try clear q6 q7); obtain ⟨q0, q1⟩ := FC.out.q1; obtain ⟨q2, q3⟩ := FC.out.2.q1; obtain ⟨q4, q5⟩ := FC.out.2.2.q1; (try (obtain ⟨q6, q7⟩ := FC.out.2.2.2.q1)))
    | (go_at_call 17; (with_reducible refine (W7.out _).mono ?_); rintro e wc ⟨rfl, hbc⟩; have FC := Lib.hid (FC.out.step hbc); clear hbc; (try clear q0 q1); (try clear q2 q3); (try clear q4 q5); (try clear q6 q7); obtain ⟨q0, q1⟩ := FC.out.q1; obtain ⟨q2, q3⟩ := FC.out.2.q1; obtain ⟨q4, q5⟩ := FC.out.2.2.q1; (try (obtain ⟨q6, q7⟩ := FC.out.2.2.2.q1))))
  go_ret
  exact ⟨rfl, FC.out.below⟩
theorem within_c1 (a b c d e f : Nat) (h1 : wiV ⟨a, b⟩ ⟨c, d⟩ = false) (hE : joE ⟨a, b⟩ ⟨c, d⟩ = 1) :
    Ans 10 #[.agg #[.int .u64 (a : Int), .int .u64 (b : Int)], .agg #[.int .u64 (c : Int), .int .u64 (d : Int)], .agg #[.int .u64 (e : Int), .int .u64 (f : Int)]] (.bool true) w := by
  have SH := Lib.hid (fun W => shown_any (w := W))
  have W1 := Lib.hid (fun W => within_any (w := W) ⟨a, b⟩ ⟨c, d⟩)
  rw [h1] at W1
  have J1 := Lib.hid (fun W => join_any (w := W) ⟨a, b⟩ ⟨c, d⟩)
  rw [hE] at J1
  clear h1 hE
  generalize joV ⟨a, b⟩ ⟨c, d⟩ = v at J1
  obtain ⟨x, y⟩ := v
  simp only [spv] at J1 W1
  go_enter Try.func10, Try.ntmps10
  go_wp2_with (first
    | (go_at_call 11; (with_reducible refine (SH.out _).mono ?_); rintro e wc ⟨rfl, hbc⟩; have FC := Lib.hid ((Fr.p3 w a b c d e f).step hbc); clear hbc; obtain ⟨q0, q1⟩ := FC.out.q1; obtain ⟨q2, q3⟩ := FC.out.2.q1; obtain ⟨q4, q5⟩ := FC.out.2.2.q1)
    | (go_at_call 17; (with_reducible refine (W1.out _).mono ?_); rintro e wc ⟨rfl, hbc⟩; have FC := Lib.hid (FC.out.step hbc); clear hbc; (try clear q0 q1); (try clear q2 q3); (try clear q4 q5); (try clear q6 q7); obtain ⟨q0, q1⟩ := FC.out.q1; obtain ⟨q2, q3⟩ := FC.out.2.q1; obtain ⟨q4, q5⟩ := FC.out.2.2.q1; (try (obtain ⟨q6, q7⟩ := FC.out.2.2.2.q1)))
    | (go_at_call 19; (with_reducible refine (J1.out _).mono ?_); rintro e wc ⟨rfl, hbc⟩; have FC := Lib.hid ((FC.out.step hbc).put x y); clear hbc; (try clear q0 q1); (try clear q2 q3); (try clear q4 q5); (try clear q6 q7); obtain ⟨q0, q1⟩ := FC.out.q1; obtain ⟨q2, q3⟩ := FC.out.2.q1; obtain ⟨q4, q5⟩ := FC.out.2.2.q1; (try (obtain ⟨q6, q7⟩ := FC.out.2.2.2.q1))))
  go_ret
  exact ⟨rfl, FC.out.below⟩
theorem within_c2 (a b c d e f : Nat) (h1 : wiV ⟨a, b⟩ ⟨c, d⟩ = false) (h3 : wiV ⟨a, b⟩ ⟨e, f⟩ = false) (hE : joE ⟨a, b⟩ ⟨c, d⟩ = 0) :
    Ans 10 #[.agg #[.int .u64 (a : Int), .int .u64 (b : Int)], .agg #[.int .u64 (c : Int), .int .u64 (d : Int)], .agg #[.int .u64 (e : Int), .int .u64 (f : Int)]] (.bool true) w := by
  have SH := Lib.hid (fun W => shown_any (w := W))
  have W1 := Lib.hid (fun W => within_any (w := W) ⟨a, b⟩ ⟨c, d⟩)
  rw [h1] at W1
  have W3 := Lib.hid (fun W => within_any (w := W) ⟨a, b⟩ ⟨e, f⟩)
  rw [h3] at W3
  have J1 := Lib.hid (fun W => join_any (w := W) ⟨a, b⟩ ⟨c, d⟩)
  rw [hE] at J1
  have mm : mayV ⟨a, b⟩ = true ∧ mayV ⟨c, d⟩ = true := by
    unfold joE at hE
    cases g1 : mayV ⟨a, b⟩ <;> cases g2 : mayV ⟨c, d⟩ <;> simp [g1, g2] at hE ⊢
  have W6 := Lib.hid (fun W => within_any (w := W) ⟨a, b⟩ (joV ⟨a, b⟩ ⟨c, d⟩))
  rw [l_jo_has mm.1 mm.2] at W6
  have W7 := Lib.hid (fun W => within_any (w := W) ⟨c, d⟩ (joV ⟨a, b⟩ ⟨c, d⟩))
  rw [show wiV ⟨c, d⟩ (joV ⟨a, b⟩ ⟨c, d⟩) = true by rw [l_jo_comm]; exact l_jo_has mm.2 mm.1] at W7
  clear mm
  clear h1 h3 hE
  generalize joV ⟨a, b⟩ ⟨c, d⟩ = v at J1 W6 W7
  obtain ⟨x, y⟩ := v
  simp only [spv] at J1 W1 W3 W6 W7
  go_enter Try.func10, Try.ntmps10
  go_wp2_with (first
    | (go_at_call 11; (with_reducible refine (SH.out _).mono ?_); rintro e wc ⟨rfl, hbc⟩; have FC := Lib.hid ((Fr.p3 w a b c d e f).step hbc); clear hbc; obtain ⟨q0, q1⟩ := FC.out.q1; obtain ⟨q2, q3⟩ := FC.out.2.q1; obtain ⟨q4, q5⟩ := FC.out.2.2.q1)
    | (go_at_call 17; (with_reducible refine (W1.out _).mono ?_); rintro e wc ⟨rfl, hbc⟩; have FC := Lib.hid (FC.out.step hbc); clear hbc; (try clear q0 q1); (try clear q2 q3); (try clear q4 q5); (try clear q6 q7); obtain ⟨q0, q1⟩ := FC.out.q1; obtain ⟨q2, q3⟩ := FC.out.2.q1; obtain ⟨q4, q5⟩ := FC.out.2.2.q1; (try (obtain ⟨q6, q7⟩ := FC.out.2.2.2.q1)))
    | (go_at_call 17; (with_reducible refine (W3.out _).mono ?_); rintro e wc ⟨rfl, hbc⟩; have FC := Lib.hid (FC.out.step hbc); clear hbc; (try clear q0 q1); (try clear q2 q3); (try clear q4 q5); (try clear q6 q7); obtain ⟨q0, q1⟩ := FC.out.q1; obtain ⟨q2, q3⟩ := FC.out.2.q1; obtain ⟨q4, q5⟩ := FC.out.2.2.q1; (try (obtain ⟨q6, q7⟩ := FC.out.2.2.2.q1)))
    | (go_at_call 19; (with_reducible refine (J1.out _).mono ?_); rintro e wc ⟨rfl, hbc⟩; have FC := Lib.hid ((FC.out.step hbc).put x y); clear hbc; (try clear q0 q1); (try clear q2 q3); (try clear q4 q5); (try clear q6 q7); obtain ⟨q0, q1⟩ := FC.out.q1; obtain ⟨q2, q3⟩ := FC.out.2.q1; obtain ⟨q4, q5⟩ := FC.out.2.2.q1; (try (obtain ⟨q6, q7⟩ := FC.out.2.2.2.q1)))
    | (go_at_call 17; (with_reducible refine (W6.out _).mono ?_); rintro e wc ⟨rfl, hbc⟩; have FC := Lib.hid (FC.out.step hbc); clear hbc; (try clear q0 q1); (try clear q2 q3); (try clear q4 q5); (try clear q6 q7); obtain ⟨q0, q1⟩ := FC.out.q1; obtain ⟨q2, q3⟩ := FC.out.2.q1; obtain ⟨q4, q5⟩ := FC.out.2.2.q1; (try (obtain ⟨q6, q7⟩ := FC.out.2.2.2.q1)))
    | (go_at_call 17; (with_reducible refine (W7.out _).mono ?_); rintro e wc ⟨rfl, hbc⟩; have FC := Lib.hid (FC.out.step hbc); clear hbc; (try clear q0 q1); (try clear q2 q3); (try clear q4 q5); (try clear q6 q7); obtain ⟨q0, q1⟩ := FC.out.q1; obtain ⟨q2, q3⟩ := FC.out.2.q1; obtain ⟨q4, q5⟩ := FC.out.2.2.q1; (try (obtain ⟨q6, q7⟩ := FC.out.2.2.2.q1))))
  go_ret
  exact ⟨rfl, FC.out.below⟩
theorem within_c3 (a b c d e f : Nat) (h1 : wiV ⟨a, b⟩ ⟨c, d⟩ = false) (h2 : wiV ⟨c, d⟩ ⟨e, f⟩ = false) (h3 : wiV ⟨a, b⟩ ⟨e, f⟩ = true) (hE : joE ⟨a, b⟩ ⟨c, d⟩ = 0) :
    Ans 10 #[.agg #[.int .u64 (a : Int), .int .u64 (b : Int)], .agg #[.int .u64 (c : Int), .int .u64 (d : Int)], .agg #[.int .u64 (e : Int), .int .u64 (f : Int)]] (.bool true) w := by
  have SH := Lib.hid (fun W => shown_any (w := W))
  have W1 := Lib.hid (fun W => within_any (w := W) ⟨a, b⟩ ⟨c, d⟩)
  rw [h1] at W1
  have W2 := Lib.hid (fun W => within_any (w := W) ⟨c, d⟩ ⟨e, f⟩)
  rw [h2] at W2
  have W3 := Lib.hid (fun W => within_any (w := W) ⟨a, b⟩ ⟨e, f⟩)
  rw [h3] at W3
  have J1 := Lib.hid (fun W => join_any (w := W) ⟨a, b⟩ ⟨c, d⟩)
  rw [hE] at J1
  have mm : mayV ⟨a, b⟩ = true ∧ mayV ⟨c, d⟩ = true := by
    unfold joE at hE
    cases g1 : mayV ⟨a, b⟩ <;> cases g2 : mayV ⟨c, d⟩ <;> simp [g1, g2] at hE ⊢
  have W6 := Lib.hid (fun W => within_any (w := W) ⟨a, b⟩ (joV ⟨a, b⟩ ⟨c, d⟩))
  rw [l_jo_has mm.1 mm.2] at W6
  have W7 := Lib.hid (fun W => within_any (w := W) ⟨c, d⟩ (joV ⟨a, b⟩ ⟨c, d⟩))
  rw [show wiV ⟨c, d⟩ (joV ⟨a, b⟩ ⟨c, d⟩) = true by rw [l_jo_comm]; exact l_jo_has mm.2 mm.1] at W7
  clear mm
  clear h1 h2 h3 hE
  generalize joV ⟨a, b⟩ ⟨c, d⟩ = v at J1 W6 W7
  obtain ⟨x, y⟩ := v
  simp only [spv] at J1 W1 W2 W3 W6 W7
  go_enter Try.func10, Try.ntmps10
  go_wp2_with (first
    | (go_at_call 11; (with_reducible refine (SH.out _).mono ?_); rintro e wc ⟨rfl, hbc⟩; have FC := Lib.hid ((Fr.p3 w a b c d e f).step hbc); clear hbc; obtain ⟨q0, q1⟩ := FC.out.q1; obtain ⟨q2, q3⟩ := FC.out.2.q1; obtain ⟨q4, q5⟩ := FC.out.2.2.q1)
    | (go_at_call 17; (with_reducible refine (W1.out _).mono ?_); rintro e wc ⟨rfl, hbc⟩; have FC := Lib.hid (FC.out.step hbc); clear hbc; (try clear q0 q1); (try clear q2 q3); (try clear q4 q5); (try clear q6 q7); obtain ⟨q0, q1⟩ := FC.out.q1; obtain ⟨q2, q3⟩ := FC.out.2.q1; obtain ⟨q4, q5⟩ := FC.out.2.2.q1; (try (obtain ⟨q6, q7⟩ := FC.out.2.2.2.q1)))
    | (go_at_call 17; (with_reducible refine (W2.out _).mono ?_); rintro e wc ⟨rfl, hbc⟩; have FC := Lib.hid (FC.out.step hbc); clear hbc; (try clear q0 q1); (try clear q2 q3); (try clear q4 q5); (try clear q6 q7); obtain ⟨q0, q1⟩ := FC.out.q1; obtain ⟨q2, q3⟩ := FC.out.2.q1; obtain ⟨q4, q5⟩ := FC.out.2.2.q1; (try (obtain ⟨q6, q7⟩ := FC.out.2.2.2.q1)))
    | (go_at_call 17; (with_reducible refine (W3.out _).mono ?_); rintro e wc ⟨rfl, hbc⟩; have FC := Lib.hid (FC.out.step hbc); clear hbc; (try clear q0 q1); (try clear q2 q3); (try clear q4 q5); (try clear q6 q7); obtain ⟨q0, q1⟩ := FC.out.q1; obtain ⟨q2, q3⟩ := FC.out.2.q1; obtain ⟨q4, q5⟩ := FC.out.2.2.q1; (try (obtain ⟨q6, q7⟩ := FC.out.2.2.2.q1)))
    | (go_at_call 19; (with_reducible refine (J1.out _).mono ?_); rintro e wc ⟨rfl, hbc⟩; have FC := Lib.hid ((FC.out.step hbc).put x y); clear hbc; (try clear q0 q1); (try clear q2 q3); (try clear q4 q5); (try clear q6 q7); obtain ⟨q0, q1⟩ := FC.out.q1; obtain ⟨q2, q3⟩ := FC.out.2.q1; obtain ⟨q4, q5⟩ := FC.out.2.2.q1; (try (obtain ⟨q6, q7⟩ := FC.out.2.2.2.q1)))
    | (go_at_call 17; (with_reducible refine (W6.out _).mono ?_); rintro e wc ⟨rfl, hbc⟩; have FC := Lib.hid (FC.out.step hbc); clear hbc; (try clear q0 q1); (try clear q2 q3); (try clear q4 q5); (try clear q6 q7); obtain ⟨q0, q1⟩ := FC.out.q1; obtain ⟨q2, q3⟩ := FC.out.2.q1; obtain ⟨q4, q5⟩ := FC.out.2.2.q1; (try (obtain ⟨q6, q7⟩ := FC.out.2.2.2.q1)))
    | (go_at_call 17; (with_reducible refine (W7.out _).mono ?_); rintro e wc ⟨rfl, hbc⟩; have FC := Lib.hid (FC.out.step hbc); clear hbc; (try clear q0 q1); (try clear q2 q3); (try clear q4 q5); (try clear q6 q7); obtain ⟨q0, q1⟩ := FC.out.q1; obtain ⟨q2, q3⟩ := FC.out.2.q1; obtain ⟨q4, q5⟩ := FC.out.2.2.q1; (try (obtain ⟨q6, q7⟩ := FC.out.2.2.2.q1))))
  go_ret
  exact ⟨rfl, FC.out.below⟩
theorem within_c4 (a b c d e f : Nat) (h1 : wiV ⟨a, b⟩ ⟨c, d⟩ = false) (h2 : wiV ⟨c, d⟩ ⟨e, f⟩ = true) (h3 : wiV ⟨a, b⟩ ⟨e, f⟩ = true) (hE : joE ⟨a, b⟩ ⟨c, d⟩ = 0) :
    Ans 10 #[.agg #[.int .u64 (a : Int), .int .u64 (b : Int)], .agg #[.int .u64 (c : Int), .int .u64 (d : Int)], .agg #[.int .u64 (e : Int), .int .u64 (f : Int)]] (.bool true) w := by
  have SH := Lib.hid (fun W => shown_any (w := W))
  have W1 := Lib.hid (fun W => within_any (w := W) ⟨a, b⟩ ⟨c, d⟩)
  rw [h1] at W1
  have W2 := Lib.hid (fun W => within_any (w := W) ⟨c, d⟩ ⟨e, f⟩)
  rw [h2] at W2
  have W3 := Lib.hid (fun W => within_any (w := W) ⟨a, b⟩ ⟨e, f⟩)
  rw [h3] at W3
  have J1 := Lib.hid (fun W => join_any (w := W) ⟨a, b⟩ ⟨c, d⟩)
  rw [hE] at J1
  have mm : mayV ⟨a, b⟩ = true ∧ mayV ⟨c, d⟩ = true := by
    unfold joE at hE
    cases g1 : mayV ⟨a, b⟩ <;> cases g2 : mayV ⟨c, d⟩ <;> simp [g1, g2] at hE ⊢
  have W6 := Lib.hid (fun W => within_any (w := W) ⟨a, b⟩ (joV ⟨a, b⟩ ⟨c, d⟩))
  rw [l_jo_has mm.1 mm.2] at W6
  have W7 := Lib.hid (fun W => within_any (w := W) ⟨c, d⟩ (joV ⟨a, b⟩ ⟨c, d⟩))
  rw [show wiV ⟨c, d⟩ (joV ⟨a, b⟩ ⟨c, d⟩) = true by rw [l_jo_comm]; exact l_jo_has mm.2 mm.1] at W7
  have W5 := Lib.hid (fun W => within_any (w := W) (joV ⟨a, b⟩ ⟨c, d⟩) ⟨e, f⟩)
  rw [l_least h3 h2] at W5
  clear mm
  clear h1 h2 h3 hE
  generalize joV ⟨a, b⟩ ⟨c, d⟩ = v at J1 W6 W7 W5
  obtain ⟨x, y⟩ := v
  simp only [spv] at J1 W1 W2 W3 W6 W7 W5
  go_enter Try.func10, Try.ntmps10
  go_wp2_with (first
    | (go_at_call 11; (with_reducible refine (SH.out _).mono ?_); rintro e wc ⟨rfl, hbc⟩; have FC := Lib.hid ((Fr.p3 w a b c d e f).step hbc); clear hbc; obtain ⟨q0, q1⟩ := FC.out.q1; obtain ⟨q2, q3⟩ := FC.out.2.q1; obtain ⟨q4, q5⟩ := FC.out.2.2.q1)
    | (go_at_call 17; (with_reducible refine (W1.out _).mono ?_); rintro e wc ⟨rfl, hbc⟩; have FC := Lib.hid (FC.out.step hbc); clear hbc; (try clear q0 q1); (try clear q2 q3); (try clear q4 q5); (try clear q6 q7); obtain ⟨q0, q1⟩ := FC.out.q1; obtain ⟨q2, q3⟩ := FC.out.2.q1; obtain ⟨q4, q5⟩ := FC.out.2.2.q1; (try (obtain ⟨q6, q7⟩ := FC.out.2.2.2.q1)))
    | (go_at_call 17; (with_reducible refine (W2.out _).mono ?_); rintro e wc ⟨rfl, hbc⟩; have FC := Lib.hid (FC.out.step hbc); clear hbc; (try clear q0 q1); (try clear q2 q3); (try clear q4 q5); (try clear q6 q7); obtain ⟨q0, q1⟩ := FC.out.q1; obtain ⟨q2, q3⟩ := FC.out.2.q1; obtain ⟨q4, q5⟩ := FC.out.2.2.q1; (try (obtain ⟨q6, q7⟩ := FC.out.2.2.2.q1)))
    | (go_at_call 17; (with_reducible refine (W3.out _).mono ?_); rintro e wc ⟨rfl, hbc⟩; have FC := Lib.hid (FC.out.step hbc); clear hbc; (try clear q0 q1); (try clear q2 q3); (try clear q4 q5); (try clear q6 q7); obtain ⟨q0, q1⟩ := FC.out.q1; obtain ⟨q2, q3⟩ := FC.out.2.q1; obtain ⟨q4, q5⟩ := FC.out.2.2.q1; (try (obtain ⟨q6, q7⟩ := FC.out.2.2.2.q1)))
    | (go_at_call 19; (with_reducible refine (J1.out _).mono ?_); rintro e wc ⟨rfl, hbc⟩; have FC := Lib.hid ((FC.out.step hbc).put x y); clear hbc; (try clear q0 q1); (try clear q2 q3); (try clear q4 q5); (try clear q6 q7); obtain ⟨q0, q1⟩ := FC.out.q1; obtain ⟨q2, q3⟩ := FC.out.2.q1; obtain ⟨q4, q5⟩ := FC.out.2.2.q1; (try (obtain ⟨q6, q7⟩ := FC.out.2.2.2.q1)))
    | (go_at_call 17; (with_reducible refine (W5.out _).mono ?_); rintro e wc ⟨rfl, hbc⟩; have FC := Lib.hid (FC.out.step hbc); clear hbc; (try clear q0 q1); (try clear q2 q3); (try clear q4 q5); (try clear q6 q7); obtain ⟨q0, q1⟩ := FC.out.q1; obtain ⟨q2, q3⟩ := FC.out.2.q1; obtain ⟨q4, q5⟩ := FC.out.2.2.q1; (try (obtain ⟨q6, q7⟩ := FC.out.2.2.2.q1)))
    | (go_at_call 17; (with_reducible refine (W6.out _).mono ?_); rintro e wc ⟨rfl, hbc⟩; have FC := Lib.hid (FC.out.step hbc); clear hbc; (try clear q0 q1); (try clear q2 q3); (try clear q4 q5); (try clear q6 q7); obtain ⟨q0, q1⟩ := FC.out.q1; obtain ⟨q2, q3⟩ := FC.out.2.q1; obtain ⟨q4, q5⟩ := FC.out.2.2.q1; (try (obtain ⟨q6, q7⟩ := FC.out.2.2.2.q1)))
    | (go_at_call 17; (with_reducible refine (W7.out _).mono ?_); rintro e wc ⟨rfl, hbc⟩; have FC := Lib.hid (FC.out.step hbc); clear hbc; (try clear q0 q1); (try clear q2 q3); (try clear q4 q5); (try clear q6 q7); obtain ⟨q0, q1⟩ := FC.out.q1; obtain ⟨q2, q3⟩ := FC.out.2.q1; obtain ⟨q4, q5⟩ := FC.out.2.2.q1; (try (obtain ⟨q6, q7⟩ := FC.out.2.2.2.q1))))
  go_ret
  exact ⟨rfl, FC.out.below⟩
theorem within_a1 (a b e f : Nat) (h1 : wiV ⟨a, b⟩ ⟨a, b⟩ = true) (h2 : wiV ⟨a, b⟩ ⟨e, f⟩ = true) :
    Ans 10 #[.agg #[.int .u64 (a : Int), .int .u64 (b : Int)], .agg #[.int .u64 (a : Int), .int .u64 (b : Int)], .agg #[.int .u64 (e : Int), .int .u64 (f : Int)]] (.bool true) w := by
  have SH := Lib.hid (fun W => shown_any (w := W))
  have W1 := Lib.hid (fun W => within_any (w := W) ⟨a, b⟩ ⟨a, b⟩)
  rw [h1] at W1
  have W2 := Lib.hid (fun W => within_any (w := W) ⟨a, b⟩ ⟨e, f⟩)
  rw [h2] at W2
  have J1 := Lib.hid (fun W => join_any (w := W) ⟨a, b⟩ ⟨a, b⟩)
  have mm := (wi_may h1).1
  rw [(jo_ok0 mm mm).1] at J1
  have W6 := Lib.hid (fun W => within_any (w := W) ⟨a, b⟩ (joV ⟨a, b⟩ ⟨a, b⟩))
  rw [l_jo_has mm mm] at W6
  have W5 := Lib.hid (fun W => within_any (w := W) (joV ⟨a, b⟩ ⟨a, b⟩) ⟨e, f⟩)
  rw [l_least h2 h2] at W5
  clear mm h1 h2
  generalize joV ⟨a, b⟩ ⟨a, b⟩ = v at J1 W6 W5
  obtain ⟨x, y⟩ := v
  simp only [spv] at W1 W2 J1 W6 W5
  go_enter Try.func10, Try.ntmps10
  go_wp2_with (first
    | (go_at_call 11; (with_reducible refine (SH.out _).mono ?_); rintro e wc ⟨rfl, hbc⟩; have FC := Lib.hid ((Fr.p3 w a b a b e f).step hbc); clear hbc; obtain ⟨q0, q1⟩ := FC.out.q1; obtain ⟨q2, q3⟩ := FC.out.2.q1; obtain ⟨q4, q5⟩ := FC.out.2.2.q1)
    | (go_at_call 17; (with_reducible refine (W1.out _).mono ?_); rintro e wc ⟨rfl, hbc⟩; have FC := Lib.hid (FC.out.step hbc); clear hbc; (try clear q0 q1); (try clear q2 q3); (try clear q4 q5); (try clear q6 q7); obtain ⟨q0, q1⟩ := FC.out.q1; obtain ⟨q2, q3⟩ := FC.out.2.q1; obtain ⟨q4, q5⟩ := FC.out.2.2.q1; (try (obtain ⟨q6, q7⟩ := FC.out.2.2.2.q1)))
    | (go_at_call 17; (with_reducible refine (W2.out _).mono ?_); rintro e wc ⟨rfl, hbc⟩; have FC := Lib.hid (FC.out.step hbc); clear hbc; (try clear q0 q1); (try clear q2 q3); (try clear q4 q5); (try clear q6 q7); obtain ⟨q0, q1⟩ := FC.out.q1; obtain ⟨q2, q3⟩ := FC.out.2.q1; obtain ⟨q4, q5⟩ := FC.out.2.2.q1; (try (obtain ⟨q6, q7⟩ := FC.out.2.2.2.q1)))
    | (go_at_call 19; (with_reducible refine (J1.out _).mono ?_); rintro e wc ⟨rfl, hbc⟩; have FC := Lib.hid ((FC.out.step hbc).put x y); clear hbc; (try clear q0 q1); (try clear q2 q3); (try clear q4 q5); (try clear q6 q7); obtain ⟨q0, q1⟩ := FC.out.q1; obtain ⟨q2, q3⟩ := FC.out.2.q1; obtain ⟨q4, q5⟩ := FC.out.2.2.q1; (try (obtain ⟨q6, q7⟩ := FC.out.2.2.2.q1)))
    | (go_at_call 17; (with_reducible refine (W5.out _).mono ?_); rintro e wc ⟨rfl, hbc⟩; have FC := Lib.hid (FC.out.step hbc); clear hbc; (try clear q0 q1); (try clear q2 q3); (try clear q4 q5); (try clear q6 q7); obtain ⟨q0, q1⟩ := FC.out.q1; obtain ⟨q2, q3⟩ := FC.out.2.q1; obtain ⟨q4, q5⟩ := FC.out.2.2.q1; (try (obtain ⟨q6, q7⟩ := FC.out.2.2.2.q1)))
    | (go_at_call 17; (with_reducible refine (W6.out _).mono ?_); rintro e wc ⟨rfl, hbc⟩; have FC := Lib.hid (FC.out.step hbc); clear hbc; (try clear q0 q1); (try clear q2 q3); (try clear q4 q5); (try clear q6 q7); obtain ⟨q0, q1⟩ := FC.out.q1; obtain ⟨q2, q3⟩ := FC.out.2.q1; obtain ⟨q4, q5⟩ := FC.out.2.2.q1; (try (obtain ⟨q6, q7⟩ := FC.out.2.2.2.q1))))
  go_ret
  exact ⟨rfl, FC.out.below⟩
theorem within_a2 (a b e f : Nat) (h1 : wiV ⟨a, b⟩ ⟨a, b⟩ = true) (h2 : wiV ⟨a, b⟩ ⟨e, f⟩ = false) :
    Ans 10 #[.agg #[.int .u64 (a : Int), .int .u64 (b : Int)], .agg #[.int .u64 (a : Int), .int .u64 (b : Int)], .agg #[.int .u64 (e : Int), .int .u64 (f : Int)]] (.bool true) w := by
  have SH := Lib.hid (fun W => shown_any (w := W))
  have W1 := Lib.hid (fun W => within_any (w := W) ⟨a, b⟩ ⟨a, b⟩)
  rw [h1] at W1
  have W2 := Lib.hid (fun W => within_any (w := W) ⟨a, b⟩ ⟨e, f⟩)
  rw [h2] at W2
  have J1 := Lib.hid (fun W => join_any (w := W) ⟨a, b⟩ ⟨a, b⟩)
  have mm := (wi_may h1).1
  rw [(jo_ok0 mm mm).1] at J1
  have W6 := Lib.hid (fun W => within_any (w := W) ⟨a, b⟩ (joV ⟨a, b⟩ ⟨a, b⟩))
  rw [l_jo_has mm mm] at W6
  clear mm h1 h2
  generalize joV ⟨a, b⟩ ⟨a, b⟩ = v at J1 W6
  obtain ⟨x, y⟩ := v
  simp only [spv] at W1 W2 J1 W6
  go_enter Try.func10, Try.ntmps10
  go_wp2_with (first
    | (go_at_call 11; (with_reducible refine (SH.out _).mono ?_); rintro e wc ⟨rfl, hbc⟩; have FC := Lib.hid ((Fr.p3 w a b a b e f).step hbc); clear hbc; obtain ⟨q0, q1⟩ := FC.out.q1; obtain ⟨q2, q3⟩ := FC.out.2.q1; obtain ⟨q4, q5⟩ := FC.out.2.2.q1)
    | (go_at_call 17; (with_reducible refine (W1.out _).mono ?_); rintro e wc ⟨rfl, hbc⟩; have FC := Lib.hid (FC.out.step hbc); clear hbc; (try clear q0 q1); (try clear q2 q3); (try clear q4 q5); (try clear q6 q7); obtain ⟨q0, q1⟩ := FC.out.q1; obtain ⟨q2, q3⟩ := FC.out.2.q1; obtain ⟨q4, q5⟩ := FC.out.2.2.q1; (try (obtain ⟨q6, q7⟩ := FC.out.2.2.2.q1)))
    | (go_at_call 17; (with_reducible refine (W2.out _).mono ?_); rintro e wc ⟨rfl, hbc⟩; have FC := Lib.hid (FC.out.step hbc); clear hbc; (try clear q0 q1); (try clear q2 q3); (try clear q4 q5); (try clear q6 q7); obtain ⟨q0, q1⟩ := FC.out.q1; obtain ⟨q2, q3⟩ := FC.out.2.q1; obtain ⟨q4, q5⟩ := FC.out.2.2.q1; (try (obtain ⟨q6, q7⟩ := FC.out.2.2.2.q1)))
    | (go_at_call 19; (with_reducible refine (J1.out _).mono ?_); rintro e wc ⟨rfl, hbc⟩; have FC := Lib.hid ((FC.out.step hbc).put x y); clear hbc; (try clear q0 q1); (try clear q2 q3); (try clear q4 q5); (try clear q6 q7); obtain ⟨q0, q1⟩ := FC.out.q1; obtain ⟨q2, q3⟩ := FC.out.2.q1; obtain ⟨q4, q5⟩ := FC.out.2.2.q1; (try (obtain ⟨q6, q7⟩ := FC.out.2.2.2.q1)))
    | (go_at_call 17; (with_reducible refine (W6.out _).mono ?_); rintro e wc ⟨rfl, hbc⟩; have FC := Lib.hid (FC.out.step hbc); clear hbc; (try clear q0 q1); (try clear q2 q3); (try clear q4 q5); (try clear q6 q7); obtain ⟨q0, q1⟩ := FC.out.q1; obtain ⟨q2, q3⟩ := FC.out.2.q1; obtain ⟨q4, q5⟩ := FC.out.2.2.q1; (try (obtain ⟨q6, q7⟩ := FC.out.2.2.2.q1))))
  go_ret
  exact ⟨rfl, FC.out.below⟩
theorem within_row (s t u : Sp) (W : World) (_hs : s.ok) (_ht : t.ok) (_hu : u.ok) :
    Calls Try.prog 10 #[spv s, spv t, spv u] W fun e w' => e = .returned (.bool true) ∧ Below W.heap.size W w' := by
  obtain ⟨a, b⟩ := s
  obtain ⟨c, d⟩ := t
  obtain ⟨e, f⟩ := u
  cases h1 : wiV ⟨a, b⟩ ⟨c, d⟩ with
  | true =>
    cases h4 : wiV ⟨c, d⟩ ⟨a, b⟩ with
    | true =>
      obtain ⟨rfl, rfl⟩ := Sp.mk.inj (l_anti h1 h4)
      cases h2 : wiV ⟨a, b⟩ ⟨e, f⟩ with
      | true => exact within_a1 a b e f h1 h2
      | false => exact within_a2 a b e f h1 h2
    | false =>
      have hE := (jo_ok0 (wi_may h1).1 (wi_may h1).2).1
      cases h2 : wiV ⟨c, d⟩ ⟨e, f⟩ with
      | true => exact within_b1 a b c d e f h1 h2 (l_trans h1 h2) h4 hE
      | false =>
        cases h3 : wiV ⟨a, b⟩ ⟨e, f⟩ with
        | true => exact within_b2 a b c d e f h1 h2 h3 h4 hE
        | false => exact within_b3 a b c d e f h1 h2 h3 h4 hE
  | false =>
    by_cases hm : (mayV ⟨a, b⟩ && mayV ⟨c, d⟩) = true
    · have hE : joE ⟨a, b⟩ ⟨c, d⟩ = 0 := if_pos hm
      cases h3 : wiV ⟨a, b⟩ ⟨e, f⟩ with
      | false => exact within_c2 a b c d e f h1 h3 hE
      | true =>
        cases h2 : wiV ⟨c, d⟩ ⟨e, f⟩ with
        | false => exact within_c3 a b c d e f h1 h2 h3 hE
        | true => exact within_c4 a b c d e f h1 h2 h3 hE
    · exact within_c1 a b c d e f h1 (if_neg hm)
end
end Go.Proofs.Ytfeobcmkbkaphaa
