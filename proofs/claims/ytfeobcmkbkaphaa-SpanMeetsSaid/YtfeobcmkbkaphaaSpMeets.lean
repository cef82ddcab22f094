/- The walk of SpanMeets: it returns true, and nothing that was there has turned. Conditions: the numbers have at most 64 bits. -/
import Derived.Test.YtfeobcmkbkaphaaSpFrame
import Derived.Test.YtfeobcmkbkaphaaSpJoin
import Derived.Test.YtfeobcmkbkaphaaSpMeet
namespace Go.Proofs.Ytfeobcmkbkaphaa
open Go.RowKit
set_option maxRecDepth 100000
set_option maxHeartbeats 4000000
section
variable {w : World}
theorem meets_bad1 (a b c d n : Nat) (h : mayV ⟨a, b⟩ = false) :
    Ans 7 #[.agg #[.int .u64 (a : Int), .int .u64 (b : Int)], .agg #[.int .u64 (c : Int), .int .u64 (d : Int)], .int .u64 (n : Int)] (.bool true) w := by
  have SH := Lib.hid (fun W => shown_any (w := W))
  have J1 := Lib.hid (fun W => join_any (w := W) ⟨a, b⟩ ⟨c, d⟩)
  have J2 := Lib.hid (fun W => join_any (w := W) ⟨c, d⟩ ⟨a, b⟩)
  have K1 := Lib.hid (fun W => meet_any (w := W) ⟨a, b⟩ ⟨c, d⟩)
  have K2 := Lib.hid (fun W => meet_any (w := W) ⟨c, d⟩ ⟨a, b⟩)
  have M1 := Lib.hid (fun W => may_any (w := W) ⟨a, b⟩)
  have M2 := Lib.hid (fun W => may_any (w := W) ⟨c, d⟩)
  rw [l_jo_comm ⟨c, d⟩, l_joE_comm ⟨c, d⟩] at J2
  rw [l_me_comm ⟨c, d⟩, l_meE_comm ⟨c, d⟩] at K2
  rw [show joE ⟨a, b⟩ ⟨c, d⟩ = 1 by unfold joE; rw [h]; rfl] at J1 J2
  rw [show meE ⟨a, b⟩ ⟨c, d⟩ = 1 by unfold meE; rw [h]; rfl] at K1 K2
  rw [h] at M1
  clear h M2
  generalize joV ⟨a, b⟩ ⟨c, d⟩ = v1 at J1 J2
  generalize meV ⟨a, b⟩ ⟨c, d⟩ = v2 at K1 K2
  obtain ⟨x1, y1⟩ := v1
  obtain ⟨x2, y2⟩ := v2
  simp only [spv] at J1 J2 K1 K2 M1
  go_enter Try.func7, Try.ntmps7
  go_wp2_with (first
    | (go_at_call 11; (with_reducible refine (SH.out _).mono ?_); rintro e wc ⟨rfl, hbc⟩; have FC := Lib.hid ((Fr.p2 w a b c d).step hbc); clear hbc; obtain ⟨q0, q1⟩ := FC.out.q1; obtain ⟨q2, q3⟩ := FC.out.2.q1)
    | (go_at_call 19; (with_reducible refine (J1.out _).mono ?_); rintro e wc ⟨rfl, hbc⟩; have FC := Lib.hid ((FC.out.step hbc).put x1 y1); clear hbc; (try clear q0 q1); (try clear q2 q3); obtain ⟨q0, q1⟩ := FC.out.q1; obtain ⟨q2, q3⟩ := FC.out.2.q1)
    | (go_at_call 19; (with_reducible refine (J2.out _).mono ?_); rintro e wc ⟨rfl, hbc⟩; have FC := Lib.hid ((FC.out.step hbc).put x1 y1); clear hbc; (try clear q0 q1); (try clear q2 q3); obtain ⟨q0, q1⟩ := FC.out.q1; obtain ⟨q2, q3⟩ := FC.out.2.q1)
    | (go_at_call 21; (with_reducible refine (K1.out _).mono ?_); rintro e wc ⟨rfl, hbc⟩; have FC := Lib.hid ((FC.out.step hbc).put x2 y2); clear hbc; (try clear q0 q1); (try clear q2 q3); obtain ⟨q0, q1⟩ := FC.out.q1; obtain ⟨q2, q3⟩ := FC.out.2.q1)
    | (go_at_call 21; (with_reducible refine (K2.out _).mono ?_); rintro e wc ⟨rfl, hbc⟩; have FC := Lib.hid ((FC.out.step hbc).put x2 y2); clear hbc; (try clear q0 q1); (try clear q2 q3); (try clear q4 q5); (try clear q6 q7); (try clear q8 q9); (try clear q10 q11); obtain ⟨q0, q1⟩ := FC.out.q1; obtain ⟨q2, q3⟩ := FC.out.2.q1; (try (obtain ⟨q4, q5⟩ := FC.out.2.2.q1)); (try (obtain ⟨q6, q7⟩ := FC.out.2.2.2.q1)); (try (obtain ⟨q8, q9⟩ := FC.out.2.2.2.2.q1)); (try (obtain ⟨q10, q11⟩ := FC.out.2.2.2.2.2.q1)))
    | (go_at_call 13; (with_reducible refine (M1.out _).mono ?_); rintro e wc ⟨rfl, hbc⟩; have FC := Lib.hid (FC.out.step hbc); clear hbc; (try clear q0 q1); (try clear q2 q3); (try clear q4 q5); (try clear q6 q7); (try clear q8 q9); (try clear q10 q11); obtain ⟨q0, q1⟩ := FC.out.q1; obtain ⟨q2, q3⟩ := FC.out.2.q1; (try (obtain ⟨q4, q5⟩ := FC.out.2.2.q1)); (try (obtain ⟨q6, q7⟩ := FC.out.2.2.2.q1)); (try (obtain ⟨q8, q9⟩ := FC.out.2.2.2.2.q1)); (try (obtain ⟨q10, q11⟩ := FC.out.2.2.2.2.2.q1))))
  go_ret
  exact ⟨rfl, FC.out.below⟩
theorem meets_bad2 (a b c d n : Nat) (h0 : mayV ⟨a, b⟩ = true) (h : mayV ⟨c, d⟩ = false) :
    Ans 7 #[.agg #[.int .u64 (a : Int), .int .u64 (b : Int)], .agg #[.int .u64 (c : Int), .int .u64 (d : Int)], .int .u64 (n : Int)] (.bool true) w := by
  have SH := Lib.hid (fun W => shown_any (w := W))
  have J1 := Lib.hid (fun W => join_any (w := W) ⟨a, b⟩ ⟨c, d⟩)
  have J2 := Lib.hid (fun W => join_any (w := W) ⟨c, d⟩ ⟨a, b⟩)
  have K1 := Lib.hid (fun W => meet_any (w := W) ⟨a, b⟩ ⟨c, d⟩)
  have K2 := Lib.hid (fun W => meet_any (w := W) ⟨c, d⟩ ⟨a, b⟩)
  have M1 := Lib.hid (fun W => may_any (w := W) ⟨a, b⟩)
  have M2 := Lib.hid (fun W => may_any (w := W) ⟨c, d⟩)
  rw [l_jo_comm ⟨c, d⟩, l_joE_comm ⟨c, d⟩] at J2
  rw [l_me_comm ⟨c, d⟩, l_meE_comm ⟨c, d⟩] at K2
  rw [show joE ⟨a, b⟩ ⟨c, d⟩ = 1 by unfold joE; rw [h, Bool.and_false]; rfl] at J1 J2
  rw [show meE ⟨a, b⟩ ⟨c, d⟩ = 1 by unfold meE; rw [h, Bool.and_false]; rfl] at K1 K2
  rw [h0] at M1
  rw [h] at M2
  clear h h0
  generalize joV ⟨a, b⟩ ⟨c, d⟩ = v1 at J1 J2
  generalize meV ⟨a, b⟩ ⟨c, d⟩ = v2 at K1 K2
  obtain ⟨x1, y1⟩ := v1
  obtain ⟨x2, y2⟩ := v2
  simp only [spv] at J1 J2 K1 K2 M1 M2
  go_enter Try.func7, Try.ntmps7
  go_wp2_with (first
    | (go_at_call 11; (with_reducible refine (SH.out _).mono ?_); rintro e wc ⟨rfl, hbc⟩; have FC := Lib.hid ((Fr.p2 w a b c d).step hbc); clear hbc; obtain ⟨q0, q1⟩ := FC.out.q1; obtain ⟨q2, q3⟩ := FC.out.2.q1)
    | (go_at_call 19; (with_reducible refine (J1.out _).mono ?_); rintro e wc ⟨rfl, hbc⟩; have FC := Lib.hid ((FC.out.step hbc).put x1 y1); clear hbc; (try clear q0 q1); (try clear q2 q3); obtain ⟨q0, q1⟩ := FC.out.q1; obtain ⟨q2, q3⟩ := FC.out.2.q1)
    | (go_at_call 19; (with_reducible refine (J2.out _).mono ?_); rintro e wc ⟨rfl, hbc⟩; have FC := Lib.hid ((FC.out.step hbc).put x1 y1); clear hbc; (try clear q0 q1); (try clear q2 q3); obtain ⟨q0, q1⟩ := FC.out.q1; obtain ⟨q2, q3⟩ := FC.out.2.q1)
    | (go_at_call 21; (with_reducible refine (K1.out _).mono ?_); rintro e wc ⟨rfl, hbc⟩; have FC := Lib.hid ((FC.out.step hbc).put x2 y2); clear hbc; (try clear q0 q1); (try clear q2 q3); obtain ⟨q0, q1⟩ := FC.out.q1; obtain ⟨q2, q3⟩ := FC.out.2.q1)
    | (go_at_call 21; (with_reducible refine (K2.out _).mono ?_); rintro e wc ⟨rfl, hbc⟩; have FC := Lib.hid ((FC.out.step hbc).put x2 y2); clear hbc; (try clear q0 q1); (try clear q2 q3); (try clear q4 q5); (try clear q6 q7); (try clear q8 q9); (try clear q10 q11); obtain ⟨q0, q1⟩ := FC.out.q1; obtain ⟨q2, q3⟩ := FC.out.2.q1; (try (obtain ⟨q4, q5⟩ := FC.out.2.2.q1)); (try (obtain ⟨q6, q7⟩ := FC.out.2.2.2.q1)); (try (obtain ⟨q8, q9⟩ := FC.out.2.2.2.2.q1)); (try (obtain ⟨q10, q11⟩ := FC.out.2.2.2.2.2.q1)))
    | (go_at_call 13; (with_reducible refine (M1.out _).mono ?_); rintro e wc ⟨rfl, hbc⟩; have FC := Lib.hid (FC.out.step hbc); clear hbc; (try clear q0 q1); (try clear q2 q3); (try clear q4 q5); (try clear q6 q7); (try clear q8 q9); (try clear q10 q11); obtain ⟨q0, q1⟩ := FC.out.q1; obtain ⟨q2, q3⟩ := FC.out.2.q1; (try (obtain ⟨q4, q5⟩ := FC.out.2.2.q1)); (try (obtain ⟨q6, q7⟩ := FC.out.2.2.2.q1)); (try (obtain ⟨q8, q9⟩ := FC.out.2.2.2.2.q1)); (try (obtain ⟨q10, q11⟩ := FC.out.2.2.2.2.2.q1)))
    | (go_at_call 13; (with_reducible refine (M2.out _).mono ?_); rintro e wc ⟨rfl, hbc⟩; have FC := Lib.hid (FC.out.step hbc); clear hbc; (try clear q0 q1); (try clear q2 q3); (try clear q4 q5); (try clear q6 q7); (try clear q8 q9); (try clear q10 q11); obtain ⟨q0, q1⟩ := FC.out.q1; obtain ⟨q2, q3⟩ := FC.out.2.q1; (try (obtain ⟨q4, q5⟩ := FC.out.2.2.q1)); (try (obtain ⟨q6, q7⟩ := FC.out.2.2.2.q1)); (try (obtain ⟨q8, q9⟩ := FC.out.2.2.2.2.q1)); (try (obtain ⟨q10, q11⟩ := FC.out.2.2.2.2.2.q1))))
  go_ret
  exact ⟨rfl, FC.out.below⟩
theorem meets_ok (a b c d n : Nat) (m1 : mayV ⟨a, b⟩ = true) (m2 : mayV ⟨c, d⟩ = true) :
    Ans 7 #[.agg #[.int .u64 (a : Int), .int .u64 (b : Int)], .agg #[.int .u64 (c : Int), .int .u64 (d : Int)], .int .u64 (n : Int)] (.bool true) w := by
  have SH := Lib.hid (fun W => shown_any (w := W))
  have J1 := Lib.hid (fun W => join_any (w := W) ⟨a, b⟩ ⟨c, d⟩)
  have J2 := Lib.hid (fun W => join_any (w := W) ⟨c, d⟩ ⟨a, b⟩)
  have K1 := Lib.hid (fun W => meet_any (w := W) ⟨a, b⟩ ⟨c, d⟩)
  have K2 := Lib.hid (fun W => meet_any (w := W) ⟨c, d⟩ ⟨a, b⟩)
  have M1 := Lib.hid (fun W => may_any (w := W) ⟨a, b⟩)
  have M2 := Lib.hid (fun W => may_any (w := W) ⟨c, d⟩)
  rw [l_jo_comm ⟨c, d⟩, l_joE_comm ⟨c, d⟩] at J2
  rw [l_me_comm ⟨c, d⟩, l_meE_comm ⟨c, d⟩] at K2
  have H1 := Lib.hid (fun W => has_any (w := W) ⟨a, b⟩ n)
  have H2 := Lib.hid (fun W => has_any (w := W) ⟨c, d⟩ n)
  have H3 := Lib.hid (fun W => has_any (w := W) (joV ⟨a, b⟩ ⟨c, d⟩) n)
  have H4 := Lib.hid (fun W => has_any (w := W) (meV ⟨a, b⟩ ⟨c, d⟩) n)
  have W1 := Lib.hid (fun W => within_any (w := W) ⟨a, b⟩ (joV ⟨a, b⟩ ⟨c, d⟩))
  have e1 := (jo_ok0 m1 m2).1
  have f1 := fun h => l_either n m1 m2 h
  have f2 := l_jo_has m1 m2
  have f3 := l_both n m1 m2
  have f4 := l_me06 m1 m2
  rw [e1] at J1 J2
  rw [m1] at M1
  rw [m2] at M2
  rw [f2] at W1
  clear m1 m2 e1 f2
  generalize joV ⟨a, b⟩ ⟨c, d⟩ = v1 at J1 J2 H3 W1 f1
  generalize meV ⟨a, b⟩ ⟨c, d⟩ = v2 at K1 K2 H4 f3
  generalize meE ⟨a, b⟩ ⟨c, d⟩ = E at K1 K2 f3 f4
  generalize hasV ⟨a, b⟩ n = p1 at H1 f1 f3
  generalize hasV ⟨c, d⟩ n = p2 at H2 f1 f3
  generalize hasV v1 n = p3 at H3 f1
  generalize hasV v2 n = p4 at H4 f3
  obtain ⟨x1, y1⟩ := v1
  obtain ⟨x2, y2⟩ := v2
  simp only [spv] at J1 J2 K1 K2 M1 M2 H1 H2 H3 H4 W1
  rcases f4 with rfl | rfl
  · cases p1 <;> cases p2
    · have g4 : p4 = false := by simpa using f3.symm
      subst g4
      clear f1 f3
      cases p3
      · go_enter Try.func7, Try.ntmps7
        go_wp2_with (first
          | (go_at_call 11; (with_reducible refine (SH.out _).mono ?_); rintro e wc ⟨rfl, hbc⟩; have FC := Lib.hid ((Fr.p2 w a b c d).step hbc); clear hbc; obtain ⟨q0, q1⟩ := FC.out.q1; obtain ⟨q2, q3⟩ := FC.out.2.q1)
          | (go_at_call 19; (with_reducible refine (J1.out _).mono ?_); rintro e wc ⟨rfl, hbc⟩; have FC := Lib.hid ((FC.out.step hbc).put x1 y1); clear hbc; (try clear q0 q1); (try clear q2 q3); obtain ⟨q0, q1⟩ := FC.out.q1; obtain ⟨q2, q3⟩ := FC.out.2.q1)
          | (go_at_call 19; (with_reducible refine (J2.out _).mono ?_); rintro e wc ⟨rfl, hbc⟩; have FC := Lib.hid ((FC.out.step hbc).put x1 y1); clear hbc; (try clear q0 q1); (try clear q2 q3); obtain ⟨q0, q1⟩ := FC.out.q1; obtain ⟨q2, q3⟩ := FC.out.2.q1)
          | (go_at_call 21; (with_reducible refine (K1.out _).mono ?_); rintro e wc ⟨rfl, hbc⟩; have FC := Lib.hid ((FC.out.step hbc).put x2 y2); clear hbc; (try clear q0 q1); (try clear q2 q3); obtain ⟨q0, q1⟩ := FC.out.q1; obtain ⟨q2, q3⟩ := FC.out.2.q1)
          | (go_at_call 21; (with_reducible refine (K2.out _).mono ?_); rintro e wc ⟨rfl, hbc⟩; have FC := Lib.hid ((FC.out.step hbc).put x2 y2); clear hbc; (try clear q0 q1); (try clear q2 q3); (try clear q4 q5); (try clear q6 q7); (try clear q8 q9); (try clear q10 q11); obtain ⟨q0, q1⟩ := FC.out.q1; obtain ⟨q2, q3⟩ := FC.out.2.q1; (try (obtain ⟨q4, q5⟩ := FC.out.2.2.q1)); (try (obtain ⟨q6, q7⟩ := FC.out.2.2.2.q1)); (try (obtain ⟨q8, q9⟩ := FC.out.2.2.2.2.q1)); (try (obtain ⟨q10, q11⟩ := FC.out.2.2.2.2.2.q1)))
          | (go_at_call 13; (with_reducible refine (M1.out _).mono ?_); rintro e wc ⟨rfl, hbc⟩; have FC := Lib.hid (FC.out.step hbc); clear hbc; (try clear q0 q1); (try clear q2 q3); (try clear q4 q5); (try clear q6 q7); (try clear q8 q9); (try clear q10 q11); obtain ⟨q0, q1⟩ := FC.out.q1; obtain ⟨q2, q3⟩ := FC.out.2.q1; (try (obtain ⟨q4, q5⟩ := FC.out.2.2.q1)); (try (obtain ⟨q6, q7⟩ := FC.out.2.2.2.q1)); (try (obtain ⟨q8, q9⟩ := FC.out.2.2.2.2.q1)); (try (obtain ⟨q10, q11⟩ := FC.out.2.2.2.2.2.q1)))
          | (go_at_call 13; (with_reducible refine (M2.out _).mono ?_); rintro e wc ⟨rfl, hbc⟩; have FC := Lib.hid (FC.out.step hbc); clear hbc; (try clear q0 q1); (try clear q2 q3); (try clear q4 q5); (try clear q6 q7); (try clear q8 q9); (try clear q10 q11); obtain ⟨q0, q1⟩ := FC.out.q1; obtain ⟨q2, q3⟩ := FC.out.2.q1; (try (obtain ⟨q4, q5⟩ := FC.out.2.2.q1)); (try (obtain ⟨q6, q7⟩ := FC.out.2.2.2.q1)); (try (obtain ⟨q8, q9⟩ := FC.out.2.2.2.2.q1)); (try (obtain ⟨q10, q11⟩ := FC.out.2.2.2.2.2.q1)))
          | (go_at_call 15; (with_reducible refine (H1.out _).mono ?_); rintro e wc ⟨rfl, hbc⟩; have FC := Lib.hid (FC.out.step hbc); clear hbc; (try clear q0 q1); (try clear q2 q3); (try clear q4 q5); (try clear q6 q7); (try clear q8 q9); (try clear q10 q11); obtain ⟨q0, q1⟩ := FC.out.q1; obtain ⟨q2, q3⟩ := FC.out.2.q1; (try (obtain ⟨q4, q5⟩ := FC.out.2.2.q1)); (try (obtain ⟨q6, q7⟩ := FC.out.2.2.2.q1)); (try (obtain ⟨q8, q9⟩ := FC.out.2.2.2.2.q1)); (try (obtain ⟨q10, q11⟩ := FC.out.2.2.2.2.2.q1)))
          | (go_at_call 15; (with_reducible refine (H2.out _).mono ?_); rintro e wc ⟨rfl, hbc⟩; have FC := Lib.hid (FC.out.step hbc); clear hbc; (try clear q0 q1); (try clear q2 q3); (try clear q4 q5); (try clear q6 q7); (try clear q8 q9); (try clear q10 q11); obtain ⟨q0, q1⟩ := FC.out.q1; obtain ⟨q2, q3⟩ := FC.out.2.q1; (try (obtain ⟨q4, q5⟩ := FC.out.2.2.q1)); (try (obtain ⟨q6, q7⟩ := FC.out.2.2.2.q1)); (try (obtain ⟨q8, q9⟩ := FC.out.2.2.2.2.q1)); (try (obtain ⟨q10, q11⟩ := FC.out.2.2.2.2.2.q1)))
          | (go_at_call 15; (with_reducible refine (H3.out _).mono ?_); rintro e wc ⟨rfl, hbc⟩; have FC := Lib.hid (FC.out.step hbc); clear hbc; (try clear q0 q1); (try clear q2 q3); (try clear q4 q5); (try clear q6 q7); (try clear q8 q9); (try clear q10 q11); obtain ⟨q0, q1⟩ := FC.out.q1; obtain ⟨q2, q3⟩ := FC.out.2.q1; (try (obtain ⟨q4, q5⟩ := FC.out.2.2.q1)); (try (obtain ⟨q6, q7⟩ := FC.out.2.2.2.q1)); (try (obtain ⟨q8, q9⟩ := FC.out.2.2.2.2.q1)); (try (obtain ⟨q10, q11⟩ := FC.out.2.2.2.2.2.q1)))
          | (go_at_call 15; (with_reducible refine (H4.out _).mono ?_); rintro e wc ⟨rfl, hbc⟩; have FC := Lib.hid (FC.out.step hbc); clear hbc; (try clear q0 q1); (try clear q2 q3); (try clear q4 q5); (try clear q6 q7); (try clear q8 q9); (try clear q10 q11); obtain ⟨q0, q1⟩ := FC.out.q1; obtain ⟨q2, q3⟩ := FC.out.2.q1; (try (obtain ⟨q4, q5⟩ := FC.out.2.2.q1)); (try (obtain ⟨q6, q7⟩ := FC.out.2.2.2.q1)); (try (obtain ⟨q8, q9⟩ := FC.out.2.2.2.2.q1)); (try (obtain ⟨q10, q11⟩ := FC.out.2.2.2.2.2.q1)))
          | (go_at_call 17; (with_reducible refine (W1.out _).mono ?_); rintro e wc ⟨rfl, hbc⟩; have FC := Lib.hid (FC.out.step hbc); clear hbc; (try clear q0 q1); (try clear q2 q3); (try clear q4 q5); (try clear q6 q7); (try clear q8 q9); (try clear q10 q11); obtain ⟨q0, q1⟩ := FC.out.q1; obtain ⟨q2, q3⟩ := FC.out.2.q1; (try (obtain ⟨q4, q5⟩ := FC.out.2.2.q1)); (try (obtain ⟨q6, q7⟩ := FC.out.2.2.2.q1)); (try (obtain ⟨q8, q9⟩ := FC.out.2.2.2.2.q1)); (try (obtain ⟨q10, q11⟩ := FC.out.2.2.2.2.2.q1))))
        go_ret
        exact ⟨rfl, FC.out.below⟩
      · go_enter Try.func7, Try.ntmps7
        go_wp2_with (first
          | (go_at_call 11; (with_reducible refine (SH.out _).mono ?_); rintro e wc ⟨rfl, hbc⟩; have FC := Lib.hid ((Fr.p2 w a b c d).step hbc); clear hbc; obtain ⟨q0, q1⟩ := FC.out.q1; obtain ⟨q2, q3⟩ := FC.out.2.q1)
          | (go_at_call 19; (with_reducible refine (J1.out _).mono ?_); rintro e wc ⟨rfl, hbc⟩; have FC := Lib.hid ((FC.out.step hbc).put x1 y1); clear hbc; (try clear q0 q1); (try clear q2 q3); obtain ⟨q0, q1⟩ := FC.out.q1; obtain ⟨q2, q3⟩ := FC.out.2.q1)
          | (go_at_call 19; (with_reducible refine (J2.out _).mono ?_); rintro e wc ⟨rfl, hbc⟩; have FC := Lib.hid ((FC.out.step hbc).put x1 y1); clear hbc; (try clear q0 q1); (try clear q2 q3); obtain ⟨q0, q1⟩ := FC.out.q1; obtain ⟨q2, q3⟩ := FC.out.2.q1)
          | (go_at_call 21; (with_reducible refine (K1.out _).mono ?_); rintro e wc ⟨rfl, hbc⟩; have FC := Lib.hid ((FC.out.step hbc).put x2 y2); clear hbc; (try clear q0 q1); (try clear q2 q3); obtain ⟨q0, q1⟩ := FC.out.q1; obtain ⟨q2, q3⟩ := FC.out.2.q1)
          | (go_at_call 21; (with_reducible refine (K2.out _).mono ?_); rintro e wc ⟨rfl, hbc⟩; have FC := Lib.hid ((FC.out.step hbc).put x2 y2); clear hbc; (try clear q0 q1); (try clear q2 q3); (try clear q4 q5); (try clear q6 q7); (try clear q8 q9); (try clear q10 q11); obtain ⟨q0, q1⟩ := FC.out.q1; obtain ⟨q2, q3⟩ := FC.out.2.q1; (try (obtain ⟨q4, q5⟩ := FC.out.2.2.q1)); (try (obtain ⟨q6, q7⟩ := FC.out.2.2.2.q1)); (try (obtain ⟨q8, q9⟩ := FC.out.2.2.2.2.q1)); (try (obtain ⟨q10, q11⟩ := FC.out.2.2.2.2.2.q1)))
          | (go_at_call 13; (with_reducible refine (M1.out _).mono ?_); rintro e wc ⟨rfl, hbc⟩; have FC := Lib.hid (FC.out.step hbc); clear hbc; (try clear q0 q1); (try clear q2 q3); (try clear q4 q5); (try clear q6 q7); (try clear q8 q9); (try clear q10 q11); obtain ⟨q0, q1⟩ := FC.out.q1; obtain ⟨q2, q3⟩ := FC.out.2.q1; (try (obtain ⟨q4, q5⟩ := FC.out.2.2.q1)); (try (obtain ⟨q6, q7⟩ := FC.out.2.2.2.q1)); (try (obtain ⟨q8, q9⟩ := FC.out.2.2.2.2.q1)); (try (obtain ⟨q10, q11⟩ := FC.out.2.2.2.2.2.q1)))
          | (go_at_call 13; (with_reducible refine (M2.out _).mono ?_); rintro e wc ⟨rfl, hbc⟩; have FC := Lib.hid (FC.out.step hbc); clear hbc; (try clear q0 q1); (try clear q2 q3); (try clear q4 q5); (try clear q6 q7); (try clear q8 q9); (try clear q10 q11); obtain ⟨q0, q1⟩ := FC.out.q1; obtain ⟨q2, q3⟩ := FC.out.2.q1; (try (obtain ⟨q4, q5⟩ := FC.out.2.2.q1)); (try (obtain ⟨q6, q7⟩ := FC.out.2.2.2.q1)); (try (obtain ⟨q8, q9⟩ := FC.out.2.2.2.2.q1)); (try (obtain ⟨q10, q11⟩ := FC.out.2.2.2.2.2.q1)))
          | (go_at_call 15; (with_reducible refine (H1.out _).mono ?_); rintro e wc ⟨rfl, hbc⟩; have FC := Lib.hid (FC.out.step hbc); clear hbc; (try clear q0 q1); (try clear q2 q3); (try clear q4 q5); (try clear q6 q7); (try clear q8 q9); (try clear q10 q11); obtain ⟨q0, q1⟩ := FC.out.q1; obtain ⟨q2, q3⟩ := FC.out.2.q1; (try (obtain ⟨q4, q5⟩ := FC.out.2.2.q1)); (try (obtain ⟨q6, q7⟩ := FC.out.2.2.2.q1)); (try (obtain ⟨q8, q9⟩ := FC.out.2.2.2.2.q1)); (try (obtain ⟨q10, q11⟩ := FC.out.2.2.2.2.2.q1)))
          | (go_at_call 15; (with_reducible refine (H2.out _).mono ?_); rintro e wc ⟨rfl, hbc⟩; have FC := Lib.hid (FC.out.step hbc); clear hbc; (try clear q0 q1); (try clear q2 q3); (try clear q4 q5); (try clear q6 q7); (try clear q8 q9); (try clear q10 q11); obtain ⟨q0, q1⟩ := FC.out.q1; obtain ⟨q2, q3⟩ := FC.out.2.q1; (try (obtain ⟨q4, q5⟩ := FC.out.2.2.q1)); (try (obtain ⟨q6, q7⟩ := FC.out.2.2.2.q1)); (try (obtain ⟨q8, q9⟩ := FC.out.2.2.2.2.q1)); (try (obtain ⟨q10, q11⟩ := FC.out.2.2.2.2.2.q1)))
          | (go_at_call 15; (with_reducible refine (H3.out _).mono ?_); rintro e wc ⟨rfl, hbc⟩; have FC := Lib.hid (FC.out.step hbc); clear hbc; (try clear q0 q1); (try clear q2 q3); (try clear q4 q5); (try clear q6 q7); (try clear q8 q9); (try clear q10 q11); obtain ⟨q0, q1⟩ := FC.out.q1; obtain ⟨q2, q3⟩ := FC.out.2.q1; (try (obtain ⟨q4, q5⟩ := FC.out.2.2.q1)); (try (obtain ⟨q6, q7⟩ := FC.out.2.2.2.q1)); (try (obtain ⟨q8, q9⟩ := FC.out.2.2.2.2.q1)); (try (obtain ⟨q10, q11⟩ := FC.out.2.2.2.2.2.q1)))
          | (go_at_call 15; (with_reducible refine (H4.out _).mono ?_); rintro e wc ⟨rfl, hbc⟩; have FC := Lib.hid (FC.out.step hbc); clear hbc; (try clear q0 q1); (try clear q2 q3); (try clear q4 q5); (try clear q6 q7); (try clear q8 q9); (try clear q10 q11); obtain ⟨q0, q1⟩ := FC.out.q1; obtain ⟨q2, q3⟩ := FC.out.2.q1; (try (obtain ⟨q4, q5⟩ := FC.out.2.2.q1)); (try (obtain ⟨q6, q7⟩ := FC.out.2.2.2.q1)); (try (obtain ⟨q8, q9⟩ := FC.out.2.2.2.2.q1)); (try (obtain ⟨q10, q11⟩ := FC.out.2.2.2.2.2.q1)))
          | (go_at_call 17; (with_reducible refine (W1.out _).mono ?_); rintro e wc ⟨rfl, hbc⟩; have FC := Lib.hid (FC.out.step hbc); clear hbc; (try clear q0 q1); (try clear q2 q3); (try clear q4 q5); (try clear q6 q7); (try clear q8 q9); (try clear q10 q11); obtain ⟨q0, q1⟩ := FC.out.q1; obtain ⟨q2, q3⟩ := FC.out.2.q1; (try (obtain ⟨q4, q5⟩ := FC.out.2.2.q1)); (try (obtain ⟨q6, q7⟩ := FC.out.2.2.2.q1)); (try (obtain ⟨q8, q9⟩ := FC.out.2.2.2.2.q1)); (try (obtain ⟨q10, q11⟩ := FC.out.2.2.2.2.2.q1))))
        go_ret
        exact ⟨rfl, FC.out.below⟩
    · have g4 : p4 = false := by simpa using f3.symm
      have g3 := f1 rfl
      subst g4 g3
      clear f1 f3
      go_enter Try.func7, Try.ntmps7
      go_wp2_with (first
        | (go_at_call 11; (with_reducible refine (SH.out _).mono ?_); rintro e wc ⟨rfl, hbc⟩; have FC := Lib.hid ((Fr.p2 w a b c d).step hbc); clear hbc; obtain ⟨q0, q1⟩ := FC.out.q1; obtain ⟨q2, q3⟩ := FC.out.2.q1)
        | (go_at_call 19; (with_reducible refine (J1.out _).mono ?_); rintro e wc ⟨rfl, hbc⟩; have FC := Lib.hid ((FC.out.step hbc).put x1 y1); clear hbc; (try clear q0 q1); (try clear q2 q3); obtain ⟨q0, q1⟩ := FC.out.q1; obtain ⟨q2, q3⟩ := FC.out.2.q1)
        | (go_at_call 19; (with_reducible refine (J2.out _).mono ?_); rintro e wc ⟨rfl, hbc⟩; have FC := Lib.hid ((FC.out.step hbc).put x1 y1); clear hbc; (try clear q0 q1); (try clear q2 q3); obtain ⟨q0, q1⟩ := FC.out.q1; obtain ⟨q2, q3⟩ := FC.out.2.q1)
        | (go_at_call 21; (with_reducible refine (K1.out _).mono ?_); rintro e wc ⟨rfl, hbc⟩; have FC := Lib.hid ((FC.out.step hbc).put x2 y2); clear hbc; (try clear q0 q1); (try clear q2 q3); obtain ⟨q0, q1⟩ := FC.out.q1; obtain ⟨q2, q3⟩ := FC.out.2.q1)
        | (go_at_call 21; (with_reducible refine (K2.out _).mono ?_); rintro e wc ⟨rfl, hbc⟩; have FC := Lib.hid ((FC.out.step hbc).put x2 y2); clear hbc; (try clear q0 q1); (try clear q2 q3); (try clear q4 q5); (try clear q6 q7); (try clear q8 q9); (try clear q10 q11); obtain ⟨q0, q1⟩ := FC.out.q1; obtain ⟨q2, q3⟩ := FC.out.2.q1; (try (obtain ⟨q4, q5⟩ := FC.out.2.2.q1)); (try (obtain ⟨q6, q7⟩ := FC.out.2.2.2.q1)); (try (obtain ⟨q8, q9⟩ := FC.out.2.2.2.2.q1)); (try (obtain ⟨q10, q11⟩ := FC.out.2.2.2.2.2.q1)))
        | (go_at_call 13; (with_reducible refine (M1.out _).mono ?_); rintro e wc ⟨rfl, hbc⟩; have FC := Lib.hid (FC.out.step hbc); clear hbc; (try clear q0 q1); (try clear q2 q3); (try clear q4 q5); (try clear q6 q7); (try clear q8 q9); (try clear q10 q11); obtain ⟨q0, q1⟩ := FC.out.q1; obtain ⟨q2, q3⟩ := FC.out.2.q1; (try (obtain ⟨q4, q5⟩ := FC.out.2.2.q1)); (try (obtain ⟨q6, q7⟩ := FC.out.2.2.2.q1)); (try (obtain ⟨q8, q9⟩ := FC.out.2.2.2.2.q1)); (try (obtain ⟨q10, q11⟩ := FC.out.2.2.2.2.2.q1)))
        | (go_at_call 13; (with_reducible refine (M2.out _).mono ?_); rintro e wc ⟨rfl, hbc⟩; have FC := Lib.hid (FC.out.step hbc); clear hbc; (try clear q0 q1); (try clear q2 q3); (try clear q4 q5); (try clear q6 q7); (try clear q8 q9); (try clear q10 q11); obtain ⟨q0, q1⟩ := FC.out.q1; obtain ⟨q2, q3⟩ := FC.out.2.q1; (try (obtain ⟨q4, q5⟩ := FC.out.2.2.q1)); (try (obtain ⟨q6, q7⟩ := FC.out.2.2.2.q1)); (try (obtain ⟨q8, q9⟩ := FC.out.2.2.2.2.q1)); (try (obtain ⟨q10, q11⟩ := FC.out.2.2.2.2.2.q1)))
        | (go_at_call 15; (with_reducible refine (H1.out _).mono ?_); rintro e wc ⟨rfl, hbc⟩; have FC := Lib.hid (FC.out.step hbc); clear hbc; (try clear q0 q1); (try clear q2 q3); (try clear q4 q5); (try clear q6 q7); (try clear q8 q9); (try clear q10 q11); obtain ⟨q0, q1⟩ := FC.out.q1; obtain ⟨q2, q3⟩ := FC.out.2.q1; (try (obtain ⟨q4, q5⟩ := FC.out.2.2.q1)); (try (obtain ⟨q6, q7⟩ := FC.out.2.2.2.q1)); (try (obtain ⟨q8, q9⟩ := FC.out.2.2.2.2.q1)); (try (obtain ⟨q10, q11⟩ := FC.out.2.2.2.2.2.q1)))
        | (go_at_call 15; (with_reducible refine (H2.out _).mono ?_); rintro e wc ⟨rfl, hbc⟩; have FC := Lib.hid (FC.out.step hbc); clear hbc; (try clear q0 q1); (try clear q2 q3); (try clear q4 q5); (try clear q6 q7); (try clear q8 q9); (try clear q10 q11); obtain ⟨q0, q1⟩ := FC.out.q1; obtain ⟨q2, q3⟩ := FC.out.2.q1; (try (obtain ⟨q4, q5⟩ := FC.out.2.2.q1)); (try (obtain ⟨q6, q7⟩ := FC.out.2.2.2.q1)); (try (obtain ⟨q8, q9⟩ := FC.out.2.2.2.2.q1)); (try (obtain ⟨q10, q11⟩ := FC.out.2.2.2.2.2.q1)))
        | (go_at_call 15; (with_reducible refine (H3.out _).mono ?_); rintro e wc ⟨rfl, hbc⟩; have FC := Lib.hid (FC.out.step hbc); clear hbc; (try clear q0 q1); (try clear q2 q3); (try clear q4 q5); (try clear q6 q7); (try clear q8 q9); (try clear q10 q11); obtain ⟨q0, q1⟩ := FC.out.q1; obtain ⟨q2, q3⟩ := FC.out.2.q1; (try (obtain ⟨q4, q5⟩ := FC.out.2.2.q1)); (try (obtain ⟨q6, q7⟩ := FC.out.2.2.2.q1)); (try (obtain ⟨q8, q9⟩ := FC.out.2.2.2.2.q1)); (try (obtain ⟨q10, q11⟩ := FC.out.2.2.2.2.2.q1)))
        | (go_at_call 15; (with_reducible refine (H4.out _).mono ?_); rintro e wc ⟨rfl, hbc⟩; have FC := Lib.hid (FC.out.step hbc); clear hbc; (try clear q0 q1); (try clear q2 q3); (try clear q4 q5); (try clear q6 q7); (try clear q8 q9); (try clear q10 q11); obtain ⟨q0, q1⟩ := FC.out.q1; obtain ⟨q2, q3⟩ := FC.out.2.q1; (try (obtain ⟨q4, q5⟩ := FC.out.2.2.q1)); (try (obtain ⟨q6, q7⟩ := FC.out.2.2.2.q1)); (try (obtain ⟨q8, q9⟩ := FC.out.2.2.2.2.q1)); (try (obtain ⟨q10, q11⟩ := FC.out.2.2.2.2.2.q1)))
        | (go_at_call 17; (with_reducible refine (W1.out _).mono ?_); rintro e wc ⟨rfl, hbc⟩; have FC := Lib.hid (FC.out.step hbc); clear hbc; (try clear q0 q1); (try clear q2 q3); (try clear q4 q5); (try clear q6 q7); (try clear q8 q9); (try clear q10 q11); obtain ⟨q0, q1⟩ := FC.out.q1; obtain ⟨q2, q3⟩ := FC.out.2.q1; (try (obtain ⟨q4, q5⟩ := FC.out.2.2.q1)); (try (obtain ⟨q6, q7⟩ := FC.out.2.2.2.q1)); (try (obtain ⟨q8, q9⟩ := FC.out.2.2.2.2.q1)); (try (obtain ⟨q10, q11⟩ := FC.out.2.2.2.2.2.q1))))
      go_ret
      exact ⟨rfl, FC.out.below⟩
    · have g4 : p4 = false := by simpa using f3.symm
      have g3 := f1 rfl
      subst g4 g3
      clear f1 f3
      go_enter Try.func7, Try.ntmps7
      go_wp2_with (first
        | (go_at_call 11; (with_reducible refine (SH.out _).mono ?_); rintro e wc ⟨rfl, hbc⟩; have FC := Lib.hid ((Fr.p2 w a b c d).step hbc); clear hbc; obtain ⟨q0, q1⟩ := FC.out.q1; obtain ⟨q2, q3⟩ := FC.out.2.q1)
        | (go_at_call 19; (with_reducible refine (J1.out _).mono ?_); rintro e wc ⟨rfl, hbc⟩; have FC := Lib.hid ((FC.out.step hbc).put x1 y1); clear hbc; (try clear q0 q1); (try clear q2 q3); obtain ⟨q0, q1⟩ := FC.out.q1; obtain ⟨q2, q3⟩ := FC.out.2.q1)
        | (go_at_call 19; (with_reducible refine (J2.out _).mono ?_); rintro e wc ⟨rfl, hbc⟩; have FC := Lib.hid ((FC.out.step hbc).put x1 y1); clear hbc; (try clear q0 q1); (try clear q2 q3); obtain ⟨q0, q1⟩ := FC.out.q1; obtain ⟨q2, q3⟩ := FC.out.2.q1)
        | (go_at_call 21; (with_reducible refine (K1.out _).mono ?_); rintro e wc ⟨rfl, hbc⟩; have FC := Lib.hid ((FC.out.step hbc).put x2 y2); clear hbc; (try clear q0 q1); (try clear q2 q3); obtain ⟨q0, q1⟩ := FC.out.q1; obtain ⟨q2, q3⟩ := FC.out.2.q1)
        | (go_at_call 21; (with_reducible refine (K2.out _).mono ?_); rintro e wc ⟨rfl, hbc⟩; have FC := Lib.hid ((FC.out.step hbc).put x2 y2); clear hbc; (try clear q0 q1); (try clear q2 q3); (try clear q4 q5); (try clear q6 q7); (try clear q8 q9); (try clear q10 q11); obtain ⟨q0, q1⟩ := FC.out.q1; obtain ⟨q2, q3⟩ := FC.out.2.q1; (try (obtain ⟨q4, q5⟩ := FC.out.2.2.q1)); (try (obtain ⟨q6, q7⟩ := FC.out.2.2.2.q1)); (try (obtain ⟨q8, q9⟩ := FC.out.2.2.2.2.q1)); (try (obtain ⟨q10, q11⟩ := FC.out.2.2.2.2.2.q1)))
        | (go_at_call 13; (with_reducible refine (M1.out _).mono ?_); rintro e wc ⟨rfl, hbc⟩; have FC := Lib.hid (FC.out.step hbc); clear hbc; (try clear q0 q1); (try clear q2 q3); (try clear q4 q5); (try clear q6 q7); (try clear q8 q9); (try clear q10 q11); obtain ⟨q0, q1⟩ := FC.out.q1; obtain ⟨q2, q3⟩ := FC.out.2.q1; (try (obtain ⟨q4, q5⟩ := FC.out.2.2.q1)); (try (obtain ⟨q6, q7⟩ := FC.out.2.2.2.q1)); (try (obtain ⟨q8, q9⟩ := FC.out.2.2.2.2.q1)); (try (obtain ⟨q10, q11⟩ := FC.out.2.2.2.2.2.q1)))
        | (go_at_call 13; (with_reducible refine (M2.out _).mono ?_); rintro e wc ⟨rfl, hbc⟩; have FC := Lib.hid (FC.out.step hbc); clear hbc; (try clear q0 q1); (try clear q2 q3); (try clear q4 q5); (try clear q6 q7); (try clear q8 q9); (try clear q10 q11); obtain ⟨q0, q1⟩ := FC.out.q1; obtain ⟨q2, q3⟩ := FC.out.2.q1; (try (obtain ⟨q4, q5⟩ := FC.out.2.2.q1)); (try (obtain ⟨q6, q7⟩ := FC.out.2.2.2.q1)); (try (obtain ⟨q8, q9⟩ := FC.out.2.2.2.2.q1)); (try (obtain ⟨q10, q11⟩ := FC.out.2.2.2.2.2.q1)))
        | (go_at_call 15; (with_reducible refine (H1.out _).mono ?_); rintro e wc ⟨rfl, hbc⟩; have FC := Lib.hid (FC.out.step hbc); clear hbc; (try clear q0 q1); (try clear q2 q3); (try clear q4 q5); (try clear q6 q7); (try clear q8 q9); (try clear q10 q11); obtain ⟨q0, q1⟩ := FC.out.q1; obtain ⟨q2, q3⟩ := FC.out.2.q1; (try (obtain ⟨q4, q5⟩ := FC.out.2.2.q1)); (try (obtain ⟨q6, q7⟩ := FC.out.2.2.2.q1)); (try (obtain ⟨q8, q9⟩ := FC.out.2.2.2.2.q1)); (try (obtain ⟨q10, q11⟩ := FC.out.2.2.2.2.2.q1)))
        | (go_at_call 15; (with_reducible refine (H2.out _).mono ?_); rintro e wc ⟨rfl, hbc⟩; have FC := Lib.hid (FC.out.step hbc); clear hbc; (try clear q0 q1); (try clear q2 q3); (try clear q4 q5); (try clear q6 q7); (try clear q8 q9); (try clear q10 q11); obtain ⟨q0, q1⟩ := FC.out.q1; obtain ⟨q2, q3⟩ := FC.out.2.q1; (try (obtain ⟨q4, q5⟩ := FC.out.2.2.q1)); (try (obtain ⟨q6, q7⟩ := FC.out.2.2.2.q1)); (try (obtain ⟨q8, q9⟩ := FC.out.2.2.2.2.q1)); (try (obtain ⟨q10, q11⟩ := FC.out.2.2.2.2.2.q1)))
        | (go_at_call 15; (with_reducible refine (H3.out _).mono ?_); rintro e wc ⟨rfl, hbc⟩; have FC := Lib.hid (FC.out.step hbc); clear hbc; (try clear q0 q1); (try clear q2 q3); (try clear q4 q5); (try clear q6 q7); (try clear q8 q9); (try clear q10 q11); obtain ⟨q0, q1⟩ := FC.out.q1; obtain ⟨q2, q3⟩ := FC.out.2.q1; (try (obtain ⟨q4, q5⟩ := FC.out.2.2.q1)); (try (obtain ⟨q6, q7⟩ := FC.out.2.2.2.q1)); (try (obtain ⟨q8, q9⟩ := FC.out.2.2.2.2.q1)); (try (obtain ⟨q10, q11⟩ := FC.out.2.2.2.2.2.q1)))
        | (go_at_call 15; (with_reducible refine (H4.out _).mono ?_); rintro e wc ⟨rfl, hbc⟩; have FC := Lib.hid (FC.out.step hbc); clear hbc; (try clear q0 q1); (try clear q2 q3); (try clear q4 q5); (try clear q6 q7); (try clear q8 q9); (try clear q10 q11); obtain ⟨q0, q1⟩ := FC.out.q1; obtain ⟨q2, q3⟩ := FC.out.2.q1; (try (obtain ⟨q4, q5⟩ := FC.out.2.2.q1)); (try (obtain ⟨q6, q7⟩ := FC.out.2.2.2.q1)); (try (obtain ⟨q8, q9⟩ := FC.out.2.2.2.2.q1)); (try (obtain ⟨q10, q11⟩ := FC.out.2.2.2.2.2.q1)))
        | (go_at_call 17; (with_reducible refine (W1.out _).mono ?_); rintro e wc ⟨rfl, hbc⟩; have FC := Lib.hid (FC.out.step hbc); clear hbc; (try clear q0 q1); (try clear q2 q3); (try clear q4 q5); (try clear q6 q7); (try clear q8 q9); (try clear q10 q11); obtain ⟨q0, q1⟩ := FC.out.q1; obtain ⟨q2, q3⟩ := FC.out.2.q1; (try (obtain ⟨q4, q5⟩ := FC.out.2.2.q1)); (try (obtain ⟨q6, q7⟩ := FC.out.2.2.2.q1)); (try (obtain ⟨q8, q9⟩ := FC.out.2.2.2.2.q1)); (try (obtain ⟨q10, q11⟩ := FC.out.2.2.2.2.2.q1))))
      go_ret
      exact ⟨rfl, FC.out.below⟩
    · have g4 : p4 = true := by simpa using f3.symm
      have g3 := f1 rfl
      subst g4 g3
      clear f1 f3
      go_enter Try.func7, Try.ntmps7
      go_wp2_with (first
        | (go_at_call 11; (with_reducible refine (SH.out _).mono ?_); rintro e wc ⟨rfl, hbc⟩; have FC := Lib.hid ((Fr.p2 w a b c d).step hbc); clear hbc; obtain ⟨q0, q1⟩ := FC.out.q1; obtain ⟨q2, q3⟩ := FC.out.2.q1)
        | (go_at_call 19; (with_reducible refine (J1.out _).mono ?_); rintro e wc ⟨rfl, hbc⟩; have FC := Lib.hid ((FC.out.step hbc).put x1 y1); clear hbc; (try clear q0 q1); (try clear q2 q3); obtain ⟨q0, q1⟩ := FC.out.q1; obtain ⟨q2, q3⟩ := FC.out.2.q1)
        | (go_at_call 19; (with_reducible refine (J2.out _).mono ?_); rintro e wc ⟨rfl, hbc⟩; have FC := Lib.hid ((FC.out.step hbc).put x1 y1); clear hbc; (try clear q0 q1); (try clear q2 q3); obtain ⟨q0, q1⟩ := FC.out.q1; obtain ⟨q2, q3⟩ := FC.out.2.q1)
        | (go_at_call 21; (with_reducible refine (K1.out _).mono ?_); rintro e wc ⟨rfl, hbc⟩; have FC := Lib.hid ((FC.out.step hbc).put x2 y2); clear hbc; (try clear q0 q1); (try clear q2 q3); obtain ⟨q0, q1⟩ := FC.out.q1; obtain ⟨q2, q3⟩ := FC.out.2.q1)
        | (go_at_call 21; (with_reducible refine (K2.out _).mono ?_); rintro e wc ⟨rfl, hbc⟩; have FC := Lib.hid ((FC.out.step hbc).put x2 y2); clear hbc; (try clear q0 q1); (try clear q2 q3); (try clear q4 q5); (try clear q6 q7); (try clear q8 q9); (try clear q10 q11); obtain ⟨q0, q1⟩ := FC.out.q1; obtain ⟨q2, q3⟩ := FC.out.2.q1; (try (obtain ⟨q4, q5⟩ := FC.out.2.2.q1)); (try (obtain ⟨q6, q7⟩ := FC.out.2.2.2.q1)); (try (obtain ⟨q8, q9⟩ := FC.out.2.2.2.2.q1)); (try (obtain ⟨q10, q11⟩ := FC.out.2.2.2.2.2.q1)))
        | (go_at_call 13; (with_reducible refine (M1.out _).mono ?_); rintro e wc ⟨rfl, hbc⟩; have FC := Lib.hid (FC.out.step hbc); clear hbc; (try clear q0 q1); (try clear q2 q3); (try clear q4 q5); (try clear q6 q7); (try clear q8 q9); (try clear q10 q11); obtain ⟨q0, q1⟩ := FC.out.q1; obtain ⟨q2, q3⟩ := FC.out.2.q1; (try (obtain ⟨q4, q5⟩ := FC.out.2.2.q1)); (try (obtain ⟨q6, q7⟩ := FC.out.2.2.2.q1)); (try (obtain ⟨q8, q9⟩ := FC.out.2.2.2.2.q1)); (try (obtain ⟨q10, q11⟩ := FC.out.2.2.2.2.2.q1)))
        | (go_at_call 13; (with_reducible refine (M2.out _).mono ?_); rintro e wc ⟨rfl, hbc⟩; have FC := Lib.hid (FC.out.step hbc); clear hbc; (try clear q0 q1); (try clear q2 q3); (try clear q4 q5); (try clear q6 q7); (try clear q8 q9); (try clear q10 q11); obtain ⟨q0, q1⟩ := FC.out.q1; obtain ⟨q2, q3⟩ := FC.out.2.q1; (try (obtain ⟨q4, q5⟩ := FC.out.2.2.q1)); (try (obtain ⟨q6, q7⟩ := FC.out.2.2.2.q1)); (try (obtain ⟨q8, q9⟩ := FC.out.2.2.2.2.q1)); (try (obtain ⟨q10, q11⟩ := FC.out.2.2.2.2.2.q1)))
        | (go_at_call 15; (with_reducible refine (H1.out _).mono ?_); rintro e wc ⟨rfl, hbc⟩; have FC := Lib.hid (FC.out.step hbc); clear hbc; (try clear q0 q1); (try clear q2 q3); (try clear q4 q5); (try clear q6 q7); (try clear q8 q9); (try clear q10 q11); obtain ⟨q0, q1⟩ := FC.out.q1; obtain ⟨q2, q3⟩ := FC.out.2.q1; (try (obtain ⟨q4, q5⟩ := FC.out.2.2.q1)); (try (obtain ⟨q6, q7⟩ := FC.out.2.2.2.q1)); (try (obtain ⟨q8, q9⟩ := FC.out.2.2.2.2.q1)); (try (obtain ⟨q10, q11⟩ := FC.out.2.2.2.2.2.q1)))
        | (go_at_call 15; (with_reducible refine (H2.out _).mono ?_); rintro e wc ⟨rfl, hbc⟩; have FC := Lib.hid (FC.out.step hbc); clear hbc; (try clear q0 q1); (try clear q2 q3); (try clear q4 q5); (try clear q6 q7); (try clear q8 q9); (try clear q10 q11); obtain ⟨q0, q1⟩ := FC.out.q1; obtain ⟨q2, q3⟩ := FC.out.2.q1; (try (obtain ⟨q4, q5⟩ := FC.out.2.2.q1)); (try (obtain ⟨q6, q7⟩ := FC.out.2.2.2.q1)); (try (obtain ⟨q8, q9⟩ := FC.out.2.2.2.2.q1)); (try (obtain ⟨q10, q11⟩ := FC.out.2.2.2.2.2.q1)))
        | (go_at_call 15; (with_reducible refine (H3.out _).mono ?_); rintro e wc ⟨rfl, hbc⟩; have FC := Lib.hid (FC.out.step hbc); clear hbc; (try clear q0 q1); (try clear q2 q3); (try clear q4 q5); (try clear q6 q7); (try clear q8 q9); (try clear q10 q11); obtain ⟨q0, q1⟩ := FC.out.q1; obtain ⟨q2, q3⟩ := FC.out.2.q1; (try (obtain ⟨q4, q5⟩ := FC.out.2.2.q1)); (try (obtain ⟨q6, q7⟩ := FC.out.2.2.2.q1)); (try (obtain ⟨q8, q9⟩ := FC.out.2.2.2.2.q1)); (try (obtain ⟨q10, q11⟩ := FC.out.2.2.2.2.2.q1)))
        | (go_at_call 15; (with_reducible refine (H4.out _).mono ?_); rintro e wc ⟨rfl, hbc⟩; have FC := Lib.hid (FC.out.step hbc); clear hbc; (try clear q0 q1); (try clear q2 q3); (try clear q4 q5); (try clear q6 q7); (try clear q8 q9); (try clear q10 q11); obtain ⟨q0, q1⟩ := FC.out.q1; obtain ⟨q2, q3⟩ := FC.out.2.q1; (try (obtain ⟨q4, q5⟩ := FC.out.2.2.q1)); (try (obtain ⟨q6, q7⟩ := FC.out.2.2.2.q1)); (try (obtain ⟨q8, q9⟩ := FC.out.2.2.2.2.q1)); (try (obtain ⟨q10, q11⟩ := FC.out.2.2.2.2.2.q1)))
        | (go_at_call 17; (with_reducible refine (W1.out _).mono ?_); rintro e wc ⟨rfl, hbc⟩; have FC := Lib.hid (FC.out.step hbc); clear hbc; (try clear q0 q1); (try clear q2 q3); (try clear q4 q5); (try clear q6 q7); (try clear q8 q9); (try clear q10 q11); obtain ⟨q0, q1⟩ := FC.out.q1; obtain ⟨q2, q3⟩ := FC.out.2.q1; (try (obtain ⟨q4, q5⟩ := FC.out.2.2.q1)); (try (obtain ⟨q6, q7⟩ := FC.out.2.2.2.q1)); (try (obtain ⟨q8, q9⟩ := FC.out.2.2.2.2.q1)); (try (obtain ⟨q10, q11⟩ := FC.out.2.2.2.2.2.q1))))
      go_ret
      exact ⟨rfl, FC.out.below⟩
  · cases p1 <;> cases p2
    · clear f1 f3
      cases p3
      · go_enter Try.func7, Try.ntmps7
        go_wp2_with (first
          | (go_at_call 11; (with_reducible refine (SH.out _).mono ?_); rintro e wc ⟨rfl, hbc⟩; have FC := Lib.hid ((Fr.p2 w a b c d).step hbc); clear hbc; obtain ⟨q0, q1⟩ := FC.out.q1; obtain ⟨q2, q3⟩ := FC.out.2.q1)
          | (go_at_call 19; (with_reducible refine (J1.out _).mono ?_); rintro e wc ⟨rfl, hbc⟩; have FC := Lib.hid ((FC.out.step hbc).put x1 y1); clear hbc; (try clear q0 q1); (try clear q2 q3); obtain ⟨q0, q1⟩ := FC.out.q1; obtain ⟨q2, q3⟩ := FC.out.2.q1)
          | (go_at_call 19; (with_reducible refine (J2.out _).mono ?_); rintro e wc ⟨rfl, hbc⟩; have FC := Lib.hid ((FC.out.step hbc).put x1 y1); clear hbc; (try clear q0 q1); (try clear q2 q3); obtain ⟨q0, q1⟩ := FC.out.q1; obtain ⟨q2, q3⟩ := FC.out.2.q1)
          | (go_at_call 21; (with_reducible refine (K1.out _).mono ?_); rintro e wc ⟨rfl, hbc⟩; have FC := Lib.hid ((FC.out.step hbc).put x2 y2); clear hbc; (try clear q0 q1); (try clear q2 q3); obtain ⟨q0, q1⟩ := FC.out.q1; obtain ⟨q2, q3⟩ := FC.out.2.q1)
          | (go_at_call 21; (with_reducible refine (K2.out _).mono ?_); rintro e wc ⟨rfl, hbc⟩; have FC := Lib.hid ((FC.out.step hbc).put x2 y2); clear hbc; (try clear q0 q1); (try clear q2 q3); (try clear q4 q5); (try clear q6 q7); (try clear q8 q9); (try clear q10 q11); obtain ⟨q0, q1⟩ := FC.out.q1; obtain ⟨q2, q3⟩ := FC.out.2.q1; (try (obtain ⟨q4, q5⟩ := FC.out.2.2.q1)); (try (obtain ⟨q6, q7⟩ := FC.out.2.2.2.q1)); (try (obtain ⟨q8, q9⟩ := FC.out.2.2.2.2.q1)); (try (obtain ⟨q10, q11⟩ := FC.out.2.2.2.2.2.q1)))
          | (go_at_call 13; (with_reducible refine (M1.out _).mono ?_); rintro e wc ⟨rfl, hbc⟩; have FC := Lib.hid (FC.out.step hbc); clear hbc; (try clear q0 q1); (try clear q2 q3); (try clear q4 q5); (try clear q6 q7); (try clear q8 q9); (try clear q10 q11); obtain ⟨q0, q1⟩ := FC.out.q1; obtain ⟨q2, q3⟩ := FC.out.2.q1; (try (obtain ⟨q4, q5⟩ := FC.out.2.2.q1)); (try (obtain ⟨q6, q7⟩ := FC.out.2.2.2.q1)); (try (obtain ⟨q8, q9⟩ := FC.out.2.2.2.2.q1)); (try (obtain ⟨q10, q11⟩ := FC.out.2.2.2.2.2.q1)))
          | (go_at_call 13; (with_reducible refine (M2.out _).mono ?_); rintro e wc ⟨rfl, hbc⟩; have FC := Lib.hid (FC.out.step hbc); clear hbc; (try clear q0 q1); (try clear q2 q3); (try clear q4 q5); (try clear q6 q7); (try clear q8 q9); (try clear q10 q11); obtain ⟨q0, q1⟩ := FC.out.q1; obtain ⟨q2, q3⟩ := FC.out.2.q1; (try (obtain ⟨q4, q5⟩ := FC.out.2.2.q1)); (try (obtain ⟨q6, q7⟩ := FC.out.2.2.2.q1)); (try (obtain ⟨q8, q9⟩ := FC.out.2.2.2.2.q1)); (try (obtain ⟨q10, q11⟩ := FC.out.2.2.2.2.2.q1)))
          | (go_at_call 15; (with_reducible refine (H1.out _).mono ?_); rintro e wc ⟨rfl, hbc⟩; have FC := Lib.hid (FC.out.step hbc); clear hbc; (try clear q0 q1); (try clear q2 q3); (try clear q4 q5); (try clear q6 q7); (try clear q8 q9); (try clear q10 q11); obtain ⟨q0, q1⟩ := FC.out.q1; obtain ⟨q2, q3⟩ := FC.out.2.q1; (try (obtain ⟨q4, q5⟩ := FC.out.2.2.q1)); (try (obtain ⟨q6, q7⟩ := FC.out.2.2.2.q1)); (try (obtain ⟨q8, q9⟩ := FC.out.2.2.2.2.q1)); (try (obtain ⟨q10, q11⟩ := FC.out.2.2.2.2.2.q1)))
          | (go_at_call 15; (with_reducible refine (H2.out _).mono ?_); rintro e wc ⟨rfl, hbc⟩; have FC := Lib.hid (FC.out.step hbc); clear hbc; (try clear q0 q1); (try clear q2 q3); (try clear q4 q5); (try clear q6 q7); (try clear q8 q9); (try clear q10 q11); obtain ⟨q0, q1⟩ := FC.out.q1; obtain ⟨q2, q3⟩ := FC.out.2.q1; (try (obtain ⟨q4, q5⟩ := FC.out.2.2.q1)); (try (obtain ⟨q6, q7⟩ := FC.out.2.2.2.q1)); (try (obtain ⟨q8, q9⟩ := FC.out.2.2.2.2.q1)); (try (obtain ⟨q10, q11⟩ := FC.out.2.2.2.2.2.q1)))
          | (go_at_call 15; (with_reducible refine (H3.out _).mono ?_); rintro e wc ⟨rfl, hbc⟩; have FC := Lib.hid (FC.out.step hbc); clear hbc; (try clear q0 q1); (try clear q2 q3); (try clear q4 q5); (try clear q6 q7); (try clear q8 q9); (try clear q10 q11); obtain ⟨q0, q1⟩ := FC.out.q1; obtain ⟨q2, q3⟩ := FC.out.2.q1; (try (obtain ⟨q4, q5⟩ := FC.out.2.2.q1)); (try (obtain ⟨q6, q7⟩ := FC.out.2.2.2.q1)); (try (obtain ⟨q8, q9⟩ := FC.out.2.2.2.2.q1)); (try (obtain ⟨q10, q11⟩ := FC.out.2.2.2.2.2.q1)))
          | (go_at_call 15; (with_reducible refine (H4.out _).mono ?_); rintro e wc ⟨rfl, hbc⟩; have FC := Lib.hid (FC.out.step hbc); clear hbc; (try clear q0 q1); (try clear q2 q3); (try clear q4 q5); (try clear q6 q7); (try clear q8 q9); (try clear q10 q11); obtain ⟨q0, q1⟩ := FC.out.q1; obtain ⟨q2, q3⟩ := FC.out.2.q1; (try (obtain ⟨q4, q5⟩ := FC.out.2.2.q1)); (try (obtain ⟨q6, q7⟩ := FC.out.2.2.2.q1)); (try (obtain ⟨q8, q9⟩ := FC.out.2.2.2.2.q1)); (try (obtain ⟨q10, q11⟩ := FC.out.2.2.2.2.2.q1)))
          | (go_at_call 17; (with_reducible refine (W1.out _).mono ?_); rintro e wc ⟨rfl, hbc⟩; have FC := Lib.hid (FC.out.step hbc); clear hbc; (try clear q0 q1); (try clear q2 q3); (try clear q4 q5); (try clear q6 q7); (try clear q8 q9); (try clear q10 q11); obtain ⟨q0, q1⟩ := FC.out.q1; obtain ⟨q2, q3⟩ := FC.out.2.q1; (try (obtain ⟨q4, q5⟩ := FC.out.2.2.q1)); (try (obtain ⟨q6, q7⟩ := FC.out.2.2.2.q1)); (try (obtain ⟨q8, q9⟩ := FC.out.2.2.2.2.q1)); (try (obtain ⟨q10, q11⟩ := FC.out.2.2.2.2.2.q1))))
        go_ret
        exact ⟨rfl, FC.out.below⟩
      · go_enter Try.func7, Try.ntmps7
        go_wp2_with (first
          | (go_at_call 11; (with_reducible refine (SH.out _).mono ?_); rintro e wc ⟨rfl, hbc⟩; have FC := Lib.hid ((Fr.p2 w a b c d).step hbc); clear hbc; obtain ⟨q0, q1⟩ := FC.out.q1; obtain ⟨q2, q3⟩ := FC.out.2.q1)
          | (go_at_call 19; (with_reducible refine (J1.out _).mono ?_); rintro e wc ⟨rfl, hbc⟩; have FC := Lib.hid ((FC.out.step hbc).put x1 y1); clear hbc; (try clear q0 q1); (try clear q2 q3); obtain ⟨q0, q1⟩ := FC.out.q1; obtain ⟨q2, q3⟩ := FC.out.2.q1)
          | (go_at_call 19; (with_reducible refine (J2.out _).mono ?_); rintro e wc ⟨rfl, hbc⟩; have FC := Lib.hid ((FC.out.step hbc).put x1 y1); clear hbc; (try clear q0 q1); (try clear q2 q3); obtain ⟨q0, q1⟩ := FC.out.q1; obtain ⟨q2, q3⟩ := FC.out.2.q1)
          | (go_at_call 21; (with_reducible refine (K1.out _).mono ?_); rintro e wc ⟨rfl, hbc⟩; have FC := Lib.hid ((FC.out.step hbc).put x2 y2); clear hbc; (try clear q0 q1); (try clear q2 q3); obtain ⟨q0, q1⟩ := FC.out.q1; obtain ⟨q2, q3⟩ := FC.out.2.q1)
          | (go_at_call 21; (with_reducible refine (K2.out _).mono ?_); rintro e wc ⟨rfl, hbc⟩; have FC := Lib.hid ((FC.out.step hbc).put x2 y2); clear hbc; (try clear q0 q1); (try clear q2 q3); (try clear q4 q5); (try clear q6 q7); (try clear q8 q9); (try clear q10 q11); obtain ⟨q0, q1⟩ := FC.out.q1; obtain ⟨q2, q3⟩ := FC.out.2.q1; (try (obtain ⟨q4, q5⟩ := FC.out.2.2.q1)); (try (obtain ⟨q6, q7⟩ := FC.out.2.2.2.q1)); (try (obtain ⟨q8, q9⟩ := FC.out.2.2.2.2.q1)); (try (obtain ⟨q10, q11⟩ := FC.out.2.2.2.2.2.q1)))
          | (go_at_call 13; (with_reducible refine (M1.out _).mono ?_); rintro e wc ⟨rfl, hbc⟩; have FC := Lib.hid (FC.out.step hbc); clear hbc; (try clear q0 q1); (try clear q2 q3); (try clear q4 q5); (try clear q6 q7); (try clear q8 q9); (try clear q10 q11); obtain ⟨q0, q1⟩ := FC.out.q1; obtain ⟨q2, q3⟩ := FC.out.2.q1; (try (obtain ⟨q4, q5⟩ := FC.out.2.2.q1)); (try (obtain ⟨q6, q7⟩ := FC.out.2.2.2.q1)); (try (obtain ⟨q8, q9⟩ := FC.out.2.2.2.2.q1)); (try (obtain ⟨q10, q11⟩ := FC.out.2.2.2.2.2.q1)))
          | (go_at_call 13; (with_reducible refine (M2.out _).mono ?_); rintro e wc ⟨rfl, hbc⟩; have FC := Lib.hid (FC.out.step hbc); clear hbc; (try clear q0 q1); (try clear q2 q3); (try clear q4 q5); (try clear q6 q7); (try clear q8 q9); (try clear q10 q11); obtain ⟨q0, q1⟩ := FC.out.q1; obtain ⟨q2, q3⟩ := FC.out.2.q1; (try (obtain ⟨q4, q5⟩ := FC.out.2.2.q1)); (try (obtain ⟨q6, q7⟩ := FC.out.2.2.2.q1)); (try (obtain ⟨q8, q9⟩ := FC.out.2.2.2.2.q1)); (try (obtain ⟨q10, q11⟩ := FC.out.2.2.2.2.2.q1)))
          | (go_at_call 15; (with_reducible refine (H1.out _).mono ?_); rintro e wc ⟨rfl, hbc⟩; have FC := Lib.hid (FC.out.step hbc); clear hbc; (try clear q0 q1); (try clear q2 q3); (try clear q4 q5); (try clear q6 q7); (try clear q8 q9); (try clear q10 q11); obtain ⟨q0, q1⟩ := FC.out.q1; obtain ⟨q2, q3⟩ := FC.out.2.q1; (try (obtain ⟨q4, q5⟩ := FC.out.2.2.q1)); (try (obtain ⟨q6, q7⟩ := FC.out.2.2.2.q1)); (try (obtain ⟨q8, q9⟩ := FC.out.2.2.2.2.q1)); (try (obtain ⟨q10, q11⟩ := FC.out.2.2.2.2.2.q1)))
          | (go_at_call 15; (with_reducible refine (H2.out _).mono ?_); rintro e wc ⟨rfl, hbc⟩; have FC := Lib.hid (FC.out.step hbc); clear hbc; (try clear q0 q1); (try clear q2 q3); (try clear q4 q5); (try clear q6 q7); (try clear q8 q9); (try clear q10 q11); obtain ⟨q0, q1⟩ := FC.out.q1; obtain ⟨q2, q3⟩ := FC.out.2.q1; (try (obtain ⟨q4, q5⟩ := FC.out.2.2.q1)); (try (obtain ⟨q6, q7⟩ := FC.out.2.2.2.q1)); (try (obtain ⟨q8, q9⟩ := FC.out.2.2.2.2.q1)); (try (obtain ⟨q10, q11⟩ := FC.out.2.2.2.2.2.q1)))
          | (go_at_call 15; (with_reducible refine (H3.out _).mono ?_); rintro e wc ⟨rfl, hbc⟩; have FC := Lib.hid (FC.out.step hbc); clear hbc; (try clear q0 q1); (try clear q2 q3); (try clear q4 q5); (try clear q6 q7); (try clear q8 q9); (try clear q10 q11); obtain ⟨q0, q1⟩ := FC.out.q1; obtain ⟨q2, q3⟩ := FC.out.2.q1; (try (obtain ⟨q4, q5⟩ := FC.out.2.2.q1)); (try (obtain ⟨q6, q7⟩ := FC.out.2.2.2.q1)); (try (obtain ⟨q8, q9⟩ := FC.out.2.2.2.2.q1)); (try (obtain ⟨q10, q11⟩ := FC.out.2.2.2.2.2.q1)))
          | (go_at_call 15; (with_reducible refine (H4.out _).mono ?_); rintro e wc ⟨rfl, hbc⟩; have FC := Lib.hid (FC.out.step hbc); clear hbc; (try clear q0 q1); (try clear q2 q3); (try clear q4 q5); (try clear q6 q7); (try clear q8 q9); (try clear q10 q11); obtain ⟨q0, q1⟩ := FC.out.q1; obtain ⟨q2, q3⟩ := FC.out.2.q1; (try (obtain ⟨q4, q5⟩ := FC.out.2.2.q1)); (try (obtain ⟨q6, q7⟩ := FC.out.2.2.2.q1)); (try (obtain ⟨q8, q9⟩ := FC.out.2.2.2.2.q1)); (try (obtain ⟨q10, q11⟩ := FC.out.2.2.2.2.2.q1)))
          | (go_at_call 17; (with_reducible refine (W1.out _).mono ?_); rintro e wc ⟨rfl, hbc⟩; have FC := Lib.hid (FC.out.step hbc); clear hbc; (try clear q0 q1); (try clear q2 q3); (try clear q4 q5); (try clear q6 q7); (try clear q8 q9); (try clear q10 q11); obtain ⟨q0, q1⟩ := FC.out.q1; obtain ⟨q2, q3⟩ := FC.out.2.q1; (try (obtain ⟨q4, q5⟩ := FC.out.2.2.q1)); (try (obtain ⟨q6, q7⟩ := FC.out.2.2.2.q1)); (try (obtain ⟨q8, q9⟩ := FC.out.2.2.2.2.q1)); (try (obtain ⟨q10, q11⟩ := FC.out.2.2.2.2.2.q1))))
        go_ret
        exact ⟨rfl, FC.out.below⟩
    · have g3 := f1 rfl
      subst g3
      clear f1 f3
      go_enter Try.func7, Try.ntmps7
      go_wp2_with (first
        | (go_at_call 11; (with_reducible refine (SH.out _).mono ?_); rintro e wc ⟨rfl, hbc⟩; have FC := Lib.hid ((Fr.p2 w a b c d).step hbc); clear hbc; obtain ⟨q0, q1⟩ := FC.out.q1; obtain ⟨q2, q3⟩ := FC.out.2.q1)
        | (go_at_call 19; (with_reducible refine (J1.out _).mono ?_); rintro e wc ⟨rfl, hbc⟩; have FC := Lib.hid ((FC.out.step hbc).put x1 y1); clear hbc; (try clear q0 q1); (try clear q2 q3); obtain ⟨q0, q1⟩ := FC.out.q1; obtain ⟨q2, q3⟩ := FC.out.2.q1)
        | (go_at_call 19; (with_reducible refine (J2.out _).mono ?_); rintro e wc ⟨rfl, hbc⟩; have FC := Lib.hid ((FC.out.step hbc).put x1 y1); clear hbc; (try clear q0 q1); (try clear q2 q3); obtain ⟨q0, q1⟩ := FC.out.q1; obtain ⟨q2, q3⟩ := FC.out.2.q1)
        | (go_at_call 21; (with_reducible refine (K1.out _).mono ?_); rintro e wc ⟨rfl, hbc⟩; have FC := Lib.hid ((FC.out.step hbc).put x2 y2); clear hbc; (try clear q0 q1); (try clear q2 q3); obtain ⟨q0, q1⟩ := FC.out.q1; obtain ⟨q2, q3⟩ := FC.out.2.q1)
        | (go_at_call 21; (with_reducible refine (K2.out _).mono ?_); rintro e wc ⟨rfl, hbc⟩; have FC := Lib.hid ((FC.out.step hbc).put x2 y2); clear hbc; (try clear q0 q1); (try clear q2 q3); (try clear q4 q5); (try clear q6 q7); (try clear q8 q9); (try clear q10 q11); obtain ⟨q0, q1⟩ := FC.out.q1; obtain ⟨q2, q3⟩ := FC.out.2.q1; (try (obtain ⟨q4, q5⟩ := FC.out.2.2.q1)); (try (obtain ⟨q6, q7⟩ := FC.out.2.2.2.q1)); (try (obtain ⟨q8, q9⟩ := FC.out.2.2.2.2.q1)); (try (obtain ⟨q10, q11⟩ := FC.out.2.2.2.2.2.q1)))
        | (go_at_call 13; (with_reducible refine (M1.out _).mono ?_); rintro e wc ⟨rfl, hbc⟩; have FC := Lib.hid (FC.out.step hbc); clear hbc; (try clear q0 q1); (try clear q2 q3); (try clear q4 q5); (try clear q6 q7); (try clear q8 q9); (try clear q10 q11); obtain ⟨q0, q1⟩ := FC.out.q1; obtain ⟨q2, q3⟩ := FC.out.2.q1; (try (obtain ⟨q4, q5⟩ := FC.out.2.2.q1)); (try (obtain ⟨q6, q7⟩ := FC.out.2.2.2.q1)); (try (obtain ⟨q8, q9⟩ := FC.out.2.2.2.2.q1)); (try (obtain ⟨q10, q11⟩ := FC.out.2.2.2.2.2.q1)))
        | (go_at_call 13; (with_reducible refine (M2.out _).mono ?_); rintro e wc ⟨rfl, hbc⟩; have FC := Lib.hid (FC.out.step hbc); clear hbc; (try clear q0 q1); (try clear q2 q3); (try clear q4 q5); (try clear q6 q7); (try clear q8 q9); (try clear q10 q11); obtain ⟨q0, q1⟩ := FC.out.q1; obtain ⟨q2, q3⟩ := FC.out.2.q1; (try (obtain ⟨q4, q5⟩ := FC.out.2.2.q1)); (try (obtain ⟨q6, q7⟩ := FC.out.2.2.2.q1)); (try (obtain ⟨q8, q9⟩ := FC.out.2.2.2.2.q1)); (try (obtain ⟨q10, q11⟩ := FC.out.2.2.2.2.2.q1)))
        | (go_at_call 15; (with_reducible refine (H1.out _).mono ?_); rintro e wc ⟨rfl, hbc⟩; have FC := Lib.hid (FC.out.step hbc); clear hbc; (try clear q0 q1); (try clear q2 q3); (try clear q4 q5); (try clear q6 q7); (try clear q8 q9); (try clear q10 q11); obtain ⟨q0, q1⟩ := FC.out.q1; obtain ⟨q2, q3⟩ := FC.out.2.q1; (try (obtain ⟨q4, q5⟩ := FC.out.2.2.q1)); (try (obtain ⟨q6, q7⟩ := FC.out.2.2.2.q1)); (try (obtain ⟨q8, q9⟩ := FC.out.2.2.2.2.q1)); (try (obtain ⟨q10, q11⟩ := FC.out.2.2.2.2.2.q1)))
        | (go_at_call 15; (with_reducible refine (H2.out _).mono ?_); rintro e wc ⟨rfl, hbc⟩; have FC := Lib.hid (FC.out.step hbc); clear hbc; (try clear q0 q1); (try clear q2 q3); (try clear q4 q5); (try clear q6 q7); (try clear q8 q9); (try clear q10 q11); obtain ⟨q0, q1⟩ := FC.out.q1; obtain ⟨q2, q3⟩ := FC.out.2.q1; (try (obtain ⟨q4, q5⟩ := FC.out.2.2.q1)); (try (obtain ⟨q6, q7⟩ := FC.out.2.2.2.q1)); (try (obtain ⟨q8, q9⟩ := FC.out.2.2.2.2.q1)); (try (obtain ⟨q10, q11⟩ := FC.out.2.2.2.2.2.q1)))
        | (go_at_call 15; (with_reducible refine (H3.out _).mono ?_); rintro e wc ⟨rfl, hbc⟩; have FC := Lib.hid (FC.out.step hbc); clear hbc; (try clear q0 q1); (try clear q2 q3); (try clear q4 q5); (try clear q6 q7); (try clear q8 q9); (try clear q10 q11); obtain ⟨q0, q1⟩ := FC.out.q1; obtain ⟨q2, q3⟩ := FC.out.2.q1; (try (obtain ⟨q4, q5⟩ := FC.out.2.2.q1)); (try (obtain ⟨q6, q7⟩ := FC.out.2.2.2.q1)); (try (obtain ⟨q8, q9⟩ := FC.out.2.2.2.2.q1)); (try (obtain ⟨q10, q11⟩ := FC.out.2.2.2.2.2.q1)))
        | (go_at_call 15; (with_reducible refine (H4.out _).mono ?_); rintro e wc ⟨rfl, hbc⟩; have FC := Lib.hid (FC.out.step hbc); clear hbc; (try clear q0 q1); (try clear q2 q3); (try clear q4 q5); (try clear q6 q7); (try clear q8 q9); (try clear q10 q11); obtain ⟨q0, q1⟩ := FC.out.q1; obtain ⟨q2, q3⟩ := FC.out.2.q1; (try (obtain ⟨q4, q5⟩ := FC.out.2.2.q1)); (try (obtain ⟨q6, q7⟩ := FC.out.2.2.2.q1)); (try (obtain ⟨q8, q9⟩ := FC.out.2.2.2.2.q1)); (try (obtain ⟨q10, q11⟩ := FC.out.2.2.2.2.2.q1)))
        | (go_at_call 17; (with_reducible refine (W1.out _).mono ?_); rintro e wc ⟨rfl, hbc⟩; have FC := Lib.hid (FC.out.step hbc); clear hbc; (try clear q0 q1); (try clear q2 q3); (try clear q4 q5); (try clear q6 q7); (try clear q8 q9); (try clear q10 q11); obtain ⟨q0, q1⟩ := FC.out.q1; obtain ⟨q2, q3⟩ := FC.out.2.q1; (try (obtain ⟨q4, q5⟩ := FC.out.2.2.q1)); (try (obtain ⟨q6, q7⟩ := FC.out.2.2.2.q1)); (try (obtain ⟨q8, q9⟩ := FC.out.2.2.2.2.q1)); (try (obtain ⟨q10, q11⟩ := FC.out.2.2.2.2.2.q1))))
      go_ret
      exact ⟨rfl, FC.out.below⟩
    · have g3 := f1 rfl
      subst g3
      clear f1 f3
      go_enter Try.func7, Try.ntmps7
      go_wp2_with (first
        | (go_at_call 11; (with_reducible refine (SH.out _).mono ?_); rintro e wc ⟨rfl, hbc⟩; have FC := Lib.hid ((Fr.p2 w a b c d).step hbc); clear hbc; obtain ⟨q0, q1⟩ := FC.out.q1; obtain ⟨q2, q3⟩ := FC.out.2.q1)
        | (go_at_call 19; (with_reducible refine (J1.out _).mono ?_); rintro e wc ⟨rfl, hbc⟩; have FC := Lib.hid ((FC.out.step hbc).put x1 y1); clear hbc; (try clear q0 q1); (try clear q2 q3); obtain ⟨q0, q1⟩ := FC.out.q1; obtain ⟨q2, q3⟩ := FC.out.2.q1)
        | (go_at_call 19; (with_reducible refine (J2.out _).mono ?_); rintro e wc ⟨rfl, hbc⟩; have FC := Lib.hid ((FC.out.step hbc).put x1 y1); clear hbc; (try clear q0 q1); (try clear q2 q3); obtain ⟨q0, q1⟩ := FC.out.q1; obtain ⟨q2, q3⟩ := FC.out.2.q1)
        | (go_at_call 21; (with_reducible refine (K1.out _).mono ?_); rintro e wc ⟨rfl, hbc⟩; have FC := Lib.hid ((FC.out.step hbc).put x2 y2); clear hbc; (try clear q0 q1); (try clear q2 q3); obtain ⟨q0, q1⟩ := FC.out.q1; obtain ⟨q2, q3⟩ := FC.out.2.q1)
        | (go_at_call 21; (with_reducible refine (K2.out _).mono ?_); rintro e wc ⟨rfl, hbc⟩; have FC := Lib.hid ((FC.out.step hbc).put x2 y2); clear hbc; (try clear q0 q1); (try clear q2 q3); (try clear q4 q5); (try clear q6 q7); (try clear q8 q9); (try clear q10 q11); obtain ⟨q0, q1⟩ := FC.out.q1; obtain ⟨q2, q3⟩ := FC.out.2.q1; (try (obtain ⟨q4, q5⟩ := FC.out.2.2.q1)); (try (obtain ⟨q6, q7⟩ := FC.out.2.2.2.q1)); (try (obtain ⟨q8, q9⟩ := FC.out.2.2.2.2.q1)); (try (obtain ⟨q10, q11⟩ := FC.out.2.2.2.2.2.q1)))
        | (go_at_call 13; (with_reducible refine (M1.out _).mono ?_); rintro e wc ⟨rfl, hbc⟩; have FC := Lib.hid (FC.out.step hbc); clear hbc; (try clear q0 q1); (try clear q2 q3); (try clear q4 q5); (try clear q6 q7); (try clear q8 q9); (try clear q10 q11); obtain ⟨q0, q1⟩ := FC.out.q1; obtain ⟨q2, q3⟩ := FC.out.2.q1; (try (obtain ⟨q4, q5⟩ := FC.out.2.2.q1)); (try (obtain ⟨q6, q7⟩ := FC.out.2.2.2.q1)); (try (obtain ⟨q8, q9⟩ := FC.out.2.2.2.2.q1)); (try (obtain ⟨q10, q11⟩ := FC.out.2.2.2.2.2.q1)))
        | (go_at_call 13; (with_reducible refine (M2.out _).mono ?_); rintro e wc ⟨rfl, hbc⟩; have FC := Lib.hid (FC.out.step hbc); clear hbc; (try clear q0 q1); (try clear q2 q3); (try clear q4 q5); (try clear q6 q7); (try clear q8 q9); (try clear q10 q11); obtain ⟨q0, q1⟩ := FC.out.q1; obtain ⟨q2, q3⟩ := FC.out.2.q1; (try (obtain ⟨q4, q5⟩ := FC.out.2.2.q1)); (try (obtain ⟨q6, q7⟩ := FC.out.2.2.2.q1)); (try (obtain ⟨q8, q9⟩ := FC.out.2.2.2.2.q1)); (try (obtain ⟨q10, q11⟩ := FC.out.2.2.2.2.2.q1)))
        | (go_at_call 15; (with_reducible refine (H1.out _).mono ?_); rintro e wc ⟨rfl, hbc⟩; have FC := Lib.hid (FC.out.step hbc); clear hbc; (try clear q0 q1); (try clear q2 q3); (try clear q4 q5); (try clear q6 q7); (try clear q8 q9); (try clear q10 q11); obtain ⟨q0, q1⟩ := FC.out.q1; obtain ⟨q2, q3⟩ := FC.out.2.q1; (try (obtain ⟨q4, q5⟩ := FC.out.2.2.q1)); (try (obtain ⟨q6, q7⟩ := FC.out.2.2.2.q1)); (try (obtain ⟨q8, q9⟩ := FC.out.2.2.2.2.q1)); (try (obtain ⟨q10, q11⟩ := FC.out.2.2.2.2.2.q1)))
        | (go_at_call 15; (with_reducible refine (H2.out _).mono ?_); rintro e wc ⟨rfl, hbc⟩; have FC := Lib.hid (FC.out.step hbc); clear hbc; (try clear q0 q1); (try clear q2 q3); (try clear q4 q5); (try clear q6 q7); (try clear q8 q9); (try clear q10 q11); obtain ⟨q0, q1⟩ := FC.out.q1; obtain ⟨q2, q3⟩ := FC.out.2.q1; (try (obtain ⟨q4, q5⟩ := FC.out.2.2.q1)); (try (obtain ⟨q6, q7⟩ := FC.out.2.2.2.q1)); (try (obtain ⟨q8, q9⟩ := FC.out.2.2.2.2.q1)); (try (obtain ⟨q10, q11⟩ := FC.out.2.2.2.2.2.q1)))
        | (go_at_call 15; (with_reducible refine (H3.out _).mono ?_); rintro e wc ⟨rfl, hbc⟩; have FC := Lib.hid (FC.out.step hbc); clear hbc; (try clear q0 q1); (try clear q2 q3); (try clear q4 q5); (try clear q6 q7); (try clear q8 q9); (try clear q10 q11); obtain ⟨q0, q1⟩ := FC.out.q1; obtain ⟨q2, q3⟩ := FC.out.2.q1; (try (obtain ⟨q4, q5⟩ := FC.out.2.2.q1)); (try (obtain ⟨q6, q7⟩ := FC.out.2.2.2.q1)); (try (obtain ⟨q8, q9⟩ := FC.out.2.2.2.2.q1)); (try (obtain ⟨q10, q11⟩ := FC.out.2.2.2.2.2.q1)))
        | (go_at_call 15; (with_reducible refine (H4.out _).mono ?_); rintro e wc ⟨rfl, hbc⟩; have FC := Lib.hid (FC.out.step hbc); clear hbc; (try clear q0 q1); (try clear q2 q3); (try clear q4 q5); (try clear q6 q7); (try clear q8 q9); (try clear q10 q11); obtain ⟨q0, q1⟩ := FC.out.q1; obtain ⟨q2, q3⟩ := FC.out.2.q1; (try (obtain ⟨q4, q5⟩ := FC.out.2.2.q1)); (try (obtain ⟨q6, q7⟩ := FC.out.2.2.2.q1)); (try (obtain ⟨q8, q9⟩ := FC.out.2.2.2.2.q1)); (try (obtain ⟨q10, q11⟩ := FC.out.2.2.2.2.2.q1)))
        | (go_at_call 17; (with_reducible refine (W1.out _).mono ?_); rintro e wc ⟨rfl, hbc⟩; have FC := Lib.hid (FC.out.step hbc); clear hbc; (try clear q0 q1); (try clear q2 q3); (try clear q4 q5); (try clear q6 q7); (try clear q8 q9); (try clear q10 q11); obtain ⟨q0, q1⟩ := FC.out.q1; obtain ⟨q2, q3⟩ := FC.out.2.q1; (try (obtain ⟨q4, q5⟩ := FC.out.2.2.q1)); (try (obtain ⟨q6, q7⟩ := FC.out.2.2.2.q1)); (try (obtain ⟨q8, q9⟩ := FC.out.2.2.2.2.q1)); (try (obtain ⟨q10, q11⟩ := FC.out.2.2.2.2.2.q1))))
      go_ret
      exact ⟨rfl, FC.out.below⟩
    · exact absurd f3 (by simp)
theorem meets_row (s t : Sp) (x : Int) (W : World) (h : (Lit.int .u64 x).wf = true) (_hs : s.ok) (_ht : t.ok) :
    Calls Try.prog 7 #[spv s, spv t, .int .u64 x] W fun e w' => e = .returned (.bool true) ∧ Below W.heap.size W w' := by
  obtain ⟨n, rfl, _⟩ := nat_u64 h
  cases m1 : mayV s with
  | false => exact meets_bad1 s.lo s.hi t.lo t.hi n m1
  | true =>
    cases m2 : mayV t with
    | false => exact meets_bad2 s.lo s.hi t.lo t.hi n m1 m2
    | true => exact meets_ok s.lo s.hi t.lo t.hi n m1 m2
end
end Go.Proofs.Ytfeobcmkbkaphaa
