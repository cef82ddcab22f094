/- The contracts of the document's Within, Filled, Join, Meet. Conditions: the numbers have at most 64 bits. -/
import Derived.Test.YtfeobcmkbkaphaaSpFrame
import Derived.Test.YtfeobcmkbkaphaaSpRFil
namespace Go.Proofs.Ytfeobcmkbkaphaa
open Go.RowKit
set_option maxRecDepth 100000
set_option maxHeartbeats 4000000
section
variable {w : World}
theorem rwithin_any (s t : Sp) : Ans 18 #[spv s, spv t] (.bool (wiV s t)) w := by
  have M1 := Lib.hid (fun W => rmay_any (w := W) s)
  have M2 := Lib.hid (fun W => rmay_any (w := W) t)
  have H1 := Lib.hid (fun W => rhas_any (w := W) t s.lo)
  have H2 := Lib.hid (fun W => rhas_any (w := W) t s.hi)
  unfold wiV
  generalize mayV s = m1 at M1
  generalize mayV t = m2 at M2
  generalize hasV t s.lo = h1 at H1
  generalize hasV t s.hi = h2 at H2
  obtain ⟨a, b⟩ := s
  obtain ⟨c, d⟩ := t
  simp only [spv] at M1 M2 H1 H2 ⊢
  cases m1 <;> cases m2 <;> cases h1 <;> cases h2
  all_goals
    go_enter Try.func18, Try.ntmps18
    go_wp2_with (first
      | (go_at_call 14; (with_reducible refine (M1.out _).mono ?_); rintro e wc ⟨rfl, hbc⟩; have FC := Lib.hid ((Fr.p2 w _ _ _ _).step hbc); clear hbc; obtain ⟨q0, q1⟩ := FC.out.q1; obtain ⟨q2, q3⟩ := FC.out.2.q1)
      | (go_at_call 14; (with_reducible refine (M2.out _).mono ?_); rintro e wc ⟨rfl, hbc⟩; have FC := Lib.hid (FC.out.step hbc); clear hbc; (try clear q0 q1); obtain ⟨q0, q1⟩ := FC.out.q1; (try clear q2 q3); obtain ⟨q2, q3⟩ := FC.out.2.q1)
      | (go_at_call 16; (with_reducible refine (H1.out _).mono ?_); rintro e wc ⟨rfl, hbc⟩; have FC := Lib.hid (FC.out.step hbc); clear hbc; (try clear q0 q1); obtain ⟨q0, q1⟩ := FC.out.q1; (try clear q2 q3); obtain ⟨q2, q3⟩ := FC.out.2.q1)
      | (go_at_call 16; (with_reducible refine (H2.out _).mono ?_); rintro e wc ⟨rfl, hbc⟩; have FC := Lib.hid (FC.out.step hbc); clear hbc; (try clear q0 q1); obtain ⟨q0, q1⟩ := FC.out.q1; (try clear q2 q3); obtain ⟨q2, q3⟩ := FC.out.2.q1))
    go_ret
    exact ⟨rfl, FC.out.below⟩
theorem rjoin_bad1 (a b c d : Nat) (ms : ¬ a ≤ b) : Ans 20 #[.agg #[.int .u64 (a : Int), .int .u64 (b : Int)], .agg #[.int .u64 (c : Int), .int .u64 (d : Int)]] (.tuple #[spv sp0, .int .i64 1]) w := by
  have M1 := Lib.hid (fun W => rmay_any (w := W) ⟨a, b⟩)
  rw [show mayV ⟨a, b⟩ = false by simpa [mayV] using ms] at M1
  simp only [spv] at M1
  clear ms
  go_enter Try.func20, Try.ntmps20
  go_wp2_with (first
    | (go_at_call 14; (with_reducible refine (M1.out _).mono ?_); rintro e wc ⟨rfl, hbc⟩; have FC := Lib.hid ((Fr.p3 w _ _ _ _ 0 0).step hbc); clear hbc; obtain ⟨q0, q1⟩ := FC.out.q1; obtain ⟨q2, q3⟩ := FC.out.2.q1; obtain ⟨q4, q5⟩ := FC.out.2.2.q1; obtain ⟨z0, z1⟩ := FC.out.2.2.i1))
  exact done2 rfl rfl rfl rfl (put2 FC.out.2.2.1 _ _) rfl rfl rfl (below2 FC.out.below (by omega) _ _)
theorem rjoin_bad2 (a b c d : Nat) (ms : a ≤ b) (mt : ¬ c ≤ d) : Ans 20 #[.agg #[.int .u64 (a : Int), .int .u64 (b : Int)], .agg #[.int .u64 (c : Int), .int .u64 (d : Int)]] (.tuple #[spv sp0, .int .i64 1]) w := by
  have M1 := Lib.hid (fun W => rmay_any (w := W) ⟨a, b⟩)
  have M2 := Lib.hid (fun W => rmay_any (w := W) ⟨c, d⟩)
  rw [may_iff.2 (by exact ms)] at M1
  rw [show mayV ⟨c, d⟩ = false by simpa [mayV] using mt] at M2
  simp only [spv] at M1 M2
  clear ms mt
  go_enter Try.func20, Try.ntmps20
  go_wp2_with (first
    | (go_at_call 14; (with_reducible refine (M1.out _).mono ?_); rintro e wc ⟨rfl, hbc⟩; have FC := Lib.hid ((Fr.p3 w _ _ _ _ 0 0).step hbc); clear hbc; obtain ⟨q0, q1⟩ := FC.out.q1; obtain ⟨q2, q3⟩ := FC.out.2.q1; obtain ⟨q4, q5⟩ := FC.out.2.2.q1; obtain ⟨z0, z1⟩ := FC.out.2.2.i1)
    | (go_at_call 14; (with_reducible refine (M2.out _).mono ?_); rintro e wc ⟨rfl, hbc⟩; have FC := Lib.hid (FC.out.step hbc); clear hbc; (try clear q0 q1); obtain ⟨q0, q1⟩ := FC.out.q1; (try clear q2 q3); obtain ⟨q2, q3⟩ := FC.out.2.q1; (try clear q4 q5); obtain ⟨q4, q5⟩ := FC.out.2.2.q1; (try clear z0 z1); obtain ⟨z0, z1⟩ := FC.out.2.2.i1))
  exact done2 rfl rfl rfl rfl (put2 FC.out.2.2.1 _ _) rfl rfl rfl (below2 FC.out.below (by omega) _ _)
theorem rmeet_bad1 (a b c d : Nat) (ms : ¬ a ≤ b) : Ans 22 #[.agg #[.int .u64 (a : Int), .int .u64 (b : Int)], .agg #[.int .u64 (c : Int), .int .u64 (d : Int)]] (.tuple #[spv sp0, .int .i64 1]) w := by
  have M1 := Lib.hid (fun W => rmay_any (w := W) ⟨a, b⟩)
  rw [show mayV ⟨a, b⟩ = false by simpa [mayV] using ms] at M1
  simp only [spv] at M1
  clear ms
  go_enter Try.func22, Try.ntmps22
  go_wp2_with (first
    | (go_at_call 14; (with_reducible refine (M1.out _).mono ?_); rintro e wc ⟨rfl, hbc⟩; have FC := Lib.hid ((Fr.p3 w _ _ _ _ 0 0).step hbc); clear hbc; obtain ⟨q0, q1⟩ := FC.out.q1; obtain ⟨q2, q3⟩ := FC.out.2.q1; obtain ⟨q4, q5⟩ := FC.out.2.2.q1; obtain ⟨z0, z1⟩ := FC.out.2.2.i1))
  exact done2 rfl rfl rfl rfl (put2 FC.out.2.2.1 _ _) rfl rfl rfl (below2 FC.out.below (by omega) _ _)
theorem rmeet_bad2 (a b c d : Nat) (ms : a ≤ b) (mt : ¬ c ≤ d) : Ans 22 #[.agg #[.int .u64 (a : Int), .int .u64 (b : Int)], .agg #[.int .u64 (c : Int), .int .u64 (d : Int)]] (.tuple #[spv sp0, .int .i64 1]) w := by
  have M1 := Lib.hid (fun W => rmay_any (w := W) ⟨a, b⟩)
  have M2 := Lib.hid (fun W => rmay_any (w := W) ⟨c, d⟩)
  rw [may_iff.2 (by exact ms)] at M1
  rw [show mayV ⟨c, d⟩ = false by simpa [mayV] using mt] at M2
  simp only [spv] at M1 M2
  clear ms mt
  go_enter Try.func22, Try.ntmps22
  go_wp2_with (first
    | (go_at_call 14; (with_reducible refine (M1.out _).mono ?_); rintro e wc ⟨rfl, hbc⟩; have FC := Lib.hid ((Fr.p3 w _ _ _ _ 0 0).step hbc); clear hbc; obtain ⟨q0, q1⟩ := FC.out.q1; obtain ⟨q2, q3⟩ := FC.out.2.q1; obtain ⟨q4, q5⟩ := FC.out.2.2.q1; obtain ⟨z0, z1⟩ := FC.out.2.2.i1)
    | (go_at_call 14; (with_reducible refine (M2.out _).mono ?_); rintro e wc ⟨rfl, hbc⟩; have FC := Lib.hid (FC.out.step hbc); clear hbc; (try clear q0 q1); obtain ⟨q0, q1⟩ := FC.out.q1; (try clear q2 q3); obtain ⟨q2, q3⟩ := FC.out.2.q1; (try clear q4 q5); obtain ⟨q4, q5⟩ := FC.out.2.2.q1; (try clear z0 z1); obtain ⟨z0, z1⟩ := FC.out.2.2.i1))
  exact done2 rfl rfl rfl rfl (put2 FC.out.2.2.1 _ _) rfl rfl rfl (below2 FC.out.below (by omega) _ _)
/-- The cells of both arguments, as the frame tells them. -/
theorem Fr.s6 {w W : World} {a b c d : Nat} {l : List (Nat × Nat × Nat)} (h : Fr w W ((w.heap.size, a, b) :: (w.heap.size + 1, c, d) :: l)) : S6 W w.heap.size a b c d :=
  ⟨h.q1.1, h.q1.2, h.2.q1.1, h.2.q1.2⟩
theorem Fr.s7 {w W : World} {a b c d : Nat} {l : List (Nat × Nat × Nat)} (h : Fr w W ((w.heap.size, a, b) :: (w.heap.size + 1, c, d) :: l)) (u0 u1 : Value) : S6 ((W.setCell ⟨w.heap.size + 1 + 1, 0, none⟩ u0).setCell ⟨w.heap.size + 1 + 1, 1, none⟩ u1) w.heap.size a b c d := by
  have k1 := (h.1.only (Only.setCellAt W (w.heap.size + 1 + 1) 0 u0) (by omega)).only (Only.setCellAt _ (w.heap.size + 1 + 1) 1 u1) (by omega)
  have k2 := (h.2.1.only (Only.setCellAt W (w.heap.size + 1 + 1) 0 u0) (by omega)).only (Only.setCellAt _ (w.heap.size + 1 + 1) 1 u1) (by omega)
  exact ⟨(two k1).1, (two k1).2, (two k2).1, (two k2).2⟩
theorem rjoin_ok (a b c d : Nat) (ms : a ≤ b) (mt : c ≤ d) : Ans 20 #[.agg #[.int .u64 (a : Int), .int .u64 (b : Int)], .agg #[.int .u64 (c : Int), .int .u64 (d : Int)]] (.tuple #[spv ⟨min a c, max b d⟩, .int .i64 0]) w := by
  have M1 := Lib.hid (fun W => rmay_any (w := W) ⟨a, b⟩)
  have M2 := Lib.hid (fun W => rmay_any (w := W) ⟨c, d⟩)
  rw [may_iff.2 (by exact ms)] at M1
  rw [may_iff.2 (by exact mt)] at M2
  have L1 := Lib.hid (fun W => less_any (w := W) a c)
  have L2 := Lib.hid (fun W => more_any (w := W) b d)
  have T1 := Lib.hid (fun W => to_any (w := W) (min a c) (max b d))
  generalize min a c = x at L1 T1 ⊢
  generalize max b d = y at L2 T1 ⊢
  simp only [spv] at M1 M2 T1
  clear ms mt
  go_enter Try.func20, Try.ntmps20
  go_wp2_with (first
    | (go_at_call 14; (with_reducible refine (M1.out _).mono ?_); rintro e wc ⟨rfl, hbc⟩; have FC := Lib.hid ((Fr.p3 w _ _ _ _ 0 0).step hbc); clear hbc; obtain ⟨q0, q1⟩ := FC.out.q1; obtain ⟨q2, q3⟩ := FC.out.2.q1; obtain ⟨q4, q5⟩ := FC.out.2.2.q1; obtain ⟨z0, z1⟩ := FC.out.2.2.i1)
    | (go_at_call 14; (with_reducible refine (M2.out _).mono ?_); rintro e wc ⟨rfl, hbc⟩; have FC := Lib.hid (FC.out.step hbc); clear hbc; (try clear q0 q1); obtain ⟨q0, q1⟩ := FC.out.q1; (try clear q2 q3); obtain ⟨q2, q3⟩ := FC.out.2.q1; (try clear q4 q5); obtain ⟨q4, q5⟩ := FC.out.2.2.q1; (try clear z0 z1); obtain ⟨z0, z1⟩ := FC.out.2.2.i1))
  have FC := Lib.hid FC.out.drew
  have SC := Lib.hid FC.out.s6
  have SZ := Lib.hid FC.out.s7
  go_region_held3 (fun w' => S6 w' w.heap.size a b c d) (first | (with_reducible exact SC.out) | (with_reducible exact SZ.out _ _) | go_keep) (first
    | (go_at_call 28; (with_reducible refine (L1.out _).mono ?_); rintro e wq ⟨rfl, rfl⟩)
    | (go_at_call 29; (with_reducible refine (L2.out _).mono ?_); rintro e wq ⟨rfl, rfl⟩)
    | (go_at_call 27; (with_reducible refine (T1.out _).mono ?_); rintro e wc ⟨rfl, hbc⟩; have FC := Lib.hid (FC.out.step hbc); have SC := Lib.hid FC.out.s6; have SZ := Lib.hid FC.out.s7; (try clear z0 z1); obtain ⟨z0, z1⟩ := FC.out.2.2.i1; (try clear q4 q5); obtain ⟨q4, q5⟩ := FC.out.2.2.q1; clear hbc))
  all_goals
    go_wp2_with fail
    exact done2 rfl rfl rfl rfl (put2 FC.out.2.2.1 _ _) rfl rfl rfl (below2 FC.out.below (by omega) _ _)
theorem rmeet_ok (a b c d : Nat) (ms : a ≤ b) (mt : c ≤ d) (h1 : ¬ b < c) (h2 : ¬ d < a) : Ans 22 #[.agg #[.int .u64 (a : Int), .int .u64 (b : Int)], .agg #[.int .u64 (c : Int), .int .u64 (d : Int)]] (.tuple #[spv ⟨max a c, min b d⟩, .int .i64 0]) w := by
  have M1 := Lib.hid (fun W => rmay_any (w := W) ⟨a, b⟩)
  have M2 := Lib.hid (fun W => rmay_any (w := W) ⟨c, d⟩)
  rw [may_iff.2 (by exact ms)] at M1
  rw [may_iff.2 (by exact mt)] at M2
  have L1 := Lib.hid (fun W => more_any (w := W) a c)
  have L2 := Lib.hid (fun W => less_any (w := W) b d)
  have T1 := Lib.hid (fun W => to_any (w := W) (max a c) (min b d))
  generalize max a c = x at L1 T1 ⊢
  generalize min b d = y at L2 T1 ⊢
  simp only [spv] at M1 M2 T1
  clear ms mt
  go_enter Try.func22, Try.ntmps22
  go_wp2_with (first
    | (go_at_call 14; (with_reducible refine (M1.out _).mono ?_); rintro e wc ⟨rfl, hbc⟩; have FC := Lib.hid ((Fr.p3 w _ _ _ _ 0 0).step hbc); clear hbc; obtain ⟨q0, q1⟩ := FC.out.q1; obtain ⟨q2, q3⟩ := FC.out.2.q1; obtain ⟨q4, q5⟩ := FC.out.2.2.q1; obtain ⟨z0, z1⟩ := FC.out.2.2.i1)
    | (go_at_call 14; (with_reducible refine (M2.out _).mono ?_); rintro e wc ⟨rfl, hbc⟩; have FC := Lib.hid (FC.out.step hbc); clear hbc; (try clear q0 q1); obtain ⟨q0, q1⟩ := FC.out.q1; (try clear q2 q3); obtain ⟨q2, q3⟩ := FC.out.2.q1; (try clear q4 q5); obtain ⟨q4, q5⟩ := FC.out.2.2.q1; (try clear z0 z1); obtain ⟨z0, z1⟩ := FC.out.2.2.i1))
  have FC := Lib.hid FC.out.drew
  have SC := Lib.hid FC.out.s6
  have SZ := Lib.hid FC.out.s7
  go_region_held3 (fun w' => S6 w' w.heap.size a b c d) (first | (with_reducible exact SC.out) | (with_reducible exact SZ.out _ _) | go_keep) (first
    | (go_at_call 28; (with_reducible refine (L2.out _).mono ?_); rintro e wq ⟨rfl, rfl⟩)
    | (go_at_call 29; (with_reducible refine (L1.out _).mono ?_); rintro e wq ⟨rfl, rfl⟩)
    | (go_at_call 27; (with_reducible refine (T1.out _).mono ?_); rintro e wc ⟨rfl, hbc⟩; have FC := Lib.hid (FC.out.step hbc); have SC := Lib.hid FC.out.s6; have SZ := Lib.hid FC.out.s7; (try clear z0 z1); obtain ⟨z0, z1⟩ := FC.out.2.2.i1; (try clear q4 q5); obtain ⟨q4, q5⟩ := FC.out.2.2.q1; clear hbc))
  all_goals
    go_wp2_with fail
    exact done2 rfl rfl rfl rfl (put2 FC.out.2.2.1 _ _) rfl rfl rfl (below2 FC.out.below (by omega) _ _)
theorem rmeet_no1 (a b c d : Nat) (ms : a ≤ b) (mt : c ≤ d) (h1 : b < c) : Ans 22 #[.agg #[.int .u64 (a : Int), .int .u64 (b : Int)], .agg #[.int .u64 (c : Int), .int .u64 (d : Int)]] (.tuple #[spv sp0, .int .i64 6]) w := by
  have M1 := Lib.hid (fun W => rmay_any (w := W) ⟨a, b⟩)
  have M2 := Lib.hid (fun W => rmay_any (w := W) ⟨c, d⟩)
  rw [may_iff.2 (by exact ms)] at M1
  rw [may_iff.2 (by exact mt)] at M2
  simp only [spv] at M1 M2
  clear ms mt
  go_enter Try.func22, Try.ntmps22
  go_wp2_with (first
    | (go_at_call 14; (with_reducible refine (M1.out _).mono ?_); rintro e wc ⟨rfl, hbc⟩; have FC := Lib.hid ((Fr.p3 w _ _ _ _ 0 0).step hbc); clear hbc; obtain ⟨q0, q1⟩ := FC.out.q1; obtain ⟨q2, q3⟩ := FC.out.2.q1; obtain ⟨q4, q5⟩ := FC.out.2.2.q1; obtain ⟨z0, z1⟩ := FC.out.2.2.i1)
    | (go_at_call 14; (with_reducible refine (M2.out _).mono ?_); rintro e wc ⟨rfl, hbc⟩; have FC := Lib.hid (FC.out.step hbc); clear hbc; (try clear q0 q1); obtain ⟨q0, q1⟩ := FC.out.q1; (try clear q2 q3); obtain ⟨q2, q3⟩ := FC.out.2.q1; (try clear q4 q5); obtain ⟨q4, q5⟩ := FC.out.2.2.q1; (try clear z0 z1); obtain ⟨z0, z1⟩ := FC.out.2.2.i1))
  exact done2 rfl rfl rfl rfl (put2 FC.out.2.2.1 _ _) rfl rfl rfl (below2 FC.out.below (by omega) _ _)
theorem rmeet_no2 (a b c d : Nat) (ms : a ≤ b) (mt : c ≤ d) (h1 : ¬ b < c) (h2 : d < a) : Ans 22 #[.agg #[.int .u64 (a : Int), .int .u64 (b : Int)], .agg #[.int .u64 (c : Int), .int .u64 (d : Int)]] (.tuple #[spv sp0, .int .i64 6]) w := by
  have M1 := Lib.hid (fun W => rmay_any (w := W) ⟨a, b⟩)
  have M2 := Lib.hid (fun W => rmay_any (w := W) ⟨c, d⟩)
  rw [may_iff.2 (by exact ms)] at M1
  rw [may_iff.2 (by exact mt)] at M2
  simp only [spv] at M1 M2
  clear ms mt
  go_enter Try.func22, Try.ntmps22
  go_wp2_with (first
    | (go_at_call 14; (with_reducible refine (M1.out _).mono ?_); rintro e wc ⟨rfl, hbc⟩; have FC := Lib.hid ((Fr.p3 w _ _ _ _ 0 0).step hbc); clear hbc; obtain ⟨q0, q1⟩ := FC.out.q1; obtain ⟨q2, q3⟩ := FC.out.2.q1; obtain ⟨q4, q5⟩ := FC.out.2.2.q1; obtain ⟨z0, z1⟩ := FC.out.2.2.i1)
    | (go_at_call 14; (with_reducible refine (M2.out _).mono ?_); rintro e wc ⟨rfl, hbc⟩; have FC := Lib.hid (FC.out.step hbc); clear hbc; (try clear q0 q1); obtain ⟨q0, q1⟩ := FC.out.q1; (try clear q2 q3); obtain ⟨q2, q3⟩ := FC.out.2.q1; (try clear q4 q5); obtain ⟨q4, q5⟩ := FC.out.2.2.q1; (try clear z0 z1); obtain ⟨z0, z1⟩ := FC.out.2.2.i1))
  exact done2 rfl rfl rfl rfl (put2 FC.out.2.2.1 _ _) rfl rfl rfl (below2 FC.out.below (by omega) _ _)
theorem rjoin_any (s t : Sp) : Ans 20 #[spv s, spv t] (.tuple #[spv (joV s t), .int .i64 (joE s t)]) w := by
  obtain ⟨a, b⟩ := s
  obtain ⟨c, d⟩ := t
  by_cases ms : a ≤ b
  · by_cases mt : c ≤ d
    · rw [(jo_ok0 (may_iff.2 ms) (may_iff.2 mt)).1, (jo_ok0 (may_iff.2 ms) (may_iff.2 mt)).2]
      exact rjoin_ok a b c d ms mt
    · have m2 : mayV ⟨c, d⟩ = false := by simpa [mayV] using mt
      rw [show joV ⟨a, b⟩ ⟨c, d⟩ = sp0 by unfold joV; rw [m2, Bool.and_false]; rfl, show joE ⟨a, b⟩ ⟨c, d⟩ = 1 by unfold joE; rw [m2, Bool.and_false]; rfl]
      exact rjoin_bad2 a b c d ms mt
  · have m1 : mayV ⟨a, b⟩ = false := by simpa [mayV] using ms
    rw [show joV ⟨a, b⟩ ⟨c, d⟩ = sp0 by unfold joV; rw [m1]; rfl, show joE ⟨a, b⟩ ⟨c, d⟩ = 1 by unfold joE; rw [m1]; rfl]
    exact rjoin_bad1 a b c d ms
theorem rmeet_any (s t : Sp) : Ans 22 #[spv s, spv t] (.tuple #[spv (meV s t), .int .i64 (meE s t)]) w := by
  obtain ⟨a, b⟩ := s
  obtain ⟨c, d⟩ := t
  by_cases ms : a ≤ b
  · by_cases mt : c ≤ d
    · rw [show meV ⟨a, b⟩ ⟨c, d⟩ = if max a c ≤ min b d then ⟨max a c, min b d⟩ else sp0 by unfold meV; rw [may_iff.2 (show (⟨a, b⟩ : Sp).lo ≤ _ from ms), may_iff.2 (show (⟨c, d⟩ : Sp).lo ≤ _ from mt)]; rfl,
        show meE ⟨a, b⟩ ⟨c, d⟩ = if max a c ≤ min b d then 0 else 6 by unfold meE; rw [may_iff.2 (show (⟨a, b⟩ : Sp).lo ≤ _ from ms), may_iff.2 (show (⟨c, d⟩ : Sp).lo ≤ _ from mt)]; rfl]
      by_cases h1 : b < c
      · rw [if_neg (by omega), if_neg (by omega)]
        exact rmeet_no1 a b c d ms mt h1
      · by_cases h2 : d < a
        · rw [if_neg (by omega), if_neg (by omega)]
          exact rmeet_no2 a b c d ms mt h1 h2
        · rw [if_pos (by omega), if_pos (by omega)]
          exact rmeet_ok a b c d ms mt h1 h2
    · have m2 : mayV ⟨c, d⟩ = false := by simpa [mayV] using mt
      rw [show meV ⟨a, b⟩ ⟨c, d⟩ = sp0 by unfold meV; rw [m2, Bool.and_false]; rfl, show meE ⟨a, b⟩ ⟨c, d⟩ = 1 by unfold meE; rw [m2, Bool.and_false]; rfl]
      exact rmeet_bad2 a b c d ms mt
  · have m1 : mayV ⟨a, b⟩ = false := by simpa [mayV] using ms
    rw [show meV ⟨a, b⟩ ⟨c, d⟩ = sp0 by unfold meV; rw [m1]; rfl, show meE ⟨a, b⟩ ⟨c, d⟩ = 1 by unfold meE; rw [m1]; rfl]
    exact rmeet_bad1 a b c d ms
end
end Go.Proofs.Ytfeobcmkbkaphaa
