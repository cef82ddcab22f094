/- The contract of the document's Meet. Conditions: none but the numbers' own form. -/
import Derived.Test.YticgehmpfgdbhaaDoorSpFr
namespace Go.Proofs.YticgehmpfgdbhaaDoor
open Go.RowKit
set_option maxRecDepth 100000
set_option maxHeartbeats 4000000
section
variable {w : World}
theorem rmeet_bad1 (a b c d : Nat) (ms : ¬ a ≤ b) : Ans 23 #[.agg #[.int .u64 (a : Int), .int .u64 (b : Int)], .agg #[.int .u64 (c : Int), .int .u64 (d : Int)]] (.tuple #[spv sp0, .int .i64 1]) w := by
  have M1 := Lib.hid (fun W => rmay_any (w := W) ⟨a, b⟩)
  rw [show mayV ⟨a, b⟩ = false by simpa [mayV] using ms] at M1
  simp only [spv] at M1
  clear ms
  go_enter Tryd.func23, Tryd.ntmps23
  go_wp2_with (first
    | (go_at_call 20; (with_reducible refine (M1.out _).mono ?_); rintro e wc ⟨rfl, hbc⟩; have FC := Lib.hid ((Fr.p3 w _ _ _ _ 0 0).step hbc); clear hbc; obtain ⟨q0, q1⟩ := FC.out.q1; obtain ⟨q2, q3⟩ := FC.out.2.q1; obtain ⟨q4, q5⟩ := FC.out.2.2.q1; obtain ⟨z0, z1⟩ := FC.out.2.2.i1))
  exact done2 rfl rfl rfl rfl (put2 FC.out.2.2.1 _ _) rfl rfl rfl (below2 FC.out.below (by omega) _ _)
theorem rmeet_bad2 (a b c d : Nat) (ms : a ≤ b) (mt : ¬ c ≤ d) : Ans 23 #[.agg #[.int .u64 (a : Int), .int .u64 (b : Int)], .agg #[.int .u64 (c : Int), .int .u64 (d : Int)]] (.tuple #[spv sp0, .int .i64 1]) w := by
  have M1 := Lib.hid (fun W => rmay_any (w := W) ⟨a, b⟩)
  have M2 := Lib.hid (fun W => rmay_any (w := W) ⟨c, d⟩)
  rw [may_iff.2 (by exact ms)] at M1
  rw [show mayV ⟨c, d⟩ = false by simpa [mayV] using mt] at M2
  simp only [spv] at M1 M2
  clear ms mt
  go_enter Tryd.func23, Tryd.ntmps23
  go_wp2_with (first
    | (go_at_call 20; (with_reducible refine (M1.out _).mono ?_); rintro e wc ⟨rfl, hbc⟩; have FC := Lib.hid ((Fr.p3 w _ _ _ _ 0 0).step hbc); clear hbc; obtain ⟨q0, q1⟩ := FC.out.q1; obtain ⟨q2, q3⟩ := FC.out.2.q1; obtain ⟨q4, q5⟩ := FC.out.2.2.q1; obtain ⟨z0, z1⟩ := FC.out.2.2.i1)
    | (go_at_call 20; (with_reducible refine (M2.out _).mono ?_); rintro e wc ⟨rfl, hbc⟩; have FC := Lib.hid (FC.out.step hbc); clear hbc; (try clear q0 q1); obtain ⟨q0, q1⟩ := FC.out.q1; (try clear q2 q3); obtain ⟨q2, q3⟩ := FC.out.2.q1; (try clear q4 q5); obtain ⟨q4, q5⟩ := FC.out.2.2.q1; (try clear z0 z1); obtain ⟨z0, z1⟩ := FC.out.2.2.i1))
  exact done2 rfl rfl rfl rfl (put2 FC.out.2.2.1 _ _) rfl rfl rfl (below2 FC.out.below (by omega) _ _)
theorem rmeet_ok (a b c d : Nat) (ms : a ≤ b) (mt : c ≤ d) (h1 : ¬ b < c) (h2 : ¬ d < a) : Ans 23 #[.agg #[.int .u64 (a : Int), .int .u64 (b : Int)], .agg #[.int .u64 (c : Int), .int .u64 (d : Int)]] (.tuple #[spv ⟨max a c, min b d⟩, .int .i64 0]) w := by
  have M1 := Lib.hid (fun W => rmay_any (w := W) ⟨a, b⟩)
  have M2 := Lib.hid (fun W => rmay_any (w := W) ⟨c, d⟩)
  rw [may_iff.2 (by exact ms)] at M1
  rw [may_iff.2 (by exact mt)] at M2
  have L1 := Lib.hid (fun W => more_any (w := W) a c)
  have L2 := Lib.hid (fun W => less_any (w := W) b d)
  have T1 := Lib.hid (fun W => to_any (w := W) (max a c) (min b d))
  generalize max a c = x at L1 T1 ⊢
  generalize min b d = y at L2 T1 ⊢
  simp only [spv] at M1 M2 T1
  clear ms mt
  go_enter Tryd.func23, Tryd.ntmps23
  go_wp2_with (first
    | (go_at_call 20; (with_reducible refine (M1.out _).mono ?_); rintro e wc ⟨rfl, hbc⟩; have FC := Lib.hid ((Fr.p3 w _ _ _ _ 0 0).step hbc); clear hbc; obtain ⟨q0, q1⟩ := FC.out.q1; obtain ⟨q2, q3⟩ := FC.out.2.q1; obtain ⟨q4, q5⟩ := FC.out.2.2.q1; obtain ⟨z0, z1⟩ := FC.out.2.2.i1)
    | (go_at_call 20; (with_reducible refine (M2.out _).mono ?_); rintro e wc ⟨rfl, hbc⟩; have FC := Lib.hid (FC.out.step hbc); clear hbc; (try clear q0 q1); obtain ⟨q0, q1⟩ := FC.out.q1; (try clear q2 q3); obtain ⟨q2, q3⟩ := FC.out.2.q1; (try clear q4 q5); obtain ⟨q4, q5⟩ := FC.out.2.2.q1; (try clear z0 z1); obtain ⟨z0, z1⟩ := FC.out.2.2.i1))
  have FC := Lib.hid FC.out.drew
  have SC := Lib.hid FC.out.s6
  have SZ := Lib.hid FC.out.s7
  go_region_held3 (fun w' => S6 w' w.heap.size a b c d) (first | (with_reducible exact SC.out) | (with_reducible exact SZ.out _ _) | go_keep) (first
    | (go_at_call 33; (with_reducible refine (L2.out _).mono ?_); rintro e wq ⟨rfl, rfl⟩)
    | (go_at_call 32; (with_reducible refine (L1.out _).mono ?_); rintro e wq ⟨rfl, rfl⟩)
    | (go_at_call 31; (with_reducible refine (T1.out _).mono ?_); rintro e wc ⟨rfl, hbc⟩; have FC := Lib.hid (FC.out.step hbc); have SC := Lib.hid FC.out.s6; have SZ := Lib.hid FC.out.s7; (try clear z0 z1); obtain ⟨z0, z1⟩ := FC.out.2.2.i1; (try clear q4 q5); obtain ⟨q4, q5⟩ := FC.out.2.2.q1; clear hbc))
  all_goals
    go_wp2_with fail
    exact done2 rfl rfl rfl rfl (put2 FC.out.2.2.1 _ _) rfl rfl rfl (below2 FC.out.below (by omega) _ _)
theorem rmeet_no1 (a b c d : Nat) (ms : a ≤ b) (mt : c ≤ d) (h1 : b < c) : Ans 23 #[.agg #[.int .u64 (a : Int), .int .u64 (b : Int)], .agg #[.int .u64 (c : Int), .int .u64 (d : Int)]] (.tuple #[spv sp0, .int .i64 6]) w := by
  have M1 := Lib.hid (fun W => rmay_any (w := W) ⟨a, b⟩)
  have M2 := Lib.hid (fun W => rmay_any (w := W) ⟨c, d⟩)
  rw [may_iff.2 (by exact ms)] at M1
  rw [may_iff.2 (by exact mt)] at M2
  simp only [spv] at M1 M2
  clear ms mt
  go_enter Tryd.func23, Tryd.ntmps23
  go_wp2_with (first
    | (go_at_call 20; (with_reducible refine (M1.out _).mono ?_); rintro e wc ⟨rfl, hbc⟩; have FC := Lib.hid ((Fr.p3 w _ _ _ _ 0 0).step hbc); clear hbc; obtain ⟨q0, q1⟩ := FC.out.q1; obtain ⟨q2, q3⟩ := FC.out.2.q1; obtain ⟨q4, q5⟩ := FC.out.2.2.q1; obtain ⟨z0, z1⟩ := FC.out.2.2.i1)
    | (go_at_call 20; (with_reducible refine (M2.out _).mono ?_); rintro e wc ⟨rfl, hbc⟩; have FC := Lib.hid (FC.out.step hbc); clear hbc; (try clear q0 q1); obtain ⟨q0, q1⟩ := FC.out.q1; (try clear q2 q3); obtain ⟨q2, q3⟩ := FC.out.2.q1; (try clear q4 q5); obtain ⟨q4, q5⟩ := FC.out.2.2.q1; (try clear z0 z1); obtain ⟨z0, z1⟩ := FC.out.2.2.i1))
  exact done2 rfl rfl rfl rfl (put2 FC.out.2.2.1 _ _) rfl rfl rfl (below2 FC.out.below (by omega) _ _)
theorem rmeet_no2 (a b c d : Nat) (ms : a ≤ b) (mt : c ≤ d) (h1 : ¬ b < c) (h2 : d < a) : Ans 23 #[.agg #[.int .u64 (a : Int), .int .u64 (b : Int)], .agg #[.int .u64 (c : Int), .int .u64 (d : Int)]] (.tuple #[spv sp0, .int .i64 6]) w := by
  have M1 := Lib.hid (fun W => rmay_any (w := W) ⟨a, b⟩)
  have M2 := Lib.hid (fun W => rmay_any (w := W) ⟨c, d⟩)
  rw [may_iff.2 (by exact ms)] at M1
  rw [may_iff.2 (by exact mt)] at M2
  simp only [spv] at M1 M2
  clear ms mt
  go_enter Tryd.func23, Tryd.ntmps23
  go_wp2_with (first
    | (go_at_call 20; (with_reducible refine (M1.out _).mono ?_); rintro e wc ⟨rfl, hbc⟩; have FC := Lib.hid ((Fr.p3 w _ _ _ _ 0 0).step hbc); clear hbc; obtain ⟨q0, q1⟩ := FC.out.q1; obtain ⟨q2, q3⟩ := FC.out.2.q1; obtain ⟨q4, q5⟩ := FC.out.2.2.q1; obtain ⟨z0, z1⟩ := FC.out.2.2.i1)
    | (go_at_call 20; (with_reducible refine (M2.out _).mono ?_); rintro e wc ⟨rfl, hbc⟩; have FC := Lib.hid (FC.out.step hbc); clear hbc; (try clear q0 q1); obtain ⟨q0, q1⟩ := FC.out.q1; (try clear q2 q3); obtain ⟨q2, q3⟩ := FC.out.2.q1; (try clear q4 q5); obtain ⟨q4, q5⟩ := FC.out.2.2.q1; (try clear z0 z1); obtain ⟨z0, z1⟩ := FC.out.2.2.i1))
  exact done2 rfl rfl rfl rfl (put2 FC.out.2.2.1 _ _) rfl rfl rfl (below2 FC.out.below (by omega) _ _)
theorem rmeet_any (s t : Sp) : Ans 23 #[spv s, spv t] (.tuple #[spv (meV s t), .int .i64 (meE s t)]) w := by
  obtain ⟨a, b⟩ := s
  obtain ⟨c, d⟩ := t
  by_cases ms : a ≤ b
  · by_cases mt : c ≤ d
    · rw [show meV ⟨a, b⟩ ⟨c, d⟩ = if max a c ≤ min b d then ⟨max a c, min b d⟩ else sp0 by unfold meV; rw [may_iff.2 (show (⟨a, b⟩ : Sp).lo ≤ _ from ms), may_iff.2 (show (⟨c, d⟩ : Sp).lo ≤ _ from mt)]; rfl,
        show meE ⟨a, b⟩ ⟨c, d⟩ = if max a c ≤ min b d then 0 else 6 by unfold meE; rw [may_iff.2 (show (⟨a, b⟩ : Sp).lo ≤ _ from ms), may_iff.2 (show (⟨c, d⟩ : Sp).lo ≤ _ from mt)]; rfl]
      by_cases h1 : b < c
      · rw [if_neg (by omega), if_neg (by omega)]
        exact rmeet_no1 a b c d ms mt h1
      · by_cases h2 : d < a
        · rw [if_neg (by omega), if_neg (by omega)]
          exact rmeet_no2 a b c d ms mt h1 h2
        · rw [if_pos (by omega), if_pos (by omega)]
          exact rmeet_ok a b c d ms mt h1 h2
    · have m2 : mayV ⟨c, d⟩ = false := by simpa [mayV] using mt
      rw [show meV ⟨a, b⟩ ⟨c, d⟩ = sp0 by unfold meV; rw [m2, Bool.and_false]; rfl, show meE ⟨a, b⟩ ⟨c, d⟩ = 1 by unfold meE; rw [m2, Bool.and_false]; rfl]
      exact rmeet_bad2 a b c d ms mt
  · have m1 : mayV ⟨a, b⟩ = false := by simpa [mayV] using ms
    rw [show meV ⟨a, b⟩ ⟨c, d⟩ = sp0 by unfold meV; rw [m1]; rfl, show meE ⟨a, b⟩ ⟨c, d⟩ = 1 by unfold meE; rw [m1]; rfl]
    exact rmeet_bad1 a b c d ms
end
end Go.Proofs.YticgehmpfgdbhaaDoor
