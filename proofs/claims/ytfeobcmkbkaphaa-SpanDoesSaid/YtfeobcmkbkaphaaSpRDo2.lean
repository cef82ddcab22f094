/- The contract of the document's Do, a part of its table. Conditions: the numbers have at most 64 bits; spans that are valid. -/
import Derived.Test.YtfeobcmkbkaphaaSpRSmall
import Derived.Test.YtfeobcmkbkaphaaARDo
namespace Go.Proofs.Ytfeobcmkbkaphaa
open Go.RowKit
set_option maxRecDepth 100000
set_option maxHeartbeats 4000000
section
variable {w : World}
theorem rdo_mul1_i (a b c d : Nat) (hs : (⟨a, b⟩ : Sp).ok) (ht : (⟨c, d⟩ : Sp).ok) (ms : a ≤ b) (mt : c ≤ d) (h1 : a ≠ b) (h0 : d ≠ 0) (h : b * d < 18446744073709551616) :
    Ans 24 #[.int .i64 3, .agg #[.int .u64 (a : Int), .int .u64 (b : Int)], .agg #[.int .u64 (c : Int), .int .u64 (d : Int)]] (.tuple #[spv ⟨a * c, b * d⟩, .int .i64 0]) w := by
  have M1 := Lib.hid (fun W => rmay_any (w := W) ⟨a, b⟩)
  have M2 := Lib.hid (fun W => rmay_any (w := W) ⟨c, d⟩)
  rw [may_iff.2 (by exact ms)] at M1
  rw [may_iff.2 (by exact mt)] at M2
  have MS := Lib.hid (fun W => most_any (w := W))
  have T0 : Hid (∀ W, Ans 27 #[.int .u64 0, .int .u64 18446744073709551615] (.agg #[.int .u64 0, .int .u64 18446744073709551615]) W) := Lib.hid (fun W => to_any (w := W) 0 18446744073709551615)
  have hk := Nat.mod_lt c (show 64 > 0 by decide)
  have hw : IntKind.i64.wrap ((c : Int) % 64) = ((c % 64 : Nat) : Int) := i_wrap (c % 64) (by omega)
  have PW : Hid (∀ W, Calls Try.prog 43 #[.int .i64 ((c : Int) % 64)] W fun e w' => e = .returned (.int .u64 ((2 ^ (c % 64) : Nat) : Int)) ∧ W = w') := Lib.hid (fun w => pow_any (w := w) (c % 64) hk)
  have OR := Lib.hid (fun W => rdo_any (w := W) 7 b d hs.2 ht.2)
  rw [show doV 7 b d = b ||| d from rfl, show doE 7 = 0 from rfl] at OR
  obtain ⟨e, he⟩ : ∃ e, e = 18446744073709551615 / d := ⟨_, rfl⟩
  have hm : IntKind.u64.wrap (Int.tdiv (18446744073709551615 : Int) d) = (e : Int) := u_in (show Int.tdiv (18446744073709551615 : Int) (d : Int) = (e : Int) by rw [he]; rfl) (by have := Nat.div_le_self 18446744073709551615 d; omega)
  have hd : ¬ d = 0 := h0
  have nd : ((d : Int) == 0) = false := by simp; omega
  have T1 := Lib.hid (fun W => to_any (w := W) (a * c) (b * d))
  simp only [spv] at M1 M2 T1
  have hx : IntKind.u64.wrap ((a : Int) * c) = ((a * c : Nat) : Int) := u_in (Int.natCast_mul a c).symm (Nat.lt_of_le_of_lt (Nat.mul_le_mul ms mt) h)
  have hy : IntKind.u64.wrap ((b : Int) * d) = ((b * d : Nat) : Int) := u_in (Int.natCast_mul b d).symm h
  have hle : b ≤ e := by rw [he, Nat.le_div_iff_mul_le (by omega)]; omega
  generalize a * c = x at T1 hx ⊢
  generalize b * d = y at T1 hy h ⊢
  clear h he h0
  generalize 2 ^ (c % 64) = p at PW
  generalize b ||| d = r at OR
  have n1 : ((a : Int) == b) = false := by simp; omega
  clear h1
  clear hs ht ms mt hk
  go_enter Try.func24, Try.ntmps24
  go_wp2_with (first
    | (go_at_call 14; (with_reducible refine (M1.out _).mono ?_); rintro e wc ⟨rfl, hbc⟩; have FC := Lib.hid ((Fr.p3 w _ _ _ _ 0 0).step hbc); clear hbc; obtain ⟨q0, q1⟩ := FC.out.q1; obtain ⟨q2, q3⟩ := FC.out.2.q1; obtain ⟨q4, q5⟩ := FC.out.2.2.q1; (try (obtain ⟨q6, q7⟩ := FC.out.2.2.2.q1)); obtain ⟨z0, z1⟩ := FC.out.2.2.i1)
    | (go_at_call 14; (with_reducible refine (M2.out _).mono ?_); rintro e wc ⟨rfl, hbc⟩; have FC := Lib.hid (FC.out.step hbc); clear hbc; (try clear q0 q1); obtain ⟨q0, q1⟩ := FC.out.q1; (try clear q2 q3); obtain ⟨q2, q3⟩ := FC.out.2.q1; (try clear q4 q5); obtain ⟨q4, q5⟩ := FC.out.2.2.q1; (try clear q6 q7); (try (obtain ⟨q6, q7⟩ := FC.out.2.2.2.q1)); (try clear z0 z1); obtain ⟨z0, z1⟩ := FC.out.2.2.i1)
    | (go_at_call 42; (with_reducible refine (MS.out _).mono ?_); rintro e wq ⟨rfl, rfl⟩)
    | (go_at_call 27; (with_reducible refine (T0.out _).mono ?_); rintro e wc ⟨rfl, hbc⟩; have FC : Hid (Fr w (wc.alloc (.cells #[.int .u64 0, .int .u64 18446744073709551615] 24)) _) := Lib.hid ((FC.out.step hbc).put 0 18446744073709551615); clear hbc; (try clear q0 q1); obtain ⟨q0, q1⟩ := FC.out.q1; (try clear q2 q3); obtain ⟨q2, q3⟩ := FC.out.2.q1; (try clear q4 q5); obtain ⟨q4, q5⟩ := FC.out.2.2.q1; (try clear q6 q7); (try (obtain ⟨q6, q7⟩ := FC.out.2.2.2.q1)); (try clear z0 z1); obtain ⟨z0, z1⟩ := FC.out.2.2.i1)
    | (go_at_call 43; (with_reducible refine (PW.out _).mono ?_); rintro e wq ⟨rfl, rfl⟩)
    | (go_at_call 41; (with_reducible refine (OR.out _).mono ?_); rintro e wq ⟨rfl, rfl⟩))
  have FC := Lib.hid FC.out.drew
  have SC := Lib.hid FC.out.s6
  have SZ := Lib.hid FC.out.s7
  go_region_held3 (fun w' => S6 w' w.heap.size a b c d) (first | (with_reducible exact SC.out) | (with_reducible exact SZ.out _ _) | go_keep) (first
    | (go_at_call 42; (with_reducible refine (MS.out _).mono ?_); rintro e wq ⟨rfl, rfl⟩))
  all_goals
    obtain ⟨q0, q1⟩ := FC.out.q1; obtain ⟨q2, q3⟩ := FC.out.2.q1; obtain ⟨q4, q5⟩ := FC.out.2.2.q1; obtain ⟨q6, q7⟩ := FC.out.2.2.2.q1; obtain ⟨z0, z1⟩ := FC.out.2.2.i1
    go_wp2_with (first
      | (go_at_call 27; (with_reducible refine (T1.out _).mono ?_); rintro e wc ⟨rfl, hbc⟩; have FC := Lib.hid (FC.out.step hbc); clear hbc; (try clear q0 q1); obtain ⟨q0, q1⟩ := FC.out.q1; (try clear q2 q3); obtain ⟨q2, q3⟩ := FC.out.2.q1; (try clear q4 q5); obtain ⟨q4, q5⟩ := FC.out.2.2.q1; (try clear q6 q7); (try (obtain ⟨q6, q7⟩ := FC.out.2.2.2.q1)); (try clear z0 z1); obtain ⟨z0, z1⟩ := FC.out.2.2.i1))
    exact done2 rfl rfl rfl rfl (put2 FC.out.2.2.1 _ _) rfl rfl rfl (below2 FC.out.below (by omega) _ _)
theorem rdo_mul1_ii (a b c d : Nat) (hs : (⟨a, b⟩ : Sp).ok) (ht : (⟨c, d⟩ : Sp).ok) (ms : a ≤ b) (mt : c ≤ d) (h1 : a = b) (h2 : c ≠ d) (h0 : d ≠ 0) (h : b * d < 18446744073709551616) :
    Ans 24 #[.int .i64 3, .agg #[.int .u64 (a : Int), .int .u64 (b : Int)], .agg #[.int .u64 (c : Int), .int .u64 (d : Int)]] (.tuple #[spv ⟨a * c, b * d⟩, .int .i64 0]) w := by
  have M1 := Lib.hid (fun W => rmay_any (w := W) ⟨a, b⟩)
  have M2 := Lib.hid (fun W => rmay_any (w := W) ⟨c, d⟩)
  rw [may_iff.2 (by exact ms)] at M1
  rw [may_iff.2 (by exact mt)] at M2
  have MS := Lib.hid (fun W => most_any (w := W))
  have T0 : Hid (∀ W, Ans 27 #[.int .u64 0, .int .u64 18446744073709551615] (.agg #[.int .u64 0, .int .u64 18446744073709551615]) W) := Lib.hid (fun W => to_any (w := W) 0 18446744073709551615)
  have hk := Nat.mod_lt c (show 64 > 0 by decide)
  have hw : IntKind.i64.wrap ((c : Int) % 64) = ((c % 64 : Nat) : Int) := i_wrap (c % 64) (by omega)
  have PW : Hid (∀ W, Calls Try.prog 43 #[.int .i64 ((c : Int) % 64)] W fun e w' => e = .returned (.int .u64 ((2 ^ (c % 64) : Nat) : Int)) ∧ W = w') := Lib.hid (fun w => pow_any (w := w) (c % 64) hk)
  have OR := Lib.hid (fun W => rdo_any (w := W) 7 b d hs.2 ht.2)
  rw [show doV 7 b d = b ||| d from rfl, show doE 7 = 0 from rfl] at OR
  obtain ⟨e, he⟩ : ∃ e, e = 18446744073709551615 / d := ⟨_, rfl⟩
  have hm : IntKind.u64.wrap (Int.tdiv (18446744073709551615 : Int) d) = (e : Int) := u_in (show Int.tdiv (18446744073709551615 : Int) (d : Int) = (e : Int) by rw [he]; rfl) (by have := Nat.div_le_self 18446744073709551615 d; omega)
  have hd : ¬ d = 0 := h0
  have nd : ((d : Int) == 0) = false := by simp; omega
  have T1 := Lib.hid (fun W => to_any (w := W) (a * c) (b * d))
  simp only [spv] at M1 M2 T1
  have hx : IntKind.u64.wrap ((a : Int) * c) = ((a * c : Nat) : Int) := u_in (Int.natCast_mul a c).symm (Nat.lt_of_le_of_lt (Nat.mul_le_mul ms mt) h)
  have hy : IntKind.u64.wrap ((b : Int) * d) = ((b * d : Nat) : Int) := u_in (Int.natCast_mul b d).symm h
  have hle : b ≤ e := by rw [he, Nat.le_div_iff_mul_le (by omega)]; omega
  generalize a * c = x at T1 hx ⊢
  generalize b * d = y at T1 hy h ⊢
  clear h he h0
  generalize 2 ^ (c % 64) = p at PW
  generalize b ||| d = r at OR
  have n1 : ((c : Int) == d) = false := by simp; omega
  clear h2
  clear hs ht ms mt hk
  subst h1
  go_enter Try.func24, Try.ntmps24
  go_wp2_with (first
    | (go_at_call 14; (with_reducible refine (M1.out _).mono ?_); rintro e wc ⟨rfl, hbc⟩; have FC := Lib.hid ((Fr.p3 w _ _ _ _ 0 0).step hbc); clear hbc; obtain ⟨q0, q1⟩ := FC.out.q1; obtain ⟨q2, q3⟩ := FC.out.2.q1; obtain ⟨q4, q5⟩ := FC.out.2.2.q1; (try (obtain ⟨q6, q7⟩ := FC.out.2.2.2.q1)); obtain ⟨z0, z1⟩ := FC.out.2.2.i1)
    | (go_at_call 14; (with_reducible refine (M2.out _).mono ?_); rintro e wc ⟨rfl, hbc⟩; have FC := Lib.hid (FC.out.step hbc); clear hbc; (try clear q0 q1); obtain ⟨q0, q1⟩ := FC.out.q1; (try clear q2 q3); obtain ⟨q2, q3⟩ := FC.out.2.q1; (try clear q4 q5); obtain ⟨q4, q5⟩ := FC.out.2.2.q1; (try clear q6 q7); (try (obtain ⟨q6, q7⟩ := FC.out.2.2.2.q1)); (try clear z0 z1); obtain ⟨z0, z1⟩ := FC.out.2.2.i1)
    | (go_at_call 42; (with_reducible refine (MS.out _).mono ?_); rintro e wq ⟨rfl, rfl⟩)
    | (go_at_call 27; (with_reducible refine (T0.out _).mono ?_); rintro e wc ⟨rfl, hbc⟩; have FC : Hid (Fr w (wc.alloc (.cells #[.int .u64 0, .int .u64 18446744073709551615] 24)) _) := Lib.hid ((FC.out.step hbc).put 0 18446744073709551615); clear hbc; (try clear q0 q1); obtain ⟨q0, q1⟩ := FC.out.q1; (try clear q2 q3); obtain ⟨q2, q3⟩ := FC.out.2.q1; (try clear q4 q5); obtain ⟨q4, q5⟩ := FC.out.2.2.q1; (try clear q6 q7); (try (obtain ⟨q6, q7⟩ := FC.out.2.2.2.q1)); (try clear z0 z1); obtain ⟨z0, z1⟩ := FC.out.2.2.i1)
    | (go_at_call 43; (with_reducible refine (PW.out _).mono ?_); rintro e wq ⟨rfl, rfl⟩)
    | (go_at_call 41; (with_reducible refine (OR.out _).mono ?_); rintro e wq ⟨rfl, rfl⟩))
  have FC := Lib.hid FC.out.drew
  have SC := Lib.hid FC.out.s6
  have SZ := Lib.hid FC.out.s7
  go_region_held3 (fun w' => S6 w' w.heap.size a a c d) (first | (with_reducible exact SC.out) | (with_reducible exact SZ.out _ _) | go_keep) (first
    | (go_at_call 42; (with_reducible refine (MS.out _).mono ?_); rintro e wq ⟨rfl, rfl⟩))
  all_goals
    obtain ⟨q0, q1⟩ := FC.out.q1; obtain ⟨q2, q3⟩ := FC.out.2.q1; obtain ⟨q4, q5⟩ := FC.out.2.2.q1; obtain ⟨q6, q7⟩ := FC.out.2.2.2.q1; obtain ⟨z0, z1⟩ := FC.out.2.2.i1
    go_wp2_with (first
      | (go_at_call 27; (with_reducible refine (T1.out _).mono ?_); rintro e wc ⟨rfl, hbc⟩; have FC := Lib.hid (FC.out.step hbc); clear hbc; (try clear q0 q1); obtain ⟨q0, q1⟩ := FC.out.q1; (try clear q2 q3); obtain ⟨q2, q3⟩ := FC.out.2.q1; (try clear q4 q5); obtain ⟨q4, q5⟩ := FC.out.2.2.q1; (try clear q6 q7); (try (obtain ⟨q6, q7⟩ := FC.out.2.2.2.q1)); (try clear z0 z1); obtain ⟨z0, z1⟩ := FC.out.2.2.i1))
    exact done2 rfl rfl rfl rfl (put2 FC.out.2.2.1 _ _) rfl rfl rfl (below2 FC.out.below (by omega) _ _)
theorem rdo_mul2_i (a b c d : Nat) (hs : (⟨a, b⟩ : Sp).ok) (ht : (⟨c, d⟩ : Sp).ok) (ms : a ≤ b) (mt : c ≤ d) (h1 : a ≠ b) (h0 : d ≠ 0) (h : ¬ b * d < 18446744073709551616) :
    Ans 24 #[.int .i64 3, .agg #[.int .u64 (a : Int), .int .u64 (b : Int)], .agg #[.int .u64 (c : Int), .int .u64 (d : Int)]] (.tuple #[spv spAll, .int .i64 0]) w := by
  have M1 := Lib.hid (fun W => rmay_any (w := W) ⟨a, b⟩)
  have M2 := Lib.hid (fun W => rmay_any (w := W) ⟨c, d⟩)
  rw [may_iff.2 (by exact ms)] at M1
  rw [may_iff.2 (by exact mt)] at M2
  have MS := Lib.hid (fun W => most_any (w := W))
  have T0 : Hid (∀ W, Ans 27 #[.int .u64 0, .int .u64 18446744073709551615] (.agg #[.int .u64 0, .int .u64 18446744073709551615]) W) := Lib.hid (fun W => to_any (w := W) 0 18446744073709551615)
  have hk := Nat.mod_lt c (show 64 > 0 by decide)
  have hw : IntKind.i64.wrap ((c : Int) % 64) = ((c % 64 : Nat) : Int) := i_wrap (c % 64) (by omega)
  have PW : Hid (∀ W, Calls Try.prog 43 #[.int .i64 ((c : Int) % 64)] W fun e w' => e = .returned (.int .u64 ((2 ^ (c % 64) : Nat) : Int)) ∧ W = w') := Lib.hid (fun w => pow_any (w := w) (c % 64) hk)
  have OR := Lib.hid (fun W => rdo_any (w := W) 7 b d hs.2 ht.2)
  rw [show doV 7 b d = b ||| d from rfl, show doE 7 = 0 from rfl] at OR
  obtain ⟨e, he⟩ : ∃ e, e = 18446744073709551615 / d := ⟨_, rfl⟩
  have hm : IntKind.u64.wrap (Int.tdiv (18446744073709551615 : Int) d) = (e : Int) := u_in (show Int.tdiv (18446744073709551615 : Int) (d : Int) = (e : Int) by rw [he]; rfl) (by have := Nat.div_le_self 18446744073709551615 d; omega)
  have hd : ¬ d = 0 := h0
  have nd : ((d : Int) == 0) = false := by simp; omega
  simp only [spv] at M1 M2
  have hle : ¬ b ≤ e := by rw [he, Nat.le_div_iff_mul_le (by omega)]; omega
  clear h he h0
  generalize 2 ^ (c % 64) = p at PW
  generalize b ||| d = r at OR
  have n1 : ((a : Int) == b) = false := by simp; omega
  clear h1
  clear hs ht ms mt hk
  go_enter Try.func24, Try.ntmps24
  go_wp2_with (first
    | (go_at_call 14; (with_reducible refine (M1.out _).mono ?_); rintro e wc ⟨rfl, hbc⟩; have FC := Lib.hid ((Fr.p3 w _ _ _ _ 0 0).step hbc); clear hbc; obtain ⟨q0, q1⟩ := FC.out.q1; obtain ⟨q2, q3⟩ := FC.out.2.q1; obtain ⟨q4, q5⟩ := FC.out.2.2.q1; (try (obtain ⟨q6, q7⟩ := FC.out.2.2.2.q1)); obtain ⟨z0, z1⟩ := FC.out.2.2.i1)
    | (go_at_call 14; (with_reducible refine (M2.out _).mono ?_); rintro e wc ⟨rfl, hbc⟩; have FC := Lib.hid (FC.out.step hbc); clear hbc; (try clear q0 q1); obtain ⟨q0, q1⟩ := FC.out.q1; (try clear q2 q3); obtain ⟨q2, q3⟩ := FC.out.2.q1; (try clear q4 q5); obtain ⟨q4, q5⟩ := FC.out.2.2.q1; (try clear q6 q7); (try (obtain ⟨q6, q7⟩ := FC.out.2.2.2.q1)); (try clear z0 z1); obtain ⟨z0, z1⟩ := FC.out.2.2.i1)
    | (go_at_call 42; (with_reducible refine (MS.out _).mono ?_); rintro e wq ⟨rfl, rfl⟩)
    | (go_at_call 27; (with_reducible refine (T0.out _).mono ?_); rintro e wc ⟨rfl, hbc⟩; have FC : Hid (Fr w (wc.alloc (.cells #[.int .u64 0, .int .u64 18446744073709551615] 24)) _) := Lib.hid ((FC.out.step hbc).put 0 18446744073709551615); clear hbc; (try clear q0 q1); obtain ⟨q0, q1⟩ := FC.out.q1; (try clear q2 q3); obtain ⟨q2, q3⟩ := FC.out.2.q1; (try clear q4 q5); obtain ⟨q4, q5⟩ := FC.out.2.2.q1; (try clear q6 q7); (try (obtain ⟨q6, q7⟩ := FC.out.2.2.2.q1)); (try clear z0 z1); obtain ⟨z0, z1⟩ := FC.out.2.2.i1)
    | (go_at_call 43; (with_reducible refine (PW.out _).mono ?_); rintro e wq ⟨rfl, rfl⟩)
    | (go_at_call 41; (with_reducible refine (OR.out _).mono ?_); rintro e wq ⟨rfl, rfl⟩))
  have FC := Lib.hid FC.out.drew
  have SC := Lib.hid FC.out.s6
  have SZ := Lib.hid FC.out.s7
  go_region_held3 (fun w' => S6 w' w.heap.size a b c d) (first | (with_reducible exact SC.out) | (with_reducible exact SZ.out _ _) | go_keep) (first
    | (go_at_call 42; (with_reducible refine (MS.out _).mono ?_); rintro e wq ⟨rfl, rfl⟩))
  all_goals
    obtain ⟨q0, q1⟩ := FC.out.q1; obtain ⟨q2, q3⟩ := FC.out.2.q1; obtain ⟨q4, q5⟩ := FC.out.2.2.q1; obtain ⟨q6, q7⟩ := FC.out.2.2.2.q1; obtain ⟨z0, z1⟩ := FC.out.2.2.i1
    go_wp2_with fail
    exact done2 rfl rfl rfl rfl (put2 FC.out.2.2.1 _ _) rfl rfl rfl (below2 FC.out.below (by omega) _ _)
theorem rdo_mul2_ii (a b c d : Nat) (hs : (⟨a, b⟩ : Sp).ok) (ht : (⟨c, d⟩ : Sp).ok) (ms : a ≤ b) (mt : c ≤ d) (h1 : a = b) (h2 : c ≠ d) (h0 : d ≠ 0) (h : ¬ b * d < 18446744073709551616) :
    Ans 24 #[.int .i64 3, .agg #[.int .u64 (a : Int), .int .u64 (b : Int)], .agg #[.int .u64 (c : Int), .int .u64 (d : Int)]] (.tuple #[spv spAll, .int .i64 0]) w := by
  have M1 := Lib.hid (fun W => rmay_any (w := W) ⟨a, b⟩)
  have M2 := Lib.hid (fun W => rmay_any (w := W) ⟨c, d⟩)
  rw [may_iff.2 (by exact ms)] at M1
  rw [may_iff.2 (by exact mt)] at M2
  have MS := Lib.hid (fun W => most_any (w := W))
  have T0 : Hid (∀ W, Ans 27 #[.int .u64 0, .int .u64 18446744073709551615] (.agg #[.int .u64 0, .int .u64 18446744073709551615]) W) := Lib.hid (fun W => to_any (w := W) 0 18446744073709551615)
  have hk := Nat.mod_lt c (show 64 > 0 by decide)
  have hw : IntKind.i64.wrap ((c : Int) % 64) = ((c % 64 : Nat) : Int) := i_wrap (c % 64) (by omega)
  have PW : Hid (∀ W, Calls Try.prog 43 #[.int .i64 ((c : Int) % 64)] W fun e w' => e = .returned (.int .u64 ((2 ^ (c % 64) : Nat) : Int)) ∧ W = w') := Lib.hid (fun w => pow_any (w := w) (c % 64) hk)
  have OR := Lib.hid (fun W => rdo_any (w := W) 7 b d hs.2 ht.2)
  rw [show doV 7 b d = b ||| d from rfl, show doE 7 = 0 from rfl] at OR
  obtain ⟨e, he⟩ : ∃ e, e = 18446744073709551615 / d := ⟨_, rfl⟩
  have hm : IntKind.u64.wrap (Int.tdiv (18446744073709551615 : Int) d) = (e : Int) := u_in (show Int.tdiv (18446744073709551615 : Int) (d : Int) = (e : Int) by rw [he]; rfl) (by have := Nat.div_le_self 18446744073709551615 d; omega)
  have hd : ¬ d = 0 := h0
  have nd : ((d : Int) == 0) = false := by simp; omega
  simp only [spv] at M1 M2
  have hle : ¬ b ≤ e := by rw [he, Nat.le_div_iff_mul_le (by omega)]; omega
  clear h he h0
  generalize 2 ^ (c % 64) = p at PW
  generalize b ||| d = r at OR
  have n1 : ((c : Int) == d) = false := by simp; omega
  clear h2
  clear hs ht ms mt hk
  subst h1
  go_enter Try.func24, Try.ntmps24
  go_wp2_with (first
    | (go_at_call 14; (with_reducible refine (M1.out _).mono ?_); rintro e wc ⟨rfl, hbc⟩; have FC := Lib.hid ((Fr.p3 w _ _ _ _ 0 0).step hbc); clear hbc; obtain ⟨q0, q1⟩ := FC.out.q1; obtain ⟨q2, q3⟩ := FC.out.2.q1; obtain ⟨q4, q5⟩ := FC.out.2.2.q1; (try (obtain ⟨q6, q7⟩ := FC.out.2.2.2.q1)); obtain ⟨z0, z1⟩ := FC.out.2.2.i1)
    | (go_at_call 14; (with_reducible refine (M2.out _).mono ?_); rintro e wc ⟨rfl, hbc⟩; have FC := Lib.hid (FC.out.step hbc); clear hbc; (try clear q0 q1); obtain ⟨q0, q1⟩ := FC.out.q1; (try clear q2 q3); obtain ⟨q2, q3⟩ := FC.out.2.q1; (try clear q4 q5); obtain ⟨q4, q5⟩ := FC.out.2.2.q1; (try clear q6 q7); (try (obtain ⟨q6, q7⟩ := FC.out.2.2.2.q1)); (try clear z0 z1); obtain ⟨z0, z1⟩ := FC.out.2.2.i1)
    | (go_at_call 42; (with_reducible refine (MS.out _).mono ?_); rintro e wq ⟨rfl, rfl⟩)
    | (go_at_call 27; (with_reducible refine (T0.out _).mono ?_); rintro e wc ⟨rfl, hbc⟩; have FC : Hid (Fr w (wc.alloc (.cells #[.int .u64 0, .int .u64 18446744073709551615] 24)) _) := Lib.hid ((FC.out.step hbc).put 0 18446744073709551615); clear hbc; (try clear q0 q1); obtain ⟨q0, q1⟩ := FC.out.q1; (try clear q2 q3); obtain ⟨q2, q3⟩ := FC.out.2.q1; (try clear q4 q5); obtain ⟨q4, q5⟩ := FC.out.2.2.q1; (try clear q6 q7); (try (obtain ⟨q6, q7⟩ := FC.out.2.2.2.q1)); (try clear z0 z1); obtain ⟨z0, z1⟩ := FC.out.2.2.i1)
    | (go_at_call 43; (with_reducible refine (PW.out _).mono ?_); rintro e wq ⟨rfl, rfl⟩)
    | (go_at_call 41; (with_reducible refine (OR.out _).mono ?_); rintro e wq ⟨rfl, rfl⟩))
  have FC := Lib.hid FC.out.drew
  have SC := Lib.hid FC.out.s6
  have SZ := Lib.hid FC.out.s7
  go_region_held3 (fun w' => S6 w' w.heap.size a a c d) (first | (with_reducible exact SC.out) | (with_reducible exact SZ.out _ _) | go_keep) (first
    | (go_at_call 42; (with_reducible refine (MS.out _).mono ?_); rintro e wq ⟨rfl, rfl⟩))
  all_goals
    obtain ⟨q0, q1⟩ := FC.out.q1; obtain ⟨q2, q3⟩ := FC.out.2.q1; obtain ⟨q4, q5⟩ := FC.out.2.2.q1; obtain ⟨q6, q7⟩ := FC.out.2.2.2.q1; obtain ⟨z0, z1⟩ := FC.out.2.2.i1
    go_wp2_with fail
    exact done2 rfl rfl rfl rfl (put2 FC.out.2.2.1 _ _) rfl rfl rfl (below2 FC.out.below (by omega) _ _)
end
end Go.Proofs.Ytfeobcmkbkaphaa
