/- The contract of the document's Do, a part of its table. Conditions: the numbers have at most 64 bits; spans that are valid. -/
import Derived.Test.YtfeobcmkbkaphaaSpRSmall
import Derived.Test.YtfeobcmkbkaphaaARDo
namespace Go.Proofs.Ytfeobcmkbkaphaa
open Go.RowKit
set_option maxRecDepth 100000
set_option maxHeartbeats 4000000
section
variable {w : World}
theorem rdo_shl1 (a b c : Nat) (hs : (⟨a, b⟩ : Sp).ok) (ht : (⟨c, c⟩ : Sp).ok) (ms : a ≤ b) (mt : c ≤ c) (h1 : a ≠ b) (h : b ≤ 18446744073709551615 / 2 ^ (c % 64)) :
    Ans 24 #[.int .i64 9, .agg #[.int .u64 (a : Int), .int .u64 (b : Int)], .agg #[.int .u64 (c : Int), .int .u64 (c : Int)]] (.tuple #[spv ⟨a * 2 ^ (c % 64), b * 2 ^ (c % 64)⟩, .int .i64 0]) w := by
  have M1 := Lib.hid (fun W => rmay_any (w := W) ⟨a, b⟩)
  have M2 := Lib.hid (fun W => rmay_any (w := W) ⟨c, c⟩)
  rw [may_iff.2 (by exact ms)] at M1
  rw [may_iff.2 (by exact mt)] at M2
  have MS := Lib.hid (fun W => most_any (w := W))
  have T0 : Hid (∀ W, Ans 27 #[.int .u64 0, .int .u64 18446744073709551615] (.agg #[.int .u64 0, .int .u64 18446744073709551615]) W) := Lib.hid (fun W => to_any (w := W) 0 18446744073709551615)
  have hk := Nat.mod_lt c (show 64 > 0 by decide)
  have hw : IntKind.i64.wrap ((c : Int) % 64) = ((c % 64 : Nat) : Int) := i_wrap (c % 64) (by omega)
  have PW : Hid (∀ W, Calls Try.prog 43 #[.int .i64 ((c : Int) % 64)] W fun e w' => e = .returned (.int .u64 ((2 ^ (c % 64) : Nat) : Int)) ∧ W = w') := Lib.hid (fun w => pow_any (w := w) (c % 64) hk)
  have OR := Lib.hid (fun W => rdo_any (w := W) 7 b c hs.2 ht.2)
  rw [show doV 7 b c = b ||| c from rfl, show doE 7 = 0 from rfl] at OR
  have h2p := Nat.two_pow_pos (c % 64)
  obtain ⟨e, he⟩ : ∃ e, e = 18446744073709551615 / 2 ^ (c % 64) := ⟨_, rfl⟩
  have hm : IntKind.u64.wrap (Int.tdiv (18446744073709551615 : Int) ((2 ^ (c % 64) : Nat) : Int)) = (e : Int) := u_in (show Int.tdiv (18446744073709551615 : Int) ((2 ^ (c % 64) : Nat) : Int) = (e : Int) by rw [he]; rfl) (by have := Nat.div_le_self 18446744073709551615 (2 ^ (c % 64)); omega)
  have T1 := Lib.hid (fun W => to_any (w := W) (a * 2 ^ (c % 64)) (b * 2 ^ (c % 64)))
  simp only [spv] at M1 M2 T1
  have HP : 2 ^ (c % 64) < 18446744073709551616 := pow_lt64 hk
  have hx : IntKind.u64.wrap ((a : Int) * ((2 ^ (c % 64) : Nat) : Int)) = ((a * 2 ^ (c % 64) : Nat) : Int) := u_in (Int.natCast_mul _ _).symm (shl_fits (k := c % 64) ms h)
  have hy : IntKind.u64.wrap ((b : Int) * ((2 ^ (c % 64) : Nat) : Int)) = ((b * 2 ^ (c % 64) : Nat) : Int) := u_in (Int.natCast_mul _ _).symm (shl_fits (k := c % 64) (Nat.le_refl b) h)
  have hle : b ≤ e := by rw [he]; exact h
  clear h he HP
  generalize a * 2 ^ (c % 64) = x at T1 hx ⊢
  generalize b * 2 ^ (c % 64) = y at T1 hy ⊢
  generalize 2 ^ (c % 64) = p at PW hx hy hm h2p
  have hp : ¬ p = 0 := by omega
  clear h2p
  generalize b ||| c = r at OR
  have n1 : ((a : Int) == b) = false := by simp; omega
  clear hs ht ms mt hk h1
  go_enter Try.func24, Try.ntmps24
  go_wp2_with (first
    | (go_at_call 14; (with_reducible refine (M1.out _).mono ?_); rintro e wc ⟨rfl, hbc⟩; have FC := Lib.hid ((Fr.p3 w _ _ _ _ 0 0).step hbc); clear hbc; obtain ⟨q0, q1⟩ := FC.out.q1; obtain ⟨q2, q3⟩ := FC.out.2.q1; obtain ⟨q4, q5⟩ := FC.out.2.2.q1; (try (obtain ⟨q6, q7⟩ := FC.out.2.2.2.q1)); obtain ⟨z0, z1⟩ := FC.out.2.2.i1)
    | (go_at_call 14; (with_reducible refine (M2.out _).mono ?_); rintro e wc ⟨rfl, hbc⟩; have FC := Lib.hid (FC.out.step hbc); clear hbc; (try clear q0 q1); obtain ⟨q0, q1⟩ := FC.out.q1; (try clear q2 q3); obtain ⟨q2, q3⟩ := FC.out.2.q1; (try clear q4 q5); obtain ⟨q4, q5⟩ := FC.out.2.2.q1; (try clear q6 q7); (try (obtain ⟨q6, q7⟩ := FC.out.2.2.2.q1)); (try clear z0 z1); obtain ⟨z0, z1⟩ := FC.out.2.2.i1)
    | (go_at_call 42; (with_reducible refine (MS.out _).mono ?_); rintro e wq ⟨rfl, rfl⟩)
    | (go_at_call 27; (with_reducible refine (T0.out _).mono ?_); rintro e wc ⟨rfl, hbc⟩; have FC : Hid (Fr w (wc.alloc (.cells #[.int .u64 0, .int .u64 18446744073709551615] 24)) _) := Lib.hid ((FC.out.step hbc).put 0 18446744073709551615); clear hbc; (try clear q0 q1); obtain ⟨q0, q1⟩ := FC.out.q1; (try clear q2 q3); obtain ⟨q2, q3⟩ := FC.out.2.q1; (try clear q4 q5); obtain ⟨q4, q5⟩ := FC.out.2.2.q1; (try clear q6 q7); (try (obtain ⟨q6, q7⟩ := FC.out.2.2.2.q1)); (try clear z0 z1); obtain ⟨z0, z1⟩ := FC.out.2.2.i1)
    | (go_at_call 43; (with_reducible refine (PW.out _).mono ?_); rintro e wq ⟨rfl, rfl⟩)
    | (go_at_call 41; (with_reducible refine (OR.out _).mono ?_); rintro e wq ⟨rfl, rfl⟩))
  have FC := Lib.hid FC.out.drew
  have SC := Lib.hid FC.out.s6
  have SZ := Lib.hid FC.out.s7
  go_region_held3 (fun w' => S6 w' w.heap.size a b c c) (first | (with_reducible exact SC.out) | (with_reducible exact SZ.out _ _) | go_keep) (first
    | (go_at_call 42; (with_reducible refine (MS.out _).mono ?_); rintro e wq ⟨rfl, rfl⟩))
  all_goals
    obtain ⟨q0, q1⟩ := FC.out.q1; obtain ⟨q2, q3⟩ := FC.out.2.q1; obtain ⟨q4, q5⟩ := FC.out.2.2.q1; obtain ⟨q6, q7⟩ := FC.out.2.2.2.q1; obtain ⟨z0, z1⟩ := FC.out.2.2.i1
    go_wp2_with (first
      | (go_at_call 27; (with_reducible refine (T1.out _).mono ?_); rintro e wc ⟨rfl, hbc⟩; have FC := Lib.hid (FC.out.step hbc); clear hbc; (try clear q0 q1); obtain ⟨q0, q1⟩ := FC.out.q1; (try clear q2 q3); obtain ⟨q2, q3⟩ := FC.out.2.q1; (try clear q4 q5); obtain ⟨q4, q5⟩ := FC.out.2.2.q1; (try clear q6 q7); (try (obtain ⟨q6, q7⟩ := FC.out.2.2.2.q1)); (try clear z0 z1); obtain ⟨z0, z1⟩ := FC.out.2.2.i1))
    exact done2 rfl rfl rfl rfl (put2 FC.out.2.2.1 _ _) rfl rfl rfl (below2 FC.out.below (by omega) _ _)
theorem rdo_shl2 (a b c : Nat) (hs : (⟨a, b⟩ : Sp).ok) (ht : (⟨c, c⟩ : Sp).ok) (ms : a ≤ b) (mt : c ≤ c) (h1 : a ≠ b) (h : ¬ b ≤ 18446744073709551615 / 2 ^ (c % 64)) :
    Ans 24 #[.int .i64 9, .agg #[.int .u64 (a : Int), .int .u64 (b : Int)], .agg #[.int .u64 (c : Int), .int .u64 (c : Int)]] (.tuple #[spv spAll, .int .i64 0]) w := by
  have M1 := Lib.hid (fun W => rmay_any (w := W) ⟨a, b⟩)
  have M2 := Lib.hid (fun W => rmay_any (w := W) ⟨c, c⟩)
  rw [may_iff.2 (by exact ms)] at M1
  rw [may_iff.2 (by exact mt)] at M2
  have MS := Lib.hid (fun W => most_any (w := W))
  have T0 : Hid (∀ W, Ans 27 #[.int .u64 0, .int .u64 18446744073709551615] (.agg #[.int .u64 0, .int .u64 18446744073709551615]) W) := Lib.hid (fun W => to_any (w := W) 0 18446744073709551615)
  have hk := Nat.mod_lt c (show 64 > 0 by decide)
  have hw : IntKind.i64.wrap ((c : Int) % 64) = ((c % 64 : Nat) : Int) := i_wrap (c % 64) (by omega)
  have PW : Hid (∀ W, Calls Try.prog 43 #[.int .i64 ((c : Int) % 64)] W fun e w' => e = .returned (.int .u64 ((2 ^ (c % 64) : Nat) : Int)) ∧ W = w') := Lib.hid (fun w => pow_any (w := w) (c % 64) hk)
  have OR := Lib.hid (fun W => rdo_any (w := W) 7 b c hs.2 ht.2)
  rw [show doV 7 b c = b ||| c from rfl, show doE 7 = 0 from rfl] at OR
  have h2p := Nat.two_pow_pos (c % 64)
  obtain ⟨e, he⟩ : ∃ e, e = 18446744073709551615 / 2 ^ (c % 64) := ⟨_, rfl⟩
  have hm : IntKind.u64.wrap (Int.tdiv (18446744073709551615 : Int) ((2 ^ (c % 64) : Nat) : Int)) = (e : Int) := u_in (show Int.tdiv (18446744073709551615 : Int) ((2 ^ (c % 64) : Nat) : Int) = (e : Int) by rw [he]; rfl) (by have := Nat.div_le_self 18446744073709551615 (2 ^ (c % 64)); omega)
  simp only [spv] at M1 M2
  have hle : ¬ b ≤ e := by rw [he]; exact h
  clear h he
  generalize 2 ^ (c % 64) = p at PW hm h2p
  have hp : ¬ p = 0 := by omega
  clear h2p
  generalize b ||| c = r at OR
  have n1 : ((a : Int) == b) = false := by simp; omega
  clear hs ht ms mt hk h1
  go_enter Try.func24, Try.ntmps24
  go_wp2_with (first
    | (go_at_call 14; (with_reducible refine (M1.out _).mono ?_); rintro e wc ⟨rfl, hbc⟩; have FC := Lib.hid ((Fr.p3 w _ _ _ _ 0 0).step hbc); clear hbc; obtain ⟨q0, q1⟩ := FC.out.q1; obtain ⟨q2, q3⟩ := FC.out.2.q1; obtain ⟨q4, q5⟩ := FC.out.2.2.q1; (try (obtain ⟨q6, q7⟩ := FC.out.2.2.2.q1)); obtain ⟨z0, z1⟩ := FC.out.2.2.i1)
    | (go_at_call 14; (with_reducible refine (M2.out _).mono ?_); rintro e wc ⟨rfl, hbc⟩; have FC := Lib.hid (FC.out.step hbc); clear hbc; (try clear q0 q1); obtain ⟨q0, q1⟩ := FC.out.q1; (try clear q2 q3); obtain ⟨q2, q3⟩ := FC.out.2.q1; (try clear q4 q5); obtain ⟨q4, q5⟩ := FC.out.2.2.q1; (try clear q6 q7); (try (obtain ⟨q6, q7⟩ := FC.out.2.2.2.q1)); (try clear z0 z1); obtain ⟨z0, z1⟩ := FC.out.2.2.i1)
    | (go_at_call 42; (with_reducible refine (MS.out _).mono ?_); rintro e wq ⟨rfl, rfl⟩)
    | (go_at_call 27; (with_reducible refine (T0.out _).mono ?_); rintro e wc ⟨rfl, hbc⟩; have FC : Hid (Fr w (wc.alloc (.cells #[.int .u64 0, .int .u64 18446744073709551615] 24)) _) := Lib.hid ((FC.out.step hbc).put 0 18446744073709551615); clear hbc; (try clear q0 q1); obtain ⟨q0, q1⟩ := FC.out.q1; (try clear q2 q3); obtain ⟨q2, q3⟩ := FC.out.2.q1; (try clear q4 q5); obtain ⟨q4, q5⟩ := FC.out.2.2.q1; (try clear q6 q7); (try (obtain ⟨q6, q7⟩ := FC.out.2.2.2.q1)); (try clear z0 z1); obtain ⟨z0, z1⟩ := FC.out.2.2.i1)
    | (go_at_call 43; (with_reducible refine (PW.out _).mono ?_); rintro e wq ⟨rfl, rfl⟩)
    | (go_at_call 41; (with_reducible refine (OR.out _).mono ?_); rintro e wq ⟨rfl, rfl⟩))
  have FC := Lib.hid FC.out.drew
  have SC := Lib.hid FC.out.s6
  have SZ := Lib.hid FC.out.s7
  go_region_held3 (fun w' => S6 w' w.heap.size a b c c) (first | (with_reducible exact SC.out) | (with_reducible exact SZ.out _ _) | go_keep) (first
    | (go_at_call 42; (with_reducible refine (MS.out _).mono ?_); rintro e wq ⟨rfl, rfl⟩))
  all_goals
    obtain ⟨q0, q1⟩ := FC.out.q1; obtain ⟨q2, q3⟩ := FC.out.2.q1; obtain ⟨q4, q5⟩ := FC.out.2.2.q1; obtain ⟨q6, q7⟩ := FC.out.2.2.2.q1; obtain ⟨z0, z1⟩ := FC.out.2.2.i1
    go_wp2_with fail
    exact done2 rfl rfl rfl rfl (put2 FC.out.2.2.1 _ _) rfl rfl rfl (below2 FC.out.below (by omega) _ _)
theorem rdo_shr1 (a b c : Nat) (hs : (⟨a, b⟩ : Sp).ok) (ht : (⟨c, c⟩ : Sp).ok) (ms : a ≤ b) (mt : c ≤ c) (h1 : a ≠ b) :
    Ans 24 #[.int .i64 10, .agg #[.int .u64 (a : Int), .int .u64 (b : Int)], .agg #[.int .u64 (c : Int), .int .u64 (c : Int)]] (.tuple #[spv ⟨a / 2 ^ (c % 64), b / 2 ^ (c % 64)⟩, .int .i64 0]) w := by
  have M1 := Lib.hid (fun W => rmay_any (w := W) ⟨a, b⟩)
  have M2 := Lib.hid (fun W => rmay_any (w := W) ⟨c, c⟩)
  rw [may_iff.2 (by exact ms)] at M1
  rw [may_iff.2 (by exact mt)] at M2
  have MS := Lib.hid (fun W => most_any (w := W))
  have T0 : Hid (∀ W, Ans 27 #[.int .u64 0, .int .u64 18446744073709551615] (.agg #[.int .u64 0, .int .u64 18446744073709551615]) W) := Lib.hid (fun W => to_any (w := W) 0 18446744073709551615)
  have hk := Nat.mod_lt c (show 64 > 0 by decide)
  have hw : IntKind.i64.wrap ((c : Int) % 64) = ((c % 64 : Nat) : Int) := i_wrap (c % 64) (by omega)
  have PW : Hid (∀ W, Calls Try.prog 43 #[.int .i64 ((c : Int) % 64)] W fun e w' => e = .returned (.int .u64 ((2 ^ (c % 64) : Nat) : Int)) ∧ W = w') := Lib.hid (fun w => pow_any (w := w) (c % 64) hk)
  have OR := Lib.hid (fun W => rdo_any (w := W) 7 b c hs.2 ht.2)
  rw [show doV 7 b c = b ||| c from rfl, show doE 7 = 0 from rfl] at OR
  have h2p := Nat.two_pow_pos (c % 64)
  have hx : IntKind.u64.wrap ((a : Int) / ((2 ^ (c % 64) : Nat) : Int)) = ((a / 2 ^ (c % 64) : Nat) : Int) := v_quo hs.1
  have hy : IntKind.u64.wrap ((b : Int) / ((2 ^ (c % 64) : Nat) : Int)) = ((b / 2 ^ (c % 64) : Nat) : Int) := v_quo hs.2
  have T1 := Lib.hid (fun W => to_any (w := W) (a / 2 ^ (c % 64)) (b / 2 ^ (c % 64)))
  simp only [spv] at M1 M2 T1
  generalize a / 2 ^ (c % 64) = x at T1 hx ⊢
  generalize b / 2 ^ (c % 64) = y at T1 hy ⊢
  generalize 2 ^ (c % 64) = p at PW hx hy h2p
  have hp : ¬ p = 0 := by omega
  clear h2p
  generalize b ||| c = r at OR
  have n1 : ((a : Int) == b) = false := by simp; omega
  clear hs ht ms mt hk h1
  go_enter Try.func24, Try.ntmps24
  go_wp2_with (first
    | (go_at_call 14; (with_reducible refine (M1.out _).mono ?_); rintro e wc ⟨rfl, hbc⟩; have FC := Lib.hid ((Fr.p3 w _ _ _ _ 0 0).step hbc); clear hbc; obtain ⟨q0, q1⟩ := FC.out.q1; obtain ⟨q2, q3⟩ := FC.out.2.q1; obtain ⟨q4, q5⟩ := FC.out.2.2.q1; (try (obtain ⟨q6, q7⟩ := FC.out.2.2.2.q1)); obtain ⟨z0, z1⟩ := FC.out.2.2.i1)
    | (go_at_call 14; (with_reducible refine (M2.out _).mono ?_); rintro e wc ⟨rfl, hbc⟩; have FC := Lib.hid (FC.out.step hbc); clear hbc; (try clear q0 q1); obtain ⟨q0, q1⟩ := FC.out.q1; (try clear q2 q3); obtain ⟨q2, q3⟩ := FC.out.2.q1; (try clear q4 q5); obtain ⟨q4, q5⟩ := FC.out.2.2.q1; (try clear q6 q7); (try (obtain ⟨q6, q7⟩ := FC.out.2.2.2.q1)); (try clear z0 z1); obtain ⟨z0, z1⟩ := FC.out.2.2.i1)
    | (go_at_call 42; (with_reducible refine (MS.out _).mono ?_); rintro e wq ⟨rfl, rfl⟩)
    | (go_at_call 27; (with_reducible refine (T0.out _).mono ?_); rintro e wc ⟨rfl, hbc⟩; have FC : Hid (Fr w (wc.alloc (.cells #[.int .u64 0, .int .u64 18446744073709551615] 24)) _) := Lib.hid ((FC.out.step hbc).put 0 18446744073709551615); clear hbc; (try clear q0 q1); obtain ⟨q0, q1⟩ := FC.out.q1; (try clear q2 q3); obtain ⟨q2, q3⟩ := FC.out.2.q1; (try clear q4 q5); obtain ⟨q4, q5⟩ := FC.out.2.2.q1; (try clear q6 q7); (try (obtain ⟨q6, q7⟩ := FC.out.2.2.2.q1)); (try clear z0 z1); obtain ⟨z0, z1⟩ := FC.out.2.2.i1)
    | (go_at_call 43; (with_reducible refine (PW.out _).mono ?_); rintro e wq ⟨rfl, rfl⟩)
    | (go_at_call 41; (with_reducible refine (OR.out _).mono ?_); rintro e wq ⟨rfl, rfl⟩))
  go_quiet (fail)
  have FC := Lib.hid (FC.out.drewN nq)
  obtain ⟨q0, q1⟩ := FC.out.q1; obtain ⟨q2, q3⟩ := FC.out.2.q1; obtain ⟨q4, q5⟩ := FC.out.2.2.q1; obtain ⟨q6, q7⟩ := FC.out.2.2.2.q1; obtain ⟨z0, z1⟩ := FC.out.2.2.i1
  go_wp2_with fail
  have FC := Lib.hid FC.out.drew
  have SC := Lib.hid FC.out.s6
  have SZ := Lib.hid FC.out.s7
  go_region_held3 (fun w' => S6 w' w.heap.size a b c c) (first | (with_reducible exact SC.out) | (with_reducible exact SZ.out _ _) | go_keep) (first
    | (go_at_call 27; (with_reducible refine (T1.out _).mono ?_); rintro e wc ⟨rfl, hbc⟩; have FC := Lib.hid (FC.out.step hbc); have SC := Lib.hid FC.out.s6; have SZ := Lib.hid FC.out.s7; (try clear z0 z1); obtain ⟨z0, z1⟩ := FC.out.2.2.i1; (try clear q4 q5); obtain ⟨q4, q5⟩ := FC.out.2.2.q1; clear hbc))
  all_goals
    go_wp2_with fail
    exact done2 rfl rfl rfl rfl (put2 FC.out.2.2.1 _ _) rfl rfl rfl (below2 FC.out.below (by omega) _ _)
theorem rdo_sar1 (a b c : Nat) (hs : (⟨a, b⟩ : Sp).ok) (ht : (⟨c, c⟩ : Sp).ok) (ms : a ≤ b) (mt : c ≤ c) (h1 : a ≠ b) (h : ¬ 9223372036854775808 ≤ b) :
    Ans 24 #[.int .i64 11, .agg #[.int .u64 (a : Int), .int .u64 (b : Int)], .agg #[.int .u64 (c : Int), .int .u64 (c : Int)]] (.tuple #[spv ⟨a / 2 ^ (c % 64), b / 2 ^ (c % 64)⟩, .int .i64 0]) w := by
  have M1 := Lib.hid (fun W => rmay_any (w := W) ⟨a, b⟩)
  have M2 := Lib.hid (fun W => rmay_any (w := W) ⟨c, c⟩)
  rw [may_iff.2 (by exact ms)] at M1
  rw [may_iff.2 (by exact mt)] at M2
  have MS := Lib.hid (fun W => most_any (w := W))
  have T0 : Hid (∀ W, Ans 27 #[.int .u64 0, .int .u64 18446744073709551615] (.agg #[.int .u64 0, .int .u64 18446744073709551615]) W) := Lib.hid (fun W => to_any (w := W) 0 18446744073709551615)
  have hk := Nat.mod_lt c (show 64 > 0 by decide)
  have hw : IntKind.i64.wrap ((c : Int) % 64) = ((c % 64 : Nat) : Int) := i_wrap (c % 64) (by omega)
  have PW : Hid (∀ W, Calls Try.prog 43 #[.int .i64 ((c : Int) % 64)] W fun e w' => e = .returned (.int .u64 ((2 ^ (c % 64) : Nat) : Int)) ∧ W = w') := Lib.hid (fun w => pow_any (w := w) (c % 64) hk)
  have OR := Lib.hid (fun W => rdo_any (w := W) 7 b c hs.2 ht.2)
  rw [show doV 7 b c = b ||| c from rfl, show doE 7 = 0 from rfl] at OR
  have P3 : Hid (∀ W, Calls Try.prog 43 #[.int .i64 63] W fun e w' => e = .returned (.int .u64 9223372036854775808) ∧ W = w') := Lib.hid (fun w => pow_any (w := w) 63 (by decide))
  have g : decide ((9223372036854775808 : Int) ≤ b) = false := by rw [decide_eq_false_iff_not]; omega
  clear h
  have h2p := Nat.two_pow_pos (c % 64)
  have hx : IntKind.u64.wrap ((a : Int) / ((2 ^ (c % 64) : Nat) : Int)) = ((a / 2 ^ (c % 64) : Nat) : Int) := v_quo hs.1
  have hy : IntKind.u64.wrap ((b : Int) / ((2 ^ (c % 64) : Nat) : Int)) = ((b / 2 ^ (c % 64) : Nat) : Int) := v_quo hs.2
  have T1 := Lib.hid (fun W => to_any (w := W) (a / 2 ^ (c % 64)) (b / 2 ^ (c % 64)))
  simp only [spv] at M1 M2 T1
  generalize a / 2 ^ (c % 64) = x at T1 hx ⊢
  generalize b / 2 ^ (c % 64) = y at T1 hy ⊢
  generalize 2 ^ (c % 64) = p at PW hx hy h2p
  have hp : ¬ p = 0 := by omega
  clear h2p
  generalize b ||| c = r at OR
  have n1 : ((a : Int) == b) = false := by simp; omega
  clear hs ht ms mt hk h1
  go_enter Try.func24, Try.ntmps24
  go_wp2_with (first
    | (go_at_call 14; (with_reducible refine (M1.out _).mono ?_); rintro e wc ⟨rfl, hbc⟩; have FC := Lib.hid ((Fr.p3 w _ _ _ _ 0 0).step hbc); clear hbc; obtain ⟨q0, q1⟩ := FC.out.q1; obtain ⟨q2, q3⟩ := FC.out.2.q1; obtain ⟨q4, q5⟩ := FC.out.2.2.q1; (try (obtain ⟨q6, q7⟩ := FC.out.2.2.2.q1)); obtain ⟨z0, z1⟩ := FC.out.2.2.i1)
    | (go_at_call 14; (with_reducible refine (M2.out _).mono ?_); rintro e wc ⟨rfl, hbc⟩; have FC := Lib.hid (FC.out.step hbc); clear hbc; (try clear q0 q1); obtain ⟨q0, q1⟩ := FC.out.q1; (try clear q2 q3); obtain ⟨q2, q3⟩ := FC.out.2.q1; (try clear q4 q5); obtain ⟨q4, q5⟩ := FC.out.2.2.q1; (try clear q6 q7); (try (obtain ⟨q6, q7⟩ := FC.out.2.2.2.q1)); (try clear z0 z1); obtain ⟨z0, z1⟩ := FC.out.2.2.i1)
    | (go_at_call 42; (with_reducible refine (MS.out _).mono ?_); rintro e wq ⟨rfl, rfl⟩)
    | (go_at_call 27; (with_reducible refine (T0.out _).mono ?_); rintro e wc ⟨rfl, hbc⟩; have FC : Hid (Fr w (wc.alloc (.cells #[.int .u64 0, .int .u64 18446744073709551615] 24)) _) := Lib.hid ((FC.out.step hbc).put 0 18446744073709551615); clear hbc; (try clear q0 q1); obtain ⟨q0, q1⟩ := FC.out.q1; (try clear q2 q3); obtain ⟨q2, q3⟩ := FC.out.2.q1; (try clear q4 q5); obtain ⟨q4, q5⟩ := FC.out.2.2.q1; (try clear q6 q7); (try (obtain ⟨q6, q7⟩ := FC.out.2.2.2.q1)); (try clear z0 z1); obtain ⟨z0, z1⟩ := FC.out.2.2.i1)
    | (go_at_call 43; (with_reducible refine (PW.out _).mono ?_); rintro e wq ⟨rfl, rfl⟩)
    | (go_at_call 41; (with_reducible refine (OR.out _).mono ?_); rintro e wq ⟨rfl, rfl⟩))
  have FC := Lib.hid FC.out.drew
  have SC := Lib.hid FC.out.s6
  have SZ := Lib.hid FC.out.s7
  go_region_held3 (fun w' => S6 w' w.heap.size a b c c) (first | (with_reducible exact SC.out) | (with_reducible exact SZ.out _ _) | go_keep) (first
    | (go_at_call 43; (with_reducible refine (P3.out _).mono ?_); rintro e wq ⟨rfl, rfl⟩))
  obtain ⟨q0, q1⟩ := FC.out.q1; obtain ⟨q2, q3⟩ := FC.out.2.q1; obtain ⟨q4, q5⟩ := FC.out.2.2.q1; obtain ⟨q6, q7⟩ := FC.out.2.2.2.q1; obtain ⟨z0, z1⟩ := FC.out.2.2.i1
  go_wp2_with fail
  have FC := Lib.hid FC.out.drew
  have SC := Lib.hid FC.out.s6
  have SZ := Lib.hid FC.out.s7
  go_region_held3 (fun w' => S6 w' w.heap.size a b c c) (first | (with_reducible exact SC.out) | (with_reducible exact SZ.out _ _) | go_keep) (first
    | (go_at_call 27; (with_reducible refine (T1.out _).mono ?_); rintro e wc ⟨rfl, hbc⟩; have FC := Lib.hid (FC.out.step hbc); have SC := Lib.hid FC.out.s6; have SZ := Lib.hid FC.out.s7; (try clear z0 z1); obtain ⟨z0, z1⟩ := FC.out.2.2.i1; (try clear q4 q5); obtain ⟨q4, q5⟩ := FC.out.2.2.q1; clear hbc))
  all_goals
    go_wp2_with fail
    exact done2 rfl rfl rfl rfl (put2 FC.out.2.2.1 _ _) rfl rfl rfl (below2 FC.out.below (by omega) _ _)
theorem rdo_sar2 (a b c : Nat) (hs : (⟨a, b⟩ : Sp).ok) (ht : (⟨c, c⟩ : Sp).ok) (ms : a ≤ b) (mt : c ≤ c) (h1 : a ≠ b) (h : 9223372036854775808 ≤ b) :
    Ans 24 #[.int .i64 11, .agg #[.int .u64 (a : Int), .int .u64 (b : Int)], .agg #[.int .u64 (c : Int), .int .u64 (c : Int)]] (.tuple #[spv spAll, .int .i64 0]) w := by
  have M1 := Lib.hid (fun W => rmay_any (w := W) ⟨a, b⟩)
  have M2 := Lib.hid (fun W => rmay_any (w := W) ⟨c, c⟩)
  rw [may_iff.2 (by exact ms)] at M1
  rw [may_iff.2 (by exact mt)] at M2
  have MS := Lib.hid (fun W => most_any (w := W))
  have T0 : Hid (∀ W, Ans 27 #[.int .u64 0, .int .u64 18446744073709551615] (.agg #[.int .u64 0, .int .u64 18446744073709551615]) W) := Lib.hid (fun W => to_any (w := W) 0 18446744073709551615)
  have hk := Nat.mod_lt c (show 64 > 0 by decide)
  have hw : IntKind.i64.wrap ((c : Int) % 64) = ((c % 64 : Nat) : Int) := i_wrap (c % 64) (by omega)
  have PW : Hid (∀ W, Calls Try.prog 43 #[.int .i64 ((c : Int) % 64)] W fun e w' => e = .returned (.int .u64 ((2 ^ (c % 64) : Nat) : Int)) ∧ W = w') := Lib.hid (fun w => pow_any (w := w) (c % 64) hk)
  have OR := Lib.hid (fun W => rdo_any (w := W) 7 b c hs.2 ht.2)
  rw [show doV 7 b c = b ||| c from rfl, show doE 7 = 0 from rfl] at OR
  have P3 : Hid (∀ W, Calls Try.prog 43 #[.int .i64 63] W fun e w' => e = .returned (.int .u64 9223372036854775808) ∧ W = w') := Lib.hid (fun w => pow_any (w := w) 63 (by decide))
  have g : decide ((9223372036854775808 : Int) ≤ b) = true := by rw [decide_eq_true_eq]; omega
  clear h
  simp only [spv] at M1 M2
  generalize 2 ^ (c % 64) = p at PW
  generalize b ||| c = r at OR
  have n1 : ((a : Int) == b) = false := by simp; omega
  clear hs ht ms mt hk h1
  go_enter Try.func24, Try.ntmps24
  go_wp2_with (first
    | (go_at_call 14; (with_reducible refine (M1.out _).mono ?_); rintro e wc ⟨rfl, hbc⟩; have FC := Lib.hid ((Fr.p3 w _ _ _ _ 0 0).step hbc); clear hbc; obtain ⟨q0, q1⟩ := FC.out.q1; obtain ⟨q2, q3⟩ := FC.out.2.q1; obtain ⟨q4, q5⟩ := FC.out.2.2.q1; (try (obtain ⟨q6, q7⟩ := FC.out.2.2.2.q1)); obtain ⟨z0, z1⟩ := FC.out.2.2.i1)
    | (go_at_call 14; (with_reducible refine (M2.out _).mono ?_); rintro e wc ⟨rfl, hbc⟩; have FC := Lib.hid (FC.out.step hbc); clear hbc; (try clear q0 q1); obtain ⟨q0, q1⟩ := FC.out.q1; (try clear q2 q3); obtain ⟨q2, q3⟩ := FC.out.2.q1; (try clear q4 q5); obtain ⟨q4, q5⟩ := FC.out.2.2.q1; (try clear q6 q7); (try (obtain ⟨q6, q7⟩ := FC.out.2.2.2.q1)); (try clear z0 z1); obtain ⟨z0, z1⟩ := FC.out.2.2.i1)
    | (go_at_call 42; (with_reducible refine (MS.out _).mono ?_); rintro e wq ⟨rfl, rfl⟩)
    | (go_at_call 27; (with_reducible refine (T0.out _).mono ?_); rintro e wc ⟨rfl, hbc⟩; have FC : Hid (Fr w (wc.alloc (.cells #[.int .u64 0, .int .u64 18446744073709551615] 24)) _) := Lib.hid ((FC.out.step hbc).put 0 18446744073709551615); clear hbc; (try clear q0 q1); obtain ⟨q0, q1⟩ := FC.out.q1; (try clear q2 q3); obtain ⟨q2, q3⟩ := FC.out.2.q1; (try clear q4 q5); obtain ⟨q4, q5⟩ := FC.out.2.2.q1; (try clear q6 q7); (try (obtain ⟨q6, q7⟩ := FC.out.2.2.2.q1)); (try clear z0 z1); obtain ⟨z0, z1⟩ := FC.out.2.2.i1)
    | (go_at_call 43; (with_reducible refine (PW.out _).mono ?_); rintro e wq ⟨rfl, rfl⟩)
    | (go_at_call 41; (with_reducible refine (OR.out _).mono ?_); rintro e wq ⟨rfl, rfl⟩))
  have FC := Lib.hid FC.out.drew
  have SC := Lib.hid FC.out.s6
  have SZ := Lib.hid FC.out.s7
  go_region_held3 (fun w' => S6 w' w.heap.size a b c c) (first | (with_reducible exact SC.out) | (with_reducible exact SZ.out _ _) | go_keep) (first
    | (go_at_call 43; (with_reducible refine (P3.out _).mono ?_); rintro e wq ⟨rfl, rfl⟩))
  all_goals
    obtain ⟨q0, q1⟩ := FC.out.q1; obtain ⟨q2, q3⟩ := FC.out.2.q1; obtain ⟨q4, q5⟩ := FC.out.2.2.q1; obtain ⟨q6, q7⟩ := FC.out.2.2.2.q1; obtain ⟨z0, z1⟩ := FC.out.2.2.i1
    go_wp2_with fail
    exact done2 rfl rfl rfl rfl (put2 FC.out.2.2.1 _ _) rfl rfl rfl (below2 FC.out.below (by omega) _ _)
end
end Go.Proofs.Ytfeobcmkbkaphaa
