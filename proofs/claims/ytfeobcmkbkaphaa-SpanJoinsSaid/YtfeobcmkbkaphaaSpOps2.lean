/- The contracts of span's small steps: quotient, remainder, shiftedUp, shiftedDown, shiftedSigned. Conditions: the numbers have at most 64 bits; spans that are valid. -/
import Derived.Test.YtfeobcmkbkaphaaSpOps
import Derived.Test.YtfeobcmkbkaphaaADo
import Derived.Deep.QuietTactic
import Derived.BigQuiet
namespace Go.Proofs.Ytfeobcmkbkaphaa
open Go.RowKit
set_option maxRecDepth 100000
set_option maxHeartbeats 1000000
section
variable {w : World}
theorem thirdD {w : World} {o1 o2 : Obj} {t : TypeId} {cs : Array Value} : Blk (((w.alloc o1).alloc o2).alloc (.cells cs t)).drew (w.heap.size + 1 + 1) t cs :=
  by have h := @third w o1 o2 t cs; exact h.below (Below.drew (Below.refl _ _)) h.lt
theorem quotient_span (s t : Sp) (hs : s.ok) (mt : t.lo ≤ t.hi) : Ans 34 #[spv s, spv t] (spv (divV s t)) w := by
  obtain ⟨a, b⟩ := s
  obtain ⟨c, d⟩ := t
  by_cases h : c = 0
  · rw [show divV ⟨a, b⟩ ⟨c, d⟩ = ⟨0, b⟩ from if_pos h]
    have U1 := Lib.hid (fun W => upTo_any (w := W) b)
    simp only [spv] at U1
    clear hs mt
    subst h
    show Ans _ #[.agg #[.int .u64 (a : Int), .int .u64 (b : Int)], .agg #[.int .u64 0, .int .u64 (d : Int)]] _ _
    go_enter Try.func34, Try.ntmps34
    go_wp2_with (first | (go_at_call 36; (with_reducible refine (U1.out _).mono ?_); rintro e w1 ⟨rfl, hb1⟩; have F1 := Lib.hid ((Fr.f3 w a b 0 d).step hb1); clear hb1; obtain ⟨q0, q1⟩ := F1.out.q1; obtain ⟨z0, z1⟩ := F1.out.i1))
    exact done1 rfl rfl rfl (put2 F1.out.1 _ _) rfl rfl (below2 F1.out.below (by omega) _ _)
  · rw [show divV ⟨a, b⟩ ⟨c, d⟩ = ⟨a / d, b / c⟩ from if_neg h]
    have HL := Lib.hid (v_quo (b := d) hs.1)
    have HH := Lib.hid (v_quo (b := c) hs.2)
    dsimp only at HL HH mt
    have h2 : ¬ d = 0 := by omega
    clear hs mt
    show Ans _ #[.agg #[.int .u64 (a : Int), .int .u64 (b : Int)], .agg #[.int .u64 (c : Int), .int .u64 (d : Int)]] _ _
    go_enter Try.func34, Try.ntmps34
    go_wp2_with fail
    go_region
    go_wp2_with fail
    exact done1 rfl rfl rfl thirdD HL.out HH.out (by go_grown)
theorem shiftedDown_any (s t : Sp) : Ans 39 #[spv s, spv t] (spv (shrV s t)) w := by
  obtain ⟨a, b⟩ := s
  obtain ⟨c, d⟩ := t
  have I1 := Lib.hid (fun W => isSingle_any (w := W) ⟨c, d⟩)
  have U1 := Lib.hid (fun W => upTo_any (w := W) b)
  simp only [spv, isOne] at I1 U1
  by_cases h : c = d
  · rw [show shrV ⟨a, b⟩ ⟨c, d⟩ = ⟨a / 2 ^ (c % 64), b / 2 ^ (c % 64)⟩ from if_pos h]
    rw [decide_eq_true h] at I1
    clear h U1
    show Ans _ #[.agg #[.int .u64 (a : Int), .int .u64 (b : Int)], .agg #[.int .u64 (c : Int), .int .u64 (d : Int)]] _ _
    go_enter Try.func39, Try.ntmps39
    go_wp2_with (first | (go_at_call 30; (with_reducible refine (I1.out _).mono ?_); rintro e w1 ⟨rfl, hb1⟩; have F1 := Lib.hid ((Fr.f3 w a b c d).step hb1); clear hb1; obtain ⟨q0, q1⟩ := F1.out.q1; obtain ⟨q2, q3⟩ := F1.out.2.q1; obtain ⟨q4, q5⟩ := F1.out.2.2.q1; obtain ⟨z0, z1⟩ := F1.out.i1))
    exact done1 rfl rfl rfl (put2 F1.out.1 _ _) v_shr v_shr (below2 F1.out.below (by omega) _ _)
  · rw [show shrV ⟨a, b⟩ ⟨c, d⟩ = ⟨0, b⟩ from if_neg h]
    rw [decide_eq_false h] at I1
    clear h
    show Ans _ #[.agg #[.int .u64 (a : Int), .int .u64 (b : Int)], .agg #[.int .u64 (c : Int), .int .u64 (d : Int)]] _ _
    go_enter Try.func39, Try.ntmps39
    go_wp2_with (first | (go_at_call 30; (with_reducible refine (I1.out _).mono ?_); rintro e w1 ⟨rfl, hb1⟩; have F1 := Lib.hid ((Fr.f3 w a b c d).step hb1); clear hb1; obtain ⟨q0, q1⟩ := F1.out.q1; obtain ⟨q2, q3⟩ := F1.out.2.q1; obtain ⟨q4, q5⟩ := F1.out.2.2.q1; obtain ⟨z0, z1⟩ := F1.out.i1) | (go_at_call 36; (with_reducible refine (U1.out _).mono ?_); rintro e w2 ⟨rfl, hb2⟩; have F2 := Lib.hid (F1.out.step hb2); clear hb2 q0 q1 q2 q3 q4 q5 z0 z1; obtain ⟨q0, q1⟩ := F2.out.q1; obtain ⟨z0, z1⟩ := F2.out.i1))
    exact done1 rfl rfl rfl (put2 F2.out.1 _ _) rfl rfl (below2 F2.out.below (by omega) _ _)
theorem shiftedSigned_any (s t : Sp) : Ans 40 #[spv s, spv t] (spv (sarV s t)) w := by
  obtain ⟨a, b⟩ := s
  obtain ⟨c, d⟩ := t
  have D1 := Lib.hid (fun W => shiftedDown_any (w := W) ⟨a, b⟩ ⟨c, d⟩)
  by_cases h : 9223372036854775808 ≤ b
  · rw [show sarV ⟨a, b⟩ ⟨c, d⟩ = spAll from if_pos h]
    have g : decide ((9223372036854775808 : Int) ≤ b) = true := by rw [decide_eq_true_eq]; omega
    clear D1 h
    show Ans _ #[.agg #[.int .u64 (a : Int), .int .u64 (b : Int)], .agg #[.int .u64 (c : Int), .int .u64 (d : Int)]] _ _
    go_enter Try.func40, Try.ntmps40
    go_wp2_with (first | (go_at_call 26; (with_reducible refine (all_any (w := _)).mono ?_); rintro e w1 ⟨rfl, hb1⟩; have F1 := Lib.hid ((Fr.f3 w a b c d).step hb1); clear hb1; obtain ⟨q0, q1⟩ := F1.out.q1; obtain ⟨z0, z1⟩ := F1.out.i1; unfold spv))
    exact done1 rfl rfl rfl (put2 F1.out.1 _ _) rfl rfl (below2 F1.out.below (by omega) _ _)
  · rw [show sarV ⟨a, b⟩ ⟨c, d⟩ = shrV ⟨a, b⟩ ⟨c, d⟩ from if_neg h]
    have g : decide ((9223372036854775808 : Int) ≤ b) = false := by rw [decide_eq_false_iff_not]; omega
    clear h
    generalize shrV ⟨a, b⟩ ⟨c, d⟩ = v at D1
    obtain ⟨x, y⟩ := v
    simp only [spv] at D1
    show Ans _ #[.agg #[.int .u64 (a : Int), .int .u64 (b : Int)], .agg #[.int .u64 (c : Int), .int .u64 (d : Int)]] _ _
    go_enter Try.func40, Try.ntmps40
    go_wp2_with (first | (go_at_call 39; (with_reducible refine (D1.out _).mono ?_); rintro e w1 ⟨rfl, hb1⟩; have F1 := Lib.hid ((Fr.f3 w a b c d).step hb1); clear hb1; obtain ⟨q0, q1⟩ := F1.out.q1; obtain ⟨z0, z1⟩ := F1.out.i1))
    exact done1 rfl rfl rfl (put2 F1.out.1 _ _) rfl rfl (below2 F1.out.below (by omega) _ _)
theorem shl_gt {b k : Nat} (h : ¬ b ≤ 18446744073709551615 / 2 ^ k) : decide ((18446744073709551615 : Int) / 2 ^ k < b) = true := by
  have e : ((18446744073709551615 : Int) / 2 ^ k) = ((18446744073709551615 / 2 ^ k : Nat) : Int) := by rw [Int.natCast_ediv, Int.natCast_pow]; rfl
  rw [e, decide_eq_true_eq]
  omega
theorem shl_le {b k : Nat} (h : b ≤ 18446744073709551615 / 2 ^ k) : decide ((18446744073709551615 : Int) / 2 ^ k < b) = false := by
  have e : ((18446744073709551615 : Int) / 2 ^ k) = ((18446744073709551615 / 2 ^ k : Nat) : Int) := by rw [Int.natCast_ediv, Int.natCast_pow]; rfl
  rw [e, decide_eq_false_iff_not]
  omega
theorem v_shift {a c : Nat} (h : a * 2 ^ (c % 64) < 18446744073709551616) : IntKind.u64.wrap ((a : Int) * 2 ^ (c % 64)) = ((a * 2 ^ (c % 64) : Nat) : Int) := by
  rw [v_shl]
  show ((a * 2 ^ (c % 64) % 18446744073709551616 : Nat) : Int) = _
  rw [Nat.mod_eq_of_lt h]
theorem shiftedUp_any (s t : Sp) (ms : s.lo ≤ s.hi) : Ans 38 #[spv s, spv t] (spv (shlV s t)) w := by
  obtain ⟨a, b⟩ := s
  obtain ⟨c, d⟩ := t
  have I1 := Lib.hid (fun W => isSingle_any (w := W) ⟨c, d⟩)
  simp only [spv, isOne] at I1
  by_cases h : c = d
  · rw [decide_eq_true h] at I1
    by_cases h2 : b ≤ 18446744073709551615 / 2 ^ (c % 64)
    · rw [show shlV ⟨a, b⟩ ⟨c, d⟩ = ⟨a * 2 ^ (c % 64), b * 2 ^ (c % 64)⟩ from if_pos ⟨h, h2⟩]
      have HL := Lib.hid (v_shift (shl_fits (k := c % 64) ms h2))
      have HH := Lib.hid (v_shift (shl_fits (k := c % 64) (Nat.le_refl b) h2))
      have g := shl_le h2
      clear h h2 ms
      show Ans _ #[.agg #[.int .u64 (a : Int), .int .u64 (b : Int)], .agg #[.int .u64 (c : Int), .int .u64 (d : Int)]] _ _
      go_enter Try.func38, Try.ntmps38
      go_wp2_with (first | (go_at_call 30; (with_reducible refine (I1.out _).mono ?_); rintro e w1 ⟨rfl, hb1⟩; have F1 := Lib.hid ((Fr.f3 w a b c d).step hb1); clear hb1; obtain ⟨q0, q1⟩ := F1.out.q1; obtain ⟨q2, q3⟩ := F1.out.2.q1; obtain ⟨q4, q5⟩ := F1.out.2.2.q1; obtain ⟨z0, z1⟩ := F1.out.i1))
      exact done1 rfl rfl rfl (put2 F1.out.1 _ _) HL.out HH.out (below2 F1.out.below (by omega) _ _)
    · rw [show shlV ⟨a, b⟩ ⟨c, d⟩ = spAll from if_neg fun e => h2 e.2]
      have g := shl_gt h2
      clear h h2 ms
      show Ans _ #[.agg #[.int .u64 (a : Int), .int .u64 (b : Int)], .agg #[.int .u64 (c : Int), .int .u64 (d : Int)]] _ _
      go_enter Try.func38, Try.ntmps38
      go_wp2_with (first | (go_at_call 30; (with_reducible refine (I1.out _).mono ?_); rintro e w1 ⟨rfl, hb1⟩; have F1 := Lib.hid ((Fr.f3 w a b c d).step hb1); clear hb1; obtain ⟨q0, q1⟩ := F1.out.q1; obtain ⟨q2, q3⟩ := F1.out.2.q1; obtain ⟨q4, q5⟩ := F1.out.2.2.q1; obtain ⟨z0, z1⟩ := F1.out.i1) | (go_at_call 26; (with_reducible refine (all_any (w := _)).mono ?_); rintro e w2 ⟨rfl, hb2⟩; have F2 := Lib.hid (F1.out.step hb2); clear hb2 q0 q1 q2 q3 q4 q5 z0 z1; obtain ⟨q0, q1⟩ := F2.out.q1; obtain ⟨z0, z1⟩ := F2.out.i1; unfold spv))
      exact done1 rfl rfl rfl (put2 F2.out.1 _ _) rfl rfl (below2 F2.out.below (by omega) _ _)
  · rw [show shlV ⟨a, b⟩ ⟨c, d⟩ = spAll from if_neg fun e => h e.1]
    rw [decide_eq_false h] at I1
    clear h ms
    show Ans _ #[.agg #[.int .u64 (a : Int), .int .u64 (b : Int)], .agg #[.int .u64 (c : Int), .int .u64 (d : Int)]] _ _
    go_enter Try.func38, Try.ntmps38
    go_wp2_with (first | (go_at_call 30; (with_reducible refine (I1.out _).mono ?_); rintro e w1 ⟨rfl, hb1⟩; have F1 := Lib.hid ((Fr.f3 w a b c d).step hb1); clear hb1; obtain ⟨q0, q1⟩ := F1.out.q1; obtain ⟨q2, q3⟩ := F1.out.2.q1; obtain ⟨q4, q5⟩ := F1.out.2.2.q1; obtain ⟨z0, z1⟩ := F1.out.i1) | (go_at_call 26; (with_reducible refine (all_any (w := _)).mono ?_); rintro e w2 ⟨rfl, hb2⟩; have F2 := Lib.hid (F1.out.step hb2); clear hb2 q0 q1 q2 q3 q4 q5 z0 z1; obtain ⟨q0, q1⟩ := F2.out.q1; obtain ⟨z0, z1⟩ := F2.out.i1; unfold spv))
    exact done1 rfl rfl rfl (put2 F2.out.1 _ _) rfl rfl (below2 F2.out.below (by omega) _ _)
/-- The cells of both arguments. -/
abbrev S6 (W : World) (g : Nat) (a b c d : Int) : Prop := W.cell? ⟨g, 0, none⟩ = some (.int .u64 a) ∧ W.cell? ⟨g, 1, none⟩ = some (.int .u64 b) ∧ W.cell? ⟨g + 1, 0, none⟩ = some (.int .u64 c) ∧ W.cell? ⟨g + 1, 1, none⟩ = some (.int .u64 d)
theorem Fr.s3 {w W : World} {a b c d : Nat} {x : Nat × Nat × Nat} (h : Fr w W [x, (w.heap.size + 1, c, d), (w.heap.size, a, b)]) : S6 W w.heap.size a b c d :=
  ⟨h.2.2.q1.1, h.2.2.q1.2, h.2.q1.1, h.2.q1.2⟩
theorem remainder_span (s t : Sp) (hs : s.ok) (ht : t.ok) (mt : t.lo ≤ t.hi) : Ans 35 #[spv s, spv t] (spv (modV s t)) w := by
  obtain ⟨a, b⟩ := s
  obtain ⟨c, d⟩ := t
  have O1 : Hid (∀ W, Ans 12 #[.int .u64 0] (.agg #[.int .u64 0, .int .u64 0]) W) := Lib.hid (fun W => of_any (w := W) 0)
  have F0 := Lib.hid (Fr.f3 w a b c d).drew
  have S0 := Lib.hid F0.out.s3
  by_cases h : b < c
  · rw [show modV ⟨a, b⟩ ⟨c, d⟩ = ⟨a, b⟩ from if_pos (.inl h)]
    clear hs ht mt S0 F0 O1
    show Ans _ #[.agg #[.int .u64 (a : Int), .int .u64 (b : Int)], .agg #[.int .u64 (c : Int), .int .u64 (d : Int)]] _ _
    go_enter Try.func35, Try.ntmps35
    go_wp2_with fail
    go_quiet (fail)
    go_wp2_with fail
    exact done1 rfl rfl rfl (put2 ((Fr.f3 w a b c d).drewN _).1 _ _) rfl rfl (below2 ((Fr.f3 w a b c d).drewN _).below (by omega) _ _)
  · by_cases h0 : d = 0
    · obtain rfl : c = 0 := by dsimp only at mt; omega
      subst h0
      rw [show modV ⟨a, b⟩ ⟨0, 0⟩ = ⟨a, b⟩ from if_pos (.inr rfl)]
      clear hs ht mt h
      have F0 : Hid (Fr w (((w.alloc (.cells #[.int .u64 (a : Int), .int .u64 (b : Int)] 24)).alloc (.cells #[.int .u64 0, .int .u64 0] 24)).alloc (.cells #[.int .u64 0, .int .u64 0] 24)).drew [(w.heap.size + 1 + 1, 0, 0), (w.heap.size + 1, 0, 0), (w.heap.size, a, b)]) := F0
      have S0 : Hid (S6 (((w.alloc (.cells #[.int .u64 (a : Int), .int .u64 (b : Int)] 24)).alloc (.cells #[.int .u64 0, .int .u64 0] 24)).alloc (.cells #[.int .u64 0, .int .u64 0] 24)).drew w.heap.size a b 0 0) := S0
      show Ans _ #[.agg #[.int .u64 (a : Int), .int .u64 (b : Int)], .agg #[.int .u64 0, .int .u64 0]] _ _
      go_enter Try.func35, Try.ntmps35
      go_wp2_with fail
      go_region_held3 (fun w' => S6 w' w.heap.size a b 0 0) (first | (with_reducible exact S0.out) | (with_reducible exact S1.out) | go_keep) (first | (go_at_call 12; (with_reducible refine (O1.out _).mono ?_); rintro e w1 ⟨rfl, hb1⟩; have F1 := Lib.hid (F0.out.step hb1); have S1 : Hid (S6 _ w.heap.size a b 0 0) := Lib.hid F1.out.s3; clear hb1))
      obtain ⟨q0, q1⟩ := F1.out.q1; obtain ⟨q2, q3⟩ := F1.out.2.q1; obtain ⟨q4, q5⟩ := F1.out.2.2.q1; obtain ⟨z0, z1⟩ := F1.out.i1
      go_wp2_with fail
      exact done1 rfl rfl rfl (put2 F1.out.1 _ _) rfl rfl (below2 F1.out.below (by omega) _ _)
    · have hm : modV ⟨a, b⟩ ⟨c, d⟩ = if c = 0 then ⟨0, b⟩ else ⟨0, min b (d - 1)⟩ := if_neg (fun e => e.elim h (fun e => h0 (congrArg Sp.hi e)))
      rw [hm]
      clear hm
      have g0 : ((d : Int) == 0) = false := by simp; omega
      by_cases h1 : c = 0
      · rw [if_pos h1]
        have U1 := Lib.hid (fun W => upTo_any (w := W) b)
        simp only [spv] at U1
        subst h1
        clear hs ht mt h h0
        have F0 : Hid (Fr w (((w.alloc (.cells #[.int .u64 (a : Int), .int .u64 (b : Int)] 24)).alloc (.cells #[.int .u64 0, .int .u64 (d : Int)] 24)).alloc (.cells #[.int .u64 0, .int .u64 0] 24)).drew [(w.heap.size + 1 + 1, 0, 0), (w.heap.size + 1, 0, d), (w.heap.size, a, b)]) := F0
        have S0 : Hid (S6 (((w.alloc (.cells #[.int .u64 (a : Int), .int .u64 (b : Int)] 24)).alloc (.cells #[.int .u64 0, .int .u64 (d : Int)] 24)).alloc (.cells #[.int .u64 0, .int .u64 0] 24)).drew w.heap.size a b 0 d) := S0
        show Ans _ #[.agg #[.int .u64 (a : Int), .int .u64 (b : Int)], .agg #[.int .u64 0, .int .u64 (d : Int)]] _ _
        go_enter Try.func35, Try.ntmps35
        go_wp2_with fail
        go_region_held3 (fun w' => S6 w' w.heap.size a b 0 d) (first | (with_reducible exact S0.out) | (with_reducible exact S1.out) | go_keep) (first | (go_at_call 12; (with_reducible refine (O1.out _).mono ?_); rintro e w1 ⟨rfl, hb1⟩; have F1 := Lib.hid (F0.out.step hb1); have S1 : Hid (S6 _ w.heap.size a b 0 d) := Lib.hid F1.out.s3; clear hb1))
        obtain ⟨q0, q1⟩ := F1.out.q1; obtain ⟨q2, q3⟩ := F1.out.2.q1; obtain ⟨q4, q5⟩ := F1.out.2.2.q1; obtain ⟨z0, z1⟩ := F1.out.i1
        go_wp2_with (first | (go_at_call 36; (with_reducible refine (U1.out _).mono ?_); rintro e w2 ⟨rfl, hb2⟩; have F2 := Lib.hid (F1.out.step hb2); clear hb2 q0 q1 q2 q3 q4 q5 z0 z1; obtain ⟨q0, q1⟩ := F2.out.q1; obtain ⟨z0, z1⟩ := F2.out.i1))
        exact done1 rfl rfl rfl (put2 F2.out.1 _ _) rfl rfl (below2 F2.out.below (by omega) _ _)
      · rw [if_neg h1]
        obtain ⟨e, he⟩ : ∃ e, e = d - 1 := ⟨_, rfl⟩
        have hw : IntKind.u64.wrap ((d : Int) - 1) = (e : Int) := u_in (by omega) (by have := ht.2; dsimp only at this; omega)
        rw [← he]
        have U1 : Hid (∀ W, Ans 36 #[.int .u64 (min (b : Int) e)] (.agg #[.int .u64 0, .int .u64 ((min b e : Nat) : Int)]) W) := Lib.hid (fun W => by
          rw [show min (b : Int) (e : Int) = ((min b e : Nat) : Int) by omega]
          exact upTo_any (w := W) (min b e))
        generalize min b e = m at U1
        have g1 : ((c : Int) == 0) = false := by simp; omega
        clear hs ht mt h1 he
        show Ans _ #[.agg #[.int .u64 (a : Int), .int .u64 (b : Int)], .agg #[.int .u64 (c : Int), .int .u64 (d : Int)]] _ _
        go_enter Try.func35, Try.ntmps35
        go_wp2_with fail
        go_region_held3 (fun w' => S6 w' w.heap.size a b c d) (first | (with_reducible exact S0.out) | (with_reducible exact S1.out) | go_keep) (first | (go_at_call 12; (with_reducible refine (O1.out _).mono ?_); rintro e w1 ⟨rfl, hb1⟩; have F1 := Lib.hid (F0.out.step hb1); have S1 := Lib.hid F1.out.s3; clear hb1))
        obtain ⟨q0, q1⟩ := F1.out.q1; obtain ⟨q2, q3⟩ := F1.out.2.q1; obtain ⟨q4, q5⟩ := F1.out.2.2.q1; obtain ⟨z0, z1⟩ := F1.out.i1
        go_wp2_with (first | (go_at_call 36; (with_reducible refine (U1.out _).mono ?_); rintro e w2 ⟨rfl, hb2⟩; have F2 := Lib.hid (F1.out.step hb2); clear hb2 q0 q1 q2 q3 q4 q5 z0 z1; obtain ⟨q0, q1⟩ := F2.out.q1; obtain ⟨z0, z1⟩ := F2.out.i1))
        exact done1 rfl rfl rfl (put2 F2.out.1 _ _) rfl rfl (below2 F2.out.below (by omega) _ _)
end
end Go.Proofs.Ytfeobcmkbkaphaa
