/- The walk of BranchSound: it returns true, and nothing that was there has turned. Conditions: the numbers have at most 64 bits; Not's table lies in its block. -/
import Derived.Test.YticgehmpfgdbhaaDoorBrShown
import Derived.Test.YticgehmpfgdbhaaDoorSpOpen
namespace Go.Proofs.YticgehmpfgdbhaaDoor
open Go.RowKit
set_option maxRecDepth 100000
set_option maxHeartbeats 4000000
section
variable {w : World}
theorem sound9_nat (k a b c d x y : Nat) (hs : (⟨a, b⟩ : Sp).ok) (ht : (⟨c, d⟩ : Sp).ok) (T : Hid (Nots w)) :
    Ans 4 #[.int .u8 (k : Int), .agg #[.int .u64 (a : Int), .int .u64 (b : Int)], .agg #[.int .u64 (c : Int), .int .u64 (d : Int)], .int .u64 (x : Int), .int .u64 (y : Int)] (.bool true) w := by
  obtain ⟨o, ho⟩ : ∃ o : Int, o = 1 + (k : Int) % 9 := ⟨_, rfl⟩
  have ho1 : 1 ≤ o ∧ o ≤ 9 := by omega
  have kw : IntKind.i64.wrap ((k : Int) % 9) = (k : Int) % 9 := IntWalk.i64_in _ (by omega)
  have kc : 1 + (k : Int) % 9 = o := ho.symm
  clear ho
  have SH := Lib.hid (fun W TW => shown_any (w := W) TW)
  have H1 := Lib.hid (fun W => has_any (w := W) ⟨a, b⟩ x)
  have H2 := Lib.hid (fun W => has_any (w := W) ⟨c, d⟩ y)
  simp only [spv] at H1 H2
  have FC := Lib.hid (Fr.p2 w a b c d)
  cases h1 : hasV ⟨a, b⟩ x with
  | false =>
    rw [h1] at H1
    clear h1 ho1 hs ht H2
    go_enter Tryd.func4, Tryd.ntmps4
    go_wp2_with (first
      | (go_at_call 9; (with_reducible refine (SH.out _ (Lib.hid (T.out.below FC.out.below T.out.lt))).mono ?_); rintro e wc ⟨rfl, hbc⟩; have FC := Lib.hid (FC.out.step hbc); clear hbc; (try clear q0 q1); obtain ⟨q0, q1⟩ := FC.out.q1; (try clear q2 q3); obtain ⟨q2, q3⟩ := FC.out.2.q1)
      | (go_at_call 12; (with_reducible refine (H1.out _).mono ?_); rintro e wc ⟨rfl, hbc⟩; have FC := Lib.hid (FC.out.step hbc); clear hbc; (try clear q0 q1); obtain ⟨q0, q1⟩ := FC.out.q1; (try clear q2 q3); obtain ⟨q2, q3⟩ := FC.out.2.q1))
    go_ret
    exact ⟨rfl, FC.out.below⟩
  | true =>
    cases h2 : hasV ⟨c, d⟩ y with
    | false =>
      rw [h1] at H1
      rw [h2] at H2
      clear h1 h2 ho1 hs ht
      go_enter Tryd.func4, Tryd.ntmps4
      go_wp2_with (first
        | (go_at_call 9; (with_reducible refine (SH.out _ (Lib.hid (T.out.below FC.out.below T.out.lt))).mono ?_); rintro e wc ⟨rfl, hbc⟩; have FC := Lib.hid (FC.out.step hbc); clear hbc; (try clear q0 q1); obtain ⟨q0, q1⟩ := FC.out.q1; (try clear q2 q3); obtain ⟨q2, q3⟩ := FC.out.2.q1)
        | (go_at_call 12; (with_reducible refine (H1.out _).mono ?_); rintro e wc ⟨rfl, hbc⟩; have FC := Lib.hid (FC.out.step hbc); clear hbc; (try clear q0 q1); obtain ⟨q0, q1⟩ := FC.out.q1; (try clear q2 q3); obtain ⟨q2, q3⟩ := FC.out.2.q1)
        | (go_at_call 12; (with_reducible refine (H2.out _).mono ?_); rintro e wc ⟨rfl, hbc⟩; have FC := Lib.hid (FC.out.step hbc); clear hbc; (try clear q0 q1); obtain ⟨q0, q1⟩ := FC.out.q1; (try clear q2 q3); obtain ⟨q2, q3⟩ := FC.out.2.q1))
      go_ret
      exact ⟨rfl, FC.out.below⟩
    | true =>
      obtain ⟨l1, l2, l3, l4⟩ := l_sound9 ho1 h1 h2
      have A := Lib.hid (fun W => holds_any (w := W) o x y (Nat.lt_of_le_of_lt (has_iff.1 h1).2 hs.2) (Nat.lt_of_le_of_lt (has_iff.1 h2).2 ht.2))
      have R1 := Lib.hid (fun W TW => refine_any (w := W) o ⟨a, b⟩ ⟨c, d⟩ (hdV o x y) hs ht TW)
      rw [show hdE o = 0 by unfold hdE; rw [if_pos ho1]] at A
      rw [l1, l2] at R1
      rw [h1] at H1
      rw [h2] at H2
      have U1 := Lib.hid (fun W => has_any (w := W) (br o ⟨a, b⟩ ⟨c, d⟩ (hdV o x y)).u x)
      have U2 := Lib.hid (fun W => has_any (w := W) (br o ⟨a, b⟩ ⟨c, d⟩ (hdV o x y)).v y)
      rw [l3] at U1
      rw [l4] at U2
      clear h1 h2 l1 l2 l3 l4 ho1 hs ht
      generalize br o ⟨a, b⟩ ⟨c, d⟩ (hdV o x y) = r at R1 U1 U2
      generalize hdV o x y = hh at A R1
      obtain ⟨⟨u0, u1⟩, ⟨v0, v1⟩, _⟩ := r
      simp only [spv] at R1 U1 U2
      go_enter Tryd.func4, Tryd.ntmps4
      go_wp2_with (first
        | (go_at_call 9; (with_reducible refine (SH.out _ (Lib.hid (T.out.below FC.out.below T.out.lt))).mono ?_); rintro e wc ⟨rfl, hbc⟩; have FC := Lib.hid (FC.out.step hbc); clear hbc; (try clear q0 q1); obtain ⟨q0, q1⟩ := FC.out.q1; (try clear q2 q3); obtain ⟨q2, q3⟩ := FC.out.2.q1)
        | (go_at_call 12; (with_reducible refine (H1.out _).mono ?_); rintro e wc ⟨rfl, hbc⟩; have FC := Lib.hid (FC.out.step hbc); clear hbc; (try clear q0 q1); obtain ⟨q0, q1⟩ := FC.out.q1; (try clear q2 q3); obtain ⟨q2, q3⟩ := FC.out.2.q1)
        | (go_at_call 12; (with_reducible refine (H2.out _).mono ?_); rintro e wc ⟨rfl, hbc⟩; have FC := Lib.hid (FC.out.step hbc); clear hbc; (try clear q0 q1); obtain ⟨q0, q1⟩ := FC.out.q1; (try clear q2 q3); obtain ⟨q2, q3⟩ := FC.out.2.q1)
        | (go_at_call 13; (with_reducible refine (A.out _).mono ?_); rintro e wh ⟨rfl, rfl⟩)
        | (go_at_call 10; (with_reducible refine (R1.out _ (Lib.hid (T.out.below FC.out.below T.out.lt))).mono ?_); rintro e wc ⟨rfl, hbc⟩; have FC := Lib.hid ((FC.out.step hbc).put2 u0 u1 v0 v1); clear hbc; (try clear q0 q1); obtain ⟨q0, q1⟩ := FC.out.q1; (try clear q2 q3); obtain ⟨q2, q3⟩ := FC.out.2.q1; (try clear q4 q5); obtain ⟨q4, q5⟩ := FC.out.2.2.q1; (try clear q6 q7); obtain ⟨q6, q7⟩ := FC.out.2.2.2.q1)
        | (go_at_call 12; (with_reducible refine (U1.out _).mono ?_); rintro e wc ⟨rfl, hbc⟩; have FC := Lib.hid (FC.out.step hbc); clear hbc; (try clear q0 q1); obtain ⟨q0, q1⟩ := FC.out.q1; (try clear q2 q3); obtain ⟨q2, q3⟩ := FC.out.2.q1; (try clear q4 q5); obtain ⟨q4, q5⟩ := FC.out.2.2.q1; (try clear q6 q7); obtain ⟨q6, q7⟩ := FC.out.2.2.2.q1)
        | (go_at_call 12; (with_reducible refine (U2.out _).mono ?_); rintro e wc ⟨rfl, hbc⟩; have FC := Lib.hid (FC.out.step hbc); clear hbc; (try clear q0 q1); obtain ⟨q0, q1⟩ := FC.out.q1; (try clear q2 q3); obtain ⟨q2, q3⟩ := FC.out.2.q1; (try clear q4 q5); obtain ⟨q4, q5⟩ := FC.out.2.2.q1; (try clear q6 q7); obtain ⟨q6, q7⟩ := FC.out.2.2.2.q1))
      go_ret
      exact ⟨rfl, FC.out.below⟩
theorem sound9_row (x0 : Int) (s t : Sp) (x3 x4 : Int) (w : World) (h0 : (Lit.int .u8 x0).wf = true) (h3 : (Lit.int .u64 x3).wf = true) (h4 : (Lit.int .u64 x4).wf = true) (hs : s.ok) (ht : t.ok) (hT : Nots w) (_hB : True) :
    Calls Tryd.prog 4 #[.int .u8 x0, spv s, spv t, .int .u64 x3, .int .u64 x4] w fun e w' => e = .returned (.bool true) ∧ Below w.heap.size w w' := by
  obtain ⟨k, rfl, -⟩ := nat_u8 h0
  obtain ⟨x, rfl, -⟩ := nat_u64 h3
  obtain ⟨y, rfl, -⟩ := nat_u64 h4
  exact sound9_nat k s.lo s.hi t.lo t.hi x y hs ht (Lib.hid hT)
end
end Go.Proofs.YticgehmpfgdbhaaDoor
