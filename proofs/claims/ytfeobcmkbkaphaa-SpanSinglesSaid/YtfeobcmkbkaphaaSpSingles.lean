/- The walk of SpanSingles: it returns true, and nothing that was there has turned. Conditions: the numbers have at most 64 bits. -/
import Derived.Test.YtfeobcmkbkaphaaSpFrame
namespace Go.Proofs.Ytfeobcmkbkaphaa
open Go.RowKit
set_option maxRecDepth 100000
set_option maxHeartbeats 4000000
section
variable {w : World}
theorem singles_eq (k x : Nat) (hk : k < 256) (hx : x < 18446744073709551616) :
    Ans 9 #[.int .u8 (k : Int), .int .u64 (x : Int), .int .u64 (x : Int)] (.bool true) w := by
  obtain ⟨o, ho⟩ : ∃ o : Int, o = 1 + (k : Int) % 11 := ⟨_, rfl⟩
  have ho1 : 1 ≤ o ∧ o ≤ 11 := by omega
  have kw : IntKind.i64.wrap ((k : Int) % 11) = (k : Int) % 11 := IntWalk.i64_in _ (by omega)
  have kc : 1 + (k : Int) % 11 = o := ho.symm
  have SH := Lib.hid (fun W => shown_any (w := W))
  have O1 := Lib.hid (fun W => of_any (w := W) x)
  have O2 := Lib.hid (fun W => of_any (w := W) x)
  have AL := Lib.hid (fun W => all_any (w := W))
  have H1 := Lib.hid (fun W => has_any (w := W) (one x) x)
  have H2 := Lib.hid (fun W => has_any (w := W) spAll x)
  have W1 := Lib.hid (fun W => within_any (w := W) (one x) spAll)
  have D1 := Lib.hid (fun W => do_any (w := W) o x x hx hx)
  have D2 := Lib.hid (fun W => sdo_any (w := W) o (one x) (one x) (ok_of hx hx) (ok_of hx hx))
  have O3 := Lib.hid (fun W => of_any (w := W) (doV o x x))
  rw [l_single, sdE_0 ho1 (may_iff.2 (Nat.le_refl _)) (may_iff.2 (Nat.le_refl _))] at D2
  rw [show doE o = 0 by unfold doE; rw [if_pos ho1]] at D1
  rw [l_has_one] at H1
  rw [decide_eq_true rfl] at H1
  rw [l_has_all hx] at H2
  rw [l_one_all hx] at W1
  generalize doV o x x = n at D1 D2 O3
  simp only [spv, one, spAll] at O1 O2 O3 AL H1 H2 W1 D2
  have AL : Hid (∀ W, Ans 26 #[] (.agg #[.int .u64 0, .int .u64 18446744073709551615]) W) := AL
  have H2 : Hid (∀ W, Ans 15 #[.agg #[.int .u64 0, .int .u64 18446744073709551615], .int .u64 (x : Int)] (.bool true) W) := H2
  have W1 : Hid (∀ W, Ans 17 #[.agg #[.int .u64 (x : Int), .int .u64 (x : Int)], .agg #[.int .u64 0, .int .u64 18446744073709551615]] (.bool true) W) := W1
  clear ho ho1 hx 
  go_enter Try.func9, Try.ntmps9
  go_wp2_with (first
    | (go_at_call 11; (with_reducible refine (SH.out _).mono ?_); rintro e wc ⟨rfl, hbc⟩; have FC := Lib.hid ((Fr.nil w).step hbc); clear hbc)
    | (go_at_call 25; (with_reducible refine (D1.out _).mono ?_); rintro e wq ⟨rfl, rfl⟩)
    | (go_at_call 12; (with_reducible refine (O1.out _).mono ?_); rintro e wc ⟨rfl, hbc⟩; have FC := Lib.hid (FC.out.step hbc); clear hbc)
    | (go_at_call 12; (with_reducible refine (O2.out _).mono ?_); rintro e wc ⟨rfl, hbc⟩; have FC := Lib.hid (FC.out.step hbc); clear hbc)
    | (go_at_call 23; (with_reducible refine (D2.out _).mono ?_); rintro e wd ⟨rfl, hbc⟩; have FC := Lib.hid ((FC.out.step hbc).put n n); clear hbc))
  have FC := Lib.hid FC.out.drew
  have SC := Lib.hid FC.out.q1
  go_region_held3 (fun w' => S2 w' wd.heap.size n n) (first | (with_reducible exact SC.out) | go_keep) (first
        | (go_at_call 12; (with_reducible refine (O3.out _).mono ?_); rintro e wc ⟨rfl, hbc⟩; have FC := Lib.hid (FC.out.step hbc); have SC := Lib.hid FC.out.q1; clear hbc)
        | (go_at_call 12; (with_reducible refine (O1.out _).mono ?_); rintro e wc ⟨rfl, hbc⟩; have FC := Lib.hid (FC.out.step hbc); have SC := Lib.hid FC.out.q1; clear hbc)
        | (go_at_call 15; (with_reducible refine (H1.out _).mono ?_); rintro e wc ⟨rfl, hbc⟩; have FC := Lib.hid (FC.out.step hbc); have SC := Lib.hid FC.out.q1; clear hbc)
        | (go_at_call 26; (with_reducible refine (AL.out _).mono ?_); rintro e wc ⟨rfl, hbc⟩; have FC := Lib.hid (FC.out.step hbc); have SC := Lib.hid FC.out.q1; clear hbc)
        | (go_at_call 15; (with_reducible refine (H2.out _).mono ?_); rintro e wc ⟨rfl, hbc⟩; have FC := Lib.hid (FC.out.step hbc); have SC := Lib.hid FC.out.q1; clear hbc)
        | (go_at_call 17; (with_reducible refine (W1.out _).mono ?_); rintro e wc ⟨rfl, hbc⟩; have FC := Lib.hid (FC.out.step hbc); have SC := Lib.hid FC.out.q1; clear hbc))
  all_goals
    go_wp2_with fail
    go_ret
    exact ⟨rfl, FC.out.below⟩
theorem singles_ne (k x y : Nat) (hk : k < 256) (hx : x < 18446744073709551616) (hy : y < 18446744073709551616) (h : ((x : Int) == y) = false) :
    Ans 9 #[.int .u8 (k : Int), .int .u64 (x : Int), .int .u64 (y : Int)] (.bool true) w := by
  obtain ⟨o, ho⟩ : ∃ o : Int, o = 1 + (k : Int) % 11 := ⟨_, rfl⟩
  have ho1 : 1 ≤ o ∧ o ≤ 11 := by omega
  have kw : IntKind.i64.wrap ((k : Int) % 11) = (k : Int) % 11 := IntWalk.i64_in _ (by omega)
  have kc : 1 + (k : Int) % 11 = o := ho.symm
  have SH := Lib.hid (fun W => shown_any (w := W))
  have O1 := Lib.hid (fun W => of_any (w := W) x)
  have O2 := Lib.hid (fun W => of_any (w := W) y)
  have AL := Lib.hid (fun W => all_any (w := W))
  have H1 := Lib.hid (fun W => has_any (w := W) (one x) y)
  have H2 := Lib.hid (fun W => has_any (w := W) spAll x)
  have W1 := Lib.hid (fun W => within_any (w := W) (one x) spAll)
  have D1 := Lib.hid (fun W => do_any (w := W) o x y hx hy)
  have D2 := Lib.hid (fun W => sdo_any (w := W) o (one x) (one y) (ok_of hx hx) (ok_of hy hy))
  have O3 := Lib.hid (fun W => of_any (w := W) (doV o x y))
  rw [l_single, sdE_0 ho1 (may_iff.2 (Nat.le_refl _)) (may_iff.2 (Nat.le_refl _))] at D2
  rw [show doE o = 0 by unfold doE; rw [if_pos ho1]] at D1
  rw [l_has_one] at H1
  rw [show decide (x = y) = false by simp at h; rw [decide_eq_false_iff_not]; omega] at H1
  rw [l_has_all hx] at H2
  rw [l_one_all hx] at W1
  generalize doV o x y = n at D1 D2 O3
  simp only [spv, one, spAll] at O1 O2 O3 AL H1 H2 W1 D2
  have AL : Hid (∀ W, Ans 26 #[] (.agg #[.int .u64 0, .int .u64 18446744073709551615]) W) := AL
  have H2 : Hid (∀ W, Ans 15 #[.agg #[.int .u64 0, .int .u64 18446744073709551615], .int .u64 (x : Int)] (.bool true) W) := H2
  have W1 : Hid (∀ W, Ans 17 #[.agg #[.int .u64 (x : Int), .int .u64 (x : Int)], .agg #[.int .u64 0, .int .u64 18446744073709551615]] (.bool true) W) := W1
  clear ho ho1 hx hy
  go_enter Try.func9, Try.ntmps9
  go_wp2_with (first
    | (go_at_call 11; (with_reducible refine (SH.out _).mono ?_); rintro e wc ⟨rfl, hbc⟩; have FC := Lib.hid ((Fr.nil w).step hbc); clear hbc)
    | (go_at_call 25; (with_reducible refine (D1.out _).mono ?_); rintro e wq ⟨rfl, rfl⟩)
    | (go_at_call 12; (with_reducible refine (O1.out _).mono ?_); rintro e wc ⟨rfl, hbc⟩; have FC := Lib.hid (FC.out.step hbc); clear hbc)
    | (go_at_call 12; (with_reducible refine (O2.out _).mono ?_); rintro e wc ⟨rfl, hbc⟩; have FC := Lib.hid (FC.out.step hbc); clear hbc)
    | (go_at_call 23; (with_reducible refine (D2.out _).mono ?_); rintro e wd ⟨rfl, hbc⟩; have FC := Lib.hid ((FC.out.step hbc).put n n); clear hbc))
  have FC := Lib.hid FC.out.drew
  have SC := Lib.hid FC.out.q1
  go_region_held3 (fun w' => S2 w' wd.heap.size n n) (first | (with_reducible exact SC.out) | go_keep) (first
        | (go_at_call 12; (with_reducible refine (O3.out _).mono ?_); rintro e wc ⟨rfl, hbc⟩; have FC := Lib.hid (FC.out.step hbc); have SC := Lib.hid FC.out.q1; clear hbc)
        | (go_at_call 12; (with_reducible refine (O1.out _).mono ?_); rintro e wc ⟨rfl, hbc⟩; have FC := Lib.hid (FC.out.step hbc); have SC := Lib.hid FC.out.q1; clear hbc)
        | (go_at_call 15; (with_reducible refine (H1.out _).mono ?_); rintro e wc ⟨rfl, hbc⟩; have FC := Lib.hid (FC.out.step hbc); have SC := Lib.hid FC.out.q1; clear hbc)
        | (go_at_call 26; (with_reducible refine (AL.out _).mono ?_); rintro e wc ⟨rfl, hbc⟩; have FC := Lib.hid (FC.out.step hbc); have SC := Lib.hid FC.out.q1; clear hbc)
        | (go_at_call 15; (with_reducible refine (H2.out _).mono ?_); rintro e wc ⟨rfl, hbc⟩; have FC := Lib.hid (FC.out.step hbc); have SC := Lib.hid FC.out.q1; clear hbc)
        | (go_at_call 17; (with_reducible refine (W1.out _).mono ?_); rintro e wc ⟨rfl, hbc⟩; have FC := Lib.hid (FC.out.step hbc); have SC := Lib.hid FC.out.q1; clear hbc))
  all_goals
    go_wp2_with fail
    go_ret
    exact ⟨rfl, FC.out.below⟩
theorem singles_row (x0 x1 x2 : Int) (W : World) (h0 : (Lit.int .u8 x0).wf = true) (h1 : (Lit.int .u64 x1).wf = true) (h2 : (Lit.int .u64 x2).wf = true) :
    Calls Try.prog 9 #[.int .u8 x0, .int .u64 x1, .int .u64 x2] W fun e w' => e = .returned (.bool true) ∧ Below W.heap.size W w' := by
  obtain ⟨k, rfl, bk⟩ := nat_u8 h0
  obtain ⟨x, rfl, bx⟩ := nat_u64 h1
  obtain ⟨y, rfl, b2⟩ := nat_u64 h2
  by_cases h : x = y
  · subst h
    exact singles_eq k x bk bx
  · exact singles_ne k x y bk bx b2 (by simp; omega)
end
end Go.Proofs.Ytfeobcmkbkaphaa
