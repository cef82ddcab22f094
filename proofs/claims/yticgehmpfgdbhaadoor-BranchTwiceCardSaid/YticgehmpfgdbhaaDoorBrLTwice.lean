/- The walk of BranchTwice: it returns true, and nothing that was there has turned. Conditions: the numbers have at most 64 bits; Not's table lies in its block. -/
import Derived.Test.YticgehmpfgdbhaaDoorBrShown
import Derived.Test.YticgehmpfgdbhaaDoorSpOpen
namespace Go.Proofs.YticgehmpfgdbhaaDoor
open Go.RowKit
set_option maxRecDepth 100000
set_option maxHeartbeats 4000000
section
variable {w : World}
theorem twice9_bad (o : Int) (k a b c d x y z v : Nat) (h f : Bool) (kw : IntKind.i64.wrap ((k : Int) % 6) = (k : Int) % 6) (kc : 1 + (k : Int) % 6 = o) (T : Hid (Nots w)) (R1 : Hid (∀ W, Hid (Nots W) → Ans 10 #[.int .i64 o, .agg #[.int .u64 (a : Int), .int .u64 (b : Int)], .agg #[.int .u64 (c : Int), .int .u64 (d : Int)], .bool h] (.tuple #[.agg #[.int .u64 (x : Int), .int .u64 (y : Int)], .agg #[.int .u64 (z : Int), .int .u64 (v : Int)], .bool f, .int .i64 1]) W)) : Ans 8 #[.int .u8 (k : Int), .agg #[.int .u64 (a : Int), .int .u64 (b : Int)], .agg #[.int .u64 (c : Int), .int .u64 (d : Int)], .bool h] (.bool true) w := by
  have SH := Lib.hid (fun W TW => shown_any (w := W) TW)
  have FC := Lib.hid (Fr.p2 w a b c d)
  go_enter Tryd.func8, Tryd.ntmps8
  go_wp2_with (first
    | (go_at_call 9; (with_reducible refine (SH.out _ (Lib.hid (T.out.below FC.out.below T.out.lt))).mono ?_); rintro e wc ⟨rfl, hbc⟩; have FC := Lib.hid (FC.out.step hbc); clear hbc; (try clear q0 q1); obtain ⟨q0, q1⟩ := FC.out.q1; (try clear q2 q3); obtain ⟨q2, q3⟩ := FC.out.2.q1)
    | (go_at_call 10; (with_reducible refine (R1.out _ (Lib.hid (T.out.below FC.out.below T.out.lt))).mono ?_); rintro e wc ⟨rfl, hbc⟩; have FC := Lib.hid ((FC.out.step hbc).put2 x y z v); clear hbc; (try clear q0 q1); obtain ⟨q0, q1⟩ := FC.out.q1; (try clear q2 q3); obtain ⟨q2, q3⟩ := FC.out.2.q1; (try clear q4 q5); obtain ⟨q4, q5⟩ := FC.out.2.2.q1; (try clear q6 q7); obtain ⟨q6, q7⟩ := FC.out.2.2.2.q1))
  go_ret
  exact ⟨rfl, FC.out.below⟩
theorem twice9_no (o : Int) (k a b c d x y z v : Nat) (h : Bool) (kw : IntKind.i64.wrap ((k : Int) % 6) = (k : Int) % 6) (kc : 1 + (k : Int) % 6 = o) (T : Hid (Nots w)) (R1 : Hid (∀ W, Hid (Nots W) → Ans 10 #[.int .i64 o, .agg #[.int .u64 (a : Int), .int .u64 (b : Int)], .agg #[.int .u64 (c : Int), .int .u64 (d : Int)], .bool h] (.tuple #[.agg #[.int .u64 (x : Int), .int .u64 (y : Int)], .agg #[.int .u64 (z : Int), .int .u64 (v : Int)], .bool false, .int .i64 0]) W)) : Ans 8 #[.int .u8 (k : Int), .agg #[.int .u64 (a : Int), .int .u64 (b : Int)], .agg #[.int .u64 (c : Int), .int .u64 (d : Int)], .bool h] (.bool true) w := by
  have SH := Lib.hid (fun W TW => shown_any (w := W) TW)
  have FC := Lib.hid (Fr.p2 w a b c d)
  go_enter Tryd.func8, Tryd.ntmps8
  go_wp2_with (first
    | (go_at_call 9; (with_reducible refine (SH.out _ (Lib.hid (T.out.below FC.out.below T.out.lt))).mono ?_); rintro e wc ⟨rfl, hbc⟩; have FC := Lib.hid (FC.out.step hbc); clear hbc; (try clear q0 q1); obtain ⟨q0, q1⟩ := FC.out.q1; (try clear q2 q3); obtain ⟨q2, q3⟩ := FC.out.2.q1)
    | (go_at_call 10; (with_reducible refine (R1.out _ (Lib.hid (T.out.below FC.out.below T.out.lt))).mono ?_); rintro e wc ⟨rfl, hbc⟩; have FC := Lib.hid ((FC.out.step hbc).put2 x y z v); clear hbc; (try clear q0 q1); obtain ⟨q0, q1⟩ := FC.out.q1; (try clear q2 q3); obtain ⟨q2, q3⟩ := FC.out.2.q1; (try clear q4 q5); obtain ⟨q4, q5⟩ := FC.out.2.2.q1; (try clear q6 q7); obtain ⟨q6, q7⟩ := FC.out.2.2.2.q1))
  go_ret
  exact ⟨rfl, FC.out.below⟩
theorem twice9_yes (o : Int) (k a b c d x y z v i j m n : Nat) (h : Bool) (kw : IntKind.i64.wrap ((k : Int) % 6) = (k : Int) % 6) (kc : 1 + (k : Int) % 6 = o) (T : Hid (Nots w)) (R1 : Hid (∀ W, Hid (Nots W) → Ans 10 #[.int .i64 o, .agg #[.int .u64 (a : Int), .int .u64 (b : Int)], .agg #[.int .u64 (c : Int), .int .u64 (d : Int)], .bool h] (.tuple #[.agg #[.int .u64 (x : Int), .int .u64 (y : Int)], .agg #[.int .u64 (z : Int), .int .u64 (v : Int)], .bool true, .int .i64 0]) W)) (R2 : Hid (∀ W, Hid (Nots W) → Ans 10 #[.int .i64 o, .agg #[.int .u64 (x : Int), .int .u64 (y : Int)], .agg #[.int .u64 (z : Int), .int .u64 (v : Int)], .bool h] (.tuple #[.agg #[.int .u64 (i : Int), .int .u64 (j : Int)], .agg #[.int .u64 (m : Int), .int .u64 (n : Int)], .bool true, .int .i64 0]) W)) (W1 : Hid (∀ W, Ans 15 #[.agg #[.int .u64 (i : Int), .int .u64 (j : Int)], .agg #[.int .u64 (x : Int), .int .u64 (y : Int)]] (.bool true) W)) (W2 : Hid (∀ W, Ans 15 #[.agg #[.int .u64 (m : Int), .int .u64 (n : Int)], .agg #[.int .u64 (z : Int), .int .u64 (v : Int)]] (.bool true) W)) : Ans 8 #[.int .u8 (k : Int), .agg #[.int .u64 (a : Int), .int .u64 (b : Int)], .agg #[.int .u64 (c : Int), .int .u64 (d : Int)], .bool h] (.bool true) w := by
  have SH := Lib.hid (fun W TW => shown_any (w := W) TW)
  have FC := Lib.hid (Fr.p2 w a b c d)
  go_enter Tryd.func8, Tryd.ntmps8
  go_wp2_with (first
    | (go_at_call 9; (with_reducible refine (SH.out _ (Lib.hid (T.out.below FC.out.below T.out.lt))).mono ?_); rintro e wc ⟨rfl, hbc⟩; have FC := Lib.hid (FC.out.step hbc); clear hbc; (try clear q0 q1); obtain ⟨q0, q1⟩ := FC.out.q1; (try clear q2 q3); obtain ⟨q2, q3⟩ := FC.out.2.q1)
    | (go_at_call 10; (with_reducible refine (R1.out _ (Lib.hid (T.out.below FC.out.below T.out.lt))).mono ?_); rintro e wc ⟨rfl, hbc⟩; have FC := Lib.hid ((FC.out.step hbc).put2 x y z v); clear hbc; (try clear q0 q1); obtain ⟨q0, q1⟩ := FC.out.q1; (try clear q2 q3); obtain ⟨q2, q3⟩ := FC.out.2.q1; (try clear q4 q5); obtain ⟨q4, q5⟩ := FC.out.2.2.q1; (try clear q6 q7); obtain ⟨q6, q7⟩ := FC.out.2.2.2.q1)
    | (go_at_call 10; (with_reducible refine (R2.out _ (Lib.hid (T.out.below FC.out.below T.out.lt))).mono ?_); rintro e wc ⟨rfl, hbc⟩; have FC := Lib.hid ((FC.out.step hbc).put2 i j m n); clear hbc; (try clear q4 q5); obtain ⟨q4, q5⟩ := FC.out.2.2.q1; (try clear q6 q7); obtain ⟨q6, q7⟩ := FC.out.2.2.2.q1; (try clear q8 q9); obtain ⟨q8, q9⟩ := FC.out.2.2.2.2.q1; (try clear q10 q11); obtain ⟨q10, q11⟩ := FC.out.2.2.2.2.2.q1)
    | (go_at_call 15; (with_reducible refine (W1.out _).mono ?_); rintro e wc ⟨rfl, hbc⟩; have FC := Lib.hid (FC.out.step hbc); clear hbc; (try clear q4 q5); obtain ⟨q4, q5⟩ := FC.out.2.2.q1; (try clear q6 q7); obtain ⟨q6, q7⟩ := FC.out.2.2.2.q1; (try clear q8 q9); obtain ⟨q8, q9⟩ := FC.out.2.2.2.2.q1; (try clear q10 q11); obtain ⟨q10, q11⟩ := FC.out.2.2.2.2.2.q1)
    | (go_at_call 15; (with_reducible refine (W2.out _).mono ?_); rintro e wc ⟨rfl, hbc⟩; have FC := Lib.hid (FC.out.step hbc); clear hbc; (try clear q4 q5); obtain ⟨q4, q5⟩ := FC.out.2.2.q1; (try clear q6 q7); obtain ⟨q6, q7⟩ := FC.out.2.2.2.q1; (try clear q8 q9); obtain ⟨q8, q9⟩ := FC.out.2.2.2.2.q1; (try clear q10 q11); obtain ⟨q10, q11⟩ := FC.out.2.2.2.2.2.q1))
  go_ret
  exact ⟨rfl, FC.out.below⟩
theorem twice9_nat (k : Nat) (s t : Sp) (h : Bool) (hs : s.ok) (ht : t.ok) (T : Hid (Nots w)) : Ans 8 #[.int .u8 (k : Int), spv s, spv t, .bool h] (.bool true) w := by
  obtain ⟨o, ho⟩ : ∃ o : Int, o = 1 + (k : Int) % 6 := ⟨_, rfl⟩
  have ho1 : 1 ≤ o ∧ o ≤ 6 := by omega
  have kw : IntKind.i64.wrap ((k : Int) % 6) = (k : Int) % 6 := IntWalk.i64_in _ (by omega)
  have kc : 1 + (k : Int) % 6 = o := ho.symm
  clear ho
  have R1 := fun W TW => refine_any (w := W) o s t h hs ht TW
  by_cases f : fits o s t
  · rw [show brE o s t = 0 from if_pos f] at R1
    cases k1 : (br o s t h).can
    · rw [k1] at R1
      exact twice9_no o k s.lo s.hi t.lo t.hi _ _ _ _ h kw kc T (Lib.hid R1)
    · have ok := l_ok (c := o) (h := h) hs ht
      have R2 := fun W TW => refine_any (w := W) o (br o s t h).u (br o s t h).v h ok.1 ok.2 TW
      have l := l_twice s t h ho1 k1
      have W := l_within l.2
      have V1 := fun W' => within_any (w := W') (br o (br o s t h).u (br o s t h).v h).u (br o s t h).u
      have V2 := fun W' => within_any (w := W') (br o (br o s t h).u (br o s t h).v h).v (br o s t h).v
      rw [k1] at R1
      rw [l.1, l.2] at R2
      rw [W.1] at V1
      rw [W.2] at V2
      exact twice9_yes o k s.lo s.hi t.lo t.hi _ _ _ _ _ _ _ _ h kw kc T (Lib.hid R1) (Lib.hid R2) (Lib.hid V1) (Lib.hid V2)
  · rw [show brE o s t = 1 from if_neg f] at R1
    exact twice9_bad o k s.lo s.hi t.lo t.hi _ _ _ _ h _ kw kc T (Lib.hid R1)
theorem twice9_row (x0 : Int) (s t : Sp) (h : Bool) (w : World) (h0 : (Lit.int .u8 x0).wf = true) (hs : s.ok) (ht : t.ok) (hT : Nots w) (_hB : True) :
    Calls Tryd.prog 8 #[.int .u8 x0, spv s, spv t, .bool h] w fun e w' => e = .returned (.bool true) ∧ Below w.heap.size w w' := by
  obtain ⟨k, rfl, -⟩ := nat_u8 h0
  exact twice9_nat k s t h hs ht (Lib.hid hT)
end
end Go.Proofs.YticgehmpfgdbhaaDoor
