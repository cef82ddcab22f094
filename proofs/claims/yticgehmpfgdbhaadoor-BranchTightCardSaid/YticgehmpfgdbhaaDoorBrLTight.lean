/- The walk of BranchTight: it returns true, and nothing that was there has turned. Conditions: the numbers have at most 64 bits; Not's table lies in its block. -/
import Derived.Test.YticgehmpfgdbhaaDoorBrShown
import Derived.Test.YticgehmpfgdbhaaDoorSpOpen
namespace Go.Proofs.YticgehmpfgdbhaaDoor
open Go.RowKit
set_option maxRecDepth 100000
set_option maxHeartbeats 4000000
section
variable {w : World}
theorem tight9_bad (o : Int) (k a b c d x y z v : Nat) (h f : Bool) (kw : IntKind.i64.wrap ((k : Int) % 6) = (k : Int) % 6) (kc : 1 + (k : Int) % 6 = o) (T : Hid (Nots w)) (R1 : Hid (∀ W, Hid (Nots W) → Ans 10 #[.int .i64 o, .agg #[.int .u64 (a : Int), .int .u64 (b : Int)], .agg #[.int .u64 (c : Int), .int .u64 (d : Int)], .bool h] (.tuple #[.agg #[.int .u64 (x : Int), .int .u64 (y : Int)], .agg #[.int .u64 (z : Int), .int .u64 (v : Int)], .bool f, .int .i64 1]) W)) : Ans 6 #[.int .u8 (k : Int), .agg #[.int .u64 (a : Int), .int .u64 (b : Int)], .agg #[.int .u64 (c : Int), .int .u64 (d : Int)], .bool h] (.bool true) w := by
  have SH := Lib.hid (fun W TW => shown_any (w := W) TW)
  have FC := Lib.hid (Fr.p2 w a b c d)
  go_enter Tryd.func6, Tryd.ntmps6
  go_wp2_with (first
    | (go_at_call 9; (with_reducible refine (SH.out _ (Lib.hid (T.out.below FC.out.below T.out.lt))).mono ?_); rintro e wc ⟨rfl, hbc⟩; have FC := Lib.hid (FC.out.step hbc); clear hbc; (try clear q0 q1); obtain ⟨q0, q1⟩ := FC.out.q1; (try clear q2 q3); obtain ⟨q2, q3⟩ := FC.out.2.q1)
    | (go_at_call 10; (with_reducible refine (R1.out _ (Lib.hid (T.out.below FC.out.below T.out.lt))).mono ?_); rintro e wc ⟨rfl, hbc⟩; have FC := Lib.hid ((FC.out.step hbc).put2 x y z v); clear hbc; (try clear q0 q1); obtain ⟨q0, q1⟩ := FC.out.q1; (try clear q2 q3); obtain ⟨q2, q3⟩ := FC.out.2.q1; (try clear q4 q5); obtain ⟨q4, q5⟩ := FC.out.2.2.q1; (try clear q6 q7); obtain ⟨q6, q7⟩ := FC.out.2.2.2.q1))
  go_ret
  exact ⟨rfl, FC.out.below⟩
theorem tight9_no (o : Int) (k a b c d x y z v : Nat) (h : Bool) (kw : IntKind.i64.wrap ((k : Int) % 6) = (k : Int) % 6) (kc : 1 + (k : Int) % 6 = o) (T : Hid (Nots w)) (R1 : Hid (∀ W, Hid (Nots W) → Ans 10 #[.int .i64 o, .agg #[.int .u64 (a : Int), .int .u64 (b : Int)], .agg #[.int .u64 (c : Int), .int .u64 (d : Int)], .bool h] (.tuple #[.agg #[.int .u64 (x : Int), .int .u64 (y : Int)], .agg #[.int .u64 (z : Int), .int .u64 (v : Int)], .bool false, .int .i64 0]) W)) : Ans 6 #[.int .u8 (k : Int), .agg #[.int .u64 (a : Int), .int .u64 (b : Int)], .agg #[.int .u64 (c : Int), .int .u64 (d : Int)], .bool h] (.bool true) w := by
  have SH := Lib.hid (fun W TW => shown_any (w := W) TW)
  have FC := Lib.hid (Fr.p2 w a b c d)
  go_enter Tryd.func6, Tryd.ntmps6
  go_wp2_with (first
    | (go_at_call 9; (with_reducible refine (SH.out _ (Lib.hid (T.out.below FC.out.below T.out.lt))).mono ?_); rintro e wc ⟨rfl, hbc⟩; have FC := Lib.hid (FC.out.step hbc); clear hbc; (try clear q0 q1); obtain ⟨q0, q1⟩ := FC.out.q1; (try clear q2 q3); obtain ⟨q2, q3⟩ := FC.out.2.q1)
    | (go_at_call 10; (with_reducible refine (R1.out _ (Lib.hid (T.out.below FC.out.below T.out.lt))).mono ?_); rintro e wc ⟨rfl, hbc⟩; have FC := Lib.hid ((FC.out.step hbc).put2 x y z v); clear hbc; (try clear q0 q1); obtain ⟨q0, q1⟩ := FC.out.q1; (try clear q2 q3); obtain ⟨q2, q3⟩ := FC.out.2.q1; (try clear q4 q5); obtain ⟨q4, q5⟩ := FC.out.2.2.q1; (try clear q6 q7); obtain ⟨q6, q7⟩ := FC.out.2.2.2.q1))
  go_ret
  exact ⟨rfl, FC.out.below⟩
theorem tight9_yes (o : Int) (k a b c d x y z v : Nat) (h p0 p1 p2 p3 : Bool) (kw : IntKind.i64.wrap ((k : Int) % 6) = (k : Int) % 6) (kc : 1 + (k : Int) % 6 = o) (T : Hid (Nots w)) (R1 : Hid (∀ W, Hid (Nots W) → Ans 10 #[.int .i64 o, .agg #[.int .u64 (a : Int), .int .u64 (b : Int)], .agg #[.int .u64 (c : Int), .int .u64 (d : Int)], .bool h] (.tuple #[.agg #[.int .u64 (x : Int), .int .u64 (y : Int)], .agg #[.int .u64 (z : Int), .int .u64 (v : Int)], .bool true, .int .i64 0]) W)) (P0 : Hid (∀ W, Calls Tryd.prog 13 #[.int .i64 o, .int .u64 (x : Int), .int .u64 (z : Int)] W fun e w' => e = .returned (.tuple #[.bool p0, .int .i64 0]) ∧ W = w')) (P1 : Hid (∀ W, Calls Tryd.prog 13 #[.int .i64 o, .int .u64 (y : Int), .int .u64 (z : Int)] W fun e w' => e = .returned (.tuple #[.bool p1, .int .i64 0]) ∧ W = w')) (P2 : Hid (∀ W, Calls Tryd.prog 13 #[.int .i64 o, .int .u64 (x : Int), .int .u64 (v : Int)] W fun e w' => e = .returned (.tuple #[.bool p2, .int .i64 0]) ∧ W = w')) (P3 : Hid (∀ W, Calls Tryd.prog 13 #[.int .i64 o, .int .u64 (y : Int), .int .u64 (v : Int)] W fun e w' => e = .returned (.tuple #[.bool p3, .int .i64 0]) ∧ W = w')) (hf : (p0 == h || p1 == h || p2 == h || p3 == h) = true) : Ans 6 #[.int .u8 (k : Int), .agg #[.int .u64 (a : Int), .int .u64 (b : Int)], .agg #[.int .u64 (c : Int), .int .u64 (d : Int)], .bool h] (.bool true) w := by
  have HF := Lib.hid hf
  clear hf
  have SH := Lib.hid (fun W TW => shown_any (w := W) TW)
  have FC := Lib.hid (Fr.p2 w a b c d)
  go_enter Tryd.func6, Tryd.ntmps6
  go_wp2_with (first
    | (go_at_call 9; (with_reducible refine (SH.out _ (Lib.hid (T.out.below FC.out.below T.out.lt))).mono ?_); rintro e wc ⟨rfl, hbc⟩; have FC := Lib.hid (FC.out.step hbc); clear hbc; (try clear q0 q1); obtain ⟨q0, q1⟩ := FC.out.q1; (try clear q2 q3); obtain ⟨q2, q3⟩ := FC.out.2.q1)
    | (go_at_call 10; (with_reducible refine (R1.out _ (Lib.hid (T.out.below FC.out.below T.out.lt))).mono ?_); rintro e wc ⟨rfl, hbc⟩; have FC := Lib.hid ((FC.out.step hbc).put2 x y z v); clear hbc; (try clear q0 q1); obtain ⟨q0, q1⟩ := FC.out.q1; (try clear q2 q3); obtain ⟨q2, q3⟩ := FC.out.2.q1; (try clear q4 q5); obtain ⟨q4, q5⟩ := FC.out.2.2.q1; (try clear q6 q7); obtain ⟨q6, q7⟩ := FC.out.2.2.2.q1))
  go_loop [15, 16] (fun f i => ∃ q : Bool, f = .bool q ∧ ((i = .int .i64 0 ∧ Hid (q = false)) ∨ (i = .int .i64 1 ∧ Hid (q = (p0 == h))) ∨ (i = .int .i64 2 ∧ Hid (q = (p0 == h || p1 == h))) ∨ (i = .int .i64 3 ∧ Hid (q = (p0 == h || p1 == h || p2 == h))) ∨ (i = .int .i64 4 ∧ Hid (q = (p0 == h || p1 == h || p2 == h || p3 == h))))) (fun _ i => 4 - (intOf i).toNat)
  case atStart => exact ⟨false, rfl, .inl ⟨rfl, Lib.hid rfl⟩⟩
  case round =>
    obtain ⟨q, rfl, hr⟩ := hrel
    rcases hr with ⟨rfl, Q⟩ | ⟨rfl, Q⟩ | ⟨rfl, Q⟩ | ⟨rfl, Q⟩ | ⟨rfl, Q⟩
    · cases q
      · go_wp2_with (go_at_call 13; (with_reducible refine (P0.out _).mono ?_); rintro e wh ⟨rfl, rfl⟩)
        go_round
        case rel => exact ⟨p0 == h, rfl, .inr (.inl ⟨rfl, Lib.hid (by have := Q.out; revert this; cases p0 == h <;> cases p1 == h <;> cases p2 == h <;> cases p3 == h <;> decide)⟩)⟩
        case measure => simp [intOf]
      · go_wp2_with (go_at_call 13; (with_reducible refine (P0.out _).mono ?_); rintro e wh ⟨rfl, rfl⟩)
        go_round
        case rel => exact ⟨true, rfl, .inr (.inl ⟨rfl, Lib.hid (by have := Q.out; revert this; cases p0 == h <;> cases p1 == h <;> cases p2 == h <;> cases p3 == h <;> decide)⟩)⟩
        case measure => simp [intOf]
    · cases q
      · go_wp2_with (go_at_call 13; (with_reducible refine (P1.out _).mono ?_); rintro e wh ⟨rfl, rfl⟩)
        go_round
        case rel => exact ⟨p1 == h, rfl, .inr (.inr (.inl ⟨rfl, Lib.hid (by have := Q.out; revert this; cases p0 == h <;> cases p1 == h <;> cases p2 == h <;> cases p3 == h <;> decide)⟩))⟩
        case measure => simp [intOf]
      · go_wp2_with (go_at_call 13; (with_reducible refine (P1.out _).mono ?_); rintro e wh ⟨rfl, rfl⟩)
        go_round
        case rel => exact ⟨true, rfl, .inr (.inr (.inl ⟨rfl, Lib.hid (by have := Q.out; revert this; cases p0 == h <;> cases p1 == h <;> cases p2 == h <;> cases p3 == h <;> decide)⟩))⟩
        case measure => simp [intOf]
    · cases q
      · go_wp2_with (go_at_call 13; (with_reducible refine (P2.out _).mono ?_); rintro e wh ⟨rfl, rfl⟩)
        go_round
        case rel => exact ⟨p2 == h, rfl, .inr (.inr (.inr (.inl ⟨rfl, Lib.hid (by have := Q.out; revert this; cases p0 == h <;> cases p1 == h <;> cases p2 == h <;> cases p3 == h <;> decide)⟩)))⟩
        case measure => simp [intOf]
      · go_wp2_with (go_at_call 13; (with_reducible refine (P2.out _).mono ?_); rintro e wh ⟨rfl, rfl⟩)
        go_round
        case rel => exact ⟨true, rfl, .inr (.inr (.inr (.inl ⟨rfl, Lib.hid (by have := Q.out; revert this; cases p0 == h <;> cases p1 == h <;> cases p2 == h <;> cases p3 == h <;> decide)⟩)))⟩
        case measure => simp [intOf]
    · cases q
      · go_wp2_with (go_at_call 13; (with_reducible refine (P3.out _).mono ?_); rintro e wh ⟨rfl, rfl⟩)
        go_round
        case rel => exact ⟨p3 == h, rfl, .inr (.inr (.inr (.inr (⟨rfl, Lib.hid (by have := Q.out; revert this; cases p0 == h <;> cases p1 == h <;> cases p2 == h <;> cases p3 == h <;> decide)⟩))))⟩
        case measure => simp [intOf]
      · go_wp2_with (go_at_call 13; (with_reducible refine (P3.out _).mono ?_); rintro e wh ⟨rfl, rfl⟩)
        go_round
        case rel => exact ⟨true, rfl, .inr (.inr (.inr (.inr (⟨rfl, Lib.hid (by have := Q.out; revert this; cases p0 == h <;> cases p1 == h <;> cases p2 == h <;> cases p3 == h <;> decide)⟩))))⟩
        case measure => simp [intOf]
    · have e := Q.out
      rw [HF.out] at e
      subst e
      go_wp2_with fail
      go_ret
      exact ⟨rfl, FC.out.below⟩
theorem tight9_nat (k : Nat) (s t : Sp) (h : Bool) (hs : s.ok) (ht : t.ok) (T : Hid (Nots w)) : Ans 6 #[.int .u8 (k : Int), spv s, spv t, .bool h] (.bool true) w := by
  obtain ⟨o, ho⟩ : ∃ o : Int, o = 1 + (k : Int) % 6 := ⟨_, rfl⟩
  have ho1 : 1 ≤ o ∧ o ≤ 6 := by omega
  have kw : IntKind.i64.wrap ((k : Int) % 6) = (k : Int) % 6 := IntWalk.i64_in _ (by omega)
  have kc : 1 + (k : Int) % 6 = o := ho.symm
  clear ho
  have R1 := fun W TW => refine_any (w := W) o s t h hs ht TW
  by_cases f : fits o s t
  · rw [show brE o s t = 0 from if_pos f] at R1
    cases k1 : (br o s t h).can
    · rw [k1] at R1
      exact tight9_no o k s.lo s.hi t.lo t.hi _ _ _ _ h kw kc T (Lib.hid R1)
    · have ok := l_ok (c := o) (h := h) hs ht
      have g := br_tight s t h ho1 k1
      rw [k1] at R1
      generalize br o s t h = r at R1 ok g
      have H := fun (x y : Nat) (hx : x < 18446744073709551616) (hy : y < 18446744073709551616) (W : World) => holds_any (w := W) o x y hx hy
      rw [show hdE o = 0 by unfold hdE; rw [if_pos (by omega)]] at H
      refine tight9_yes o k s.lo s.hi t.lo t.hi r.u.lo r.u.hi r.v.lo r.v.hi h _ _ _ _ kw kc T (Lib.hid R1) (Lib.hid (H _ _ ok.1.1 ok.2.1)) (Lib.hid (H _ _ ok.1.2 ok.2.1)) (Lib.hid (H _ _ ok.1.1 ok.2.2)) (Lib.hid (H _ _ ok.1.2 ok.2.2)) ?_
      simp only [Bool.or_eq_true, beq_iff_eq]
      rcases g with g | g | g | g
      · exact .inl (.inl (.inl g))
      · exact .inl (.inl (.inr g))
      · exact .inl (.inr g)
      · exact .inr g
  · rw [show brE o s t = 1 from if_neg f] at R1
    exact tight9_bad o k s.lo s.hi t.lo t.hi _ _ _ _ h _ kw kc T (Lib.hid R1)
theorem tight9_row (x0 : Int) (s t : Sp) (h : Bool) (w : World) (h0 : (Lit.int .u8 x0).wf = true) (hs : s.ok) (ht : t.ok) (hT : Nots w) (_hB : True) :
    Calls Tryd.prog 6 #[.int .u8 x0, spv s, spv t, .bool h] w fun e w' => e = .returned (.bool true) ∧ Below w.heap.size w w' := by
  obtain ⟨k, rfl, -⟩ := nat_u8 h0
  exact tight9_nat k s t h hs ht (Lib.hid hT)
end
end Go.Proofs.YticgehmpfgdbhaaDoor
