/- The walk of BranchRefines: it returns true, and nothing that was there has turned. Conditions: the numbers have at most 64 bits; Not's table lies in its block. -/
import Derived.Test.YticgehmpfgdbhaaDoorBrShown
import Derived.Test.YticgehmpfgdbhaaDoorBrRRefine
import Derived.Test.YticgehmpfgdbhaaDoorSpOpen
namespace Go.Proofs.YticgehmpfgdbhaaDoor
open Go.RowKit
set_option maxRecDepth 100000
set_option maxHeartbeats 4000000
section
variable {w : World}
theorem refines9_nat (n : Int) (a b c d : Nat) (h : Bool) (hs : (⟨a, b⟩ : Sp).ok) (ht : (⟨c, d⟩ : Sp).ok) (T : Hid (Nots w)) :
    Ans 3 #[.int .i64 n, .agg #[.int .u64 (a : Int), .int .u64 (b : Int)], .agg #[.int .u64 (c : Int), .int .u64 (d : Int)], .bool h] (.bool true) w := by
  have SH := Lib.hid (fun W TW => shown_any (w := W) TW)
  have R1 := Lib.hid (fun W TW => refine_any (w := W) n ⟨a, b⟩ ⟨c, d⟩ h hs ht TW)
  have R2 := Lib.hid (fun W => rrefine_any (w := W) n ⟨a, b⟩ ⟨c, d⟩ h hs ht)
  clear hs ht
  generalize br n ⟨a, b⟩ ⟨c, d⟩ h = r at R1 R2
  generalize brE n ⟨a, b⟩ ⟨c, d⟩ = E at R1 R2
  obtain ⟨⟨x, y⟩, ⟨z, v⟩, k⟩ := r
  simp only [spv] at R1 R2
  have FC := Lib.hid (Fr.p2 w a b c d)
  go_enter Tryd.func3, Tryd.ntmps3
  go_wp2_with (first
    | (go_at_call 9; (with_reducible refine (SH.out _ (Lib.hid (T.out.below FC.out.below T.out.lt))).mono ?_); rintro e wc ⟨rfl, hbc⟩; have FC := Lib.hid (FC.out.step hbc); clear hbc; (try clear q0 q1); obtain ⟨q0, q1⟩ := FC.out.q1; (try clear q2 q3); obtain ⟨q2, q3⟩ := FC.out.2.q1)
    | (go_at_call 10; (with_reducible refine (R1.out _ (Lib.hid (T.out.below FC.out.below T.out.lt))).mono ?_); rintro e wc ⟨rfl, hbc⟩; have FC := Lib.hid ((FC.out.step hbc).put2 x y z v); clear hbc; (try clear q0 q1); obtain ⟨q0, q1⟩ := FC.out.q1; (try clear q2 q3); obtain ⟨q2, q3⟩ := FC.out.2.q1)
    | (go_at_call 11; (with_reducible refine (R2.out _).mono ?_); rintro e wc ⟨rfl, hbc⟩; have FC := Lib.hid ((FC.out.step hbc).put2 x y z v); clear hbc; (try clear q4 q5); obtain ⟨q4, q5⟩ := FC.out.2.2.q1; (try clear q6 q7); obtain ⟨q6, q7⟩ := FC.out.2.2.2.q1; (try clear q8 q9); obtain ⟨q8, q9⟩ := FC.out.2.2.2.2.q1; (try clear q10 q11); obtain ⟨q10, q11⟩ := FC.out.2.2.2.2.2.q1))
  go_ret
  exact ⟨rfl, FC.out.below⟩
theorem refines9_row (x0 : Int) (s t : Sp) (h : Bool) (w : World) (_h0 : (Lit.int .i64 x0).wf = true) (hs : s.ok) (ht : t.ok) (hT : Nots w) (_hB : True) :
    Calls Tryd.prog 3 #[.int .i64 x0, spv s, spv t, .bool h] w fun e w' => e = .returned (.bool true) ∧ Below w.heap.size w w' :=
  refines9_nat x0 s.lo s.hi t.lo t.hi h hs ht (Lib.hid hT)
end
end Go.Proofs.YticgehmpfgdbhaaDoor
