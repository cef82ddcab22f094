/- InsnChecks' walk. Conditions: the tables lie in their blocks; the instruction's numbers fit their kinds. -/
import Derived.Test.YtcedjjolikmbbaaDoorJText
import Derived.Test.YtcedjjolikmbbaaDoorIShown
namespace Go.Proofs.YtcedjjolikmbbaaDoor
open Go.RowKit
set_option maxRecDepth 100000
set_option maxHeartbeats 2000000
section
variable {w : World}
theorem checks_walk (i : In) (hi : i.ok) (T : Hid (Tabs w)) : Calls Tryd.prog 3 #[iv i] w fun e w' => e = .returned (.bool true) ∧ Below w.heap.size w w' := by
  have CK := Lib.hid (fun (W : World) (T : Hid (Tabs W)) => check_any T i hi)
  have RCK := Lib.hid (fun (W : World) => rcheck6_any (w := W) i hi)
  have TX := Lib.hid (fun (W : World) (T : Hid (Tabs W)) => text_any T i hi)
  have RTX := Lib.hid (fun (W : World) => rtext_any (w := W) i hi)
  rw [rck_ck i hi] at RCK
  obtain ⟨S, hS⟩ : ∃ S, tx i = S := ⟨_, rfl⟩
  obtain ⟨E, hE⟩ : ∃ E, ck i = E := ⟨_, rfl⟩
  rw [hS, hE] at TX RTX
  rw [hE] at CK RCK
  clear hS hE hi
  obtain ⟨op, a, b, c, im⟩ := i
  simp only [iv] at CK TX RCK RTX ⊢
  unfold sv at TX RTX
  go_enter Tryd.func3, Tryd.ntmps3
  obtain ⟨w0, hw0⟩ : ∃ w0, w0 = w.alloc (.cells #[.int .u8 (op : Int), .int .u8 (a : Int), .int .u8 (b : Int), .int .u8 (c : Int), .int .u32 (im : Int)] 24) := ⟨_, rfl⟩
  have X0 := Lib.hid (show Below w.heap.size w w0 by rw [hw0]; go_grown)
  have KA := Lib.hid (show Blk w0 w.heap.size 24 #[.int .u8 (op : Int), .int .u8 (a : Int), .int .u8 (b : Int), .int .u8 (c : Int), .int .u32 (im : Int)] by rw [hw0]; exact Blk.new _ _ _)
  have T0 := Lib.hid (T.out.out X0.out)
  have HW0 := Lib.hid hw0
  clear hw0
  go_wp2_with (go_at_call 10; rw [← HW0.out]; (with_reducible refine (shown_any T0).mono ?_); rintro e w1 ⟨rfl, hb1⟩; have X1 := Lib.hid (X0.out.trans (hb1.mono X0.out.size)); have T1 := Lib.hid (T.out.out X1.out); have KA1 := Lib.hid (KA.out.below hb1 KA.out.lt); obtain ⟨q0, q1, q2, q3, q4, -⟩ := ten KA1.out; clear hb1)
  go_wp2_with (go_at_call 11; (with_reducible refine (TX.out _ T1).mono ?_); rintro e w2 ⟨rfl, hb2⟩; clear q0 q1 q2 q3 q4; have X2 := Lib.hid (X1.out.trans (hb2.mono X1.out.size)); have KA2 := Lib.hid (KA1.out.below hb2 KA1.out.lt); obtain ⟨q0, q1, q2, q3, q4, -⟩ := ten KA2.out; clear hb2)
  go_wp2_with (go_at_call 12; (with_reducible refine (RTX.out _).mono ?_); rintro e w3 ⟨rfl, hb3⟩; clear q0 q1 q2 q3 q4; have X3 := Lib.hid (X2.out.trans (hb3.mono X2.out.size)); have KA3 := Lib.hid (KA2.out.below hb3 KA2.out.lt); clear hb3)
  have Y3 := Lib.hid X3.out.drew
  have T3 := Lib.hid (T.out.out Y3.out)
  have L3 := Lib.hid (KA3.out.below (Below.drew (Below.refl _ _)) KA3.out.lt)
  have S0 := Lib.hid (fiveB L3.out)
  go_region_held3 (fun w' => S5 w' w.heap.size (.int .u8 (op : Int)) (.int .u8 (a : Int)) (.int .u8 (b : Int)) (.int .u8 (c : Int)) (.int .u32 (im : Int))) (first | (with_reducible exact S0.out) | (with_reducible exact S4.out) | (with_reducible exact S6.out) | go_keep) (first
    | (go_at_call 13; (with_reducible refine (CK.out _ T3).mono ?_); rintro e w4 ⟨rfl, hb4⟩; have Y4 := Lib.hid (Y3.out.trans (hb4.mono Y3.out.size)); have L4 := Lib.hid (L3.out.below hb4 L3.out.lt); have S4 := Lib.hid (fiveB L4.out); clear hb4)
    | (go_at_call 14; (with_reducible refine (RCK.out _).mono ?_); rintro e w5 ⟨rfl, hb5⟩; have Y5 := Lib.hid (Y4.out.trans (hb5.mono Y4.out.size)); have L5 := Lib.hid (L4.out.below hb5 L4.out.lt); have S6 := Lib.hid (fiveB L5.out); clear hb5))
  all_goals
    go_wp2_with fail
    go_ret
    exact ⟨rfl, Y5.out⟩
theorem checks_row (i : In) (W : World) (hi : i.ok) (T : Tabs W) : Calls Tryd.prog 3 #[iv i] W fun e w' => e = .returned (.bool true) ∧ Below W.heap.size W w' := checks_walk i hi (Lib.hid T)
end
end Go.Proofs.YtcedjjolikmbbaaDoor
