/- The contract of the document's examples ('shown'): it returns true, and nothing that was there has turned. Condition: the table of widths lies in its block. -/
import Derived.Test.YthklbkgehfgdgaaDoorChBag
namespace Go.Proofs.YthklbkgehfgdgaaDoor
open Go.RowKit

abbrev E0 : Nat → List Nat := fun _ => []
abbrev E1 : Nat → List Nat := gP E0 8 32 true
abbrev E2 : Nat → List Nat := gP E1 8 64 true
abbrev E3 : Nat → List Nat := gP E2 16 32 true
abbrev E4 : Nat → List Nat := gR E3 8 32
set_option maxRecDepth 100000 in
theorem shown_any10 {w : World} (hT : Tab w) (hB : 0 < w.heap.size) : Calls Tryd.prog 9 #[] w fun e w' => e = .returned (.bool true) ∧ Below w.heap.size w w' := by
  have n32 : N14 32 := ⟨0, by omega, rfl⟩
  have n64 : N14 64 := ⟨2, by omega, rfl⟩
  have NW := Lib.hid (cs_new (w0 := w) hT hB (Below.refl _ _))
  clear hT
  go_enter Tryd.func9, Tryd.ntmps9
  go_wp2_with fail
  refine NW.out.mono ?_
  rintro e w1 ⟨p, g, rfl, hc, hb⟩
  have P1 : Hid (Calls Tryd.prog 14 #[.pointer (some ⟨p, 0, none⟩), .int .i64 8, .int .i64 32, .bool true] w1 (Ct w w1 p g E1 (.int .i64 0))) := Lib.hid (cs_push hc true (h := 8) (by decide) n32)
  clear hc hb
  go_wp2_with fail
  refine P1.out.mono ?_
  rintro e w2 ⟨rfl, f2, hc, hf⟩
  have P2 : Hid (Calls Tryd.prog 14 #[.pointer (some ⟨p, 0, none⟩), .int .i64 8, .int .i64 64, .bool true] w2 (Ct w w2 p g E2 (.int .i64 0))) := Lib.hid (cs_push hc true (h := 8) (by decide) n64)
  clear hc hf
  go_wp2_with fail
  refine P2.out.mono ?_
  rintro e w3 ⟨rfl, f3, hc, hf⟩
  have P3 := Lib.hid (cs_all hc (h := 8) (by decide))
  have HC := Lib.hid hc
  clear hc hf
  go_wp2_with fail
  refine P3.out.mono ?_
  rintro e w4 ⟨A, cap, rfl, hs, hb⟩
  have e8 : E2 8 = [64, 32] := by decide
  have hl : (E2 8).length = 2 := by rw [e8]; rfl
  rw [e8] at hs
  rw [hl]
  have S4 := Lib.hid hs
  have C4 := HC.out.below hb
  have P4 : Hid (Calls Tryd.prog 14 #[.pointer (some ⟨p, 0, none⟩), .int .i64 16, .int .i64 32, .bool true] w4 (Ct w w4 p g E3 (.int .i64 8))) := Lib.hid (cs_push C4 true (h := 16) (by decide) n32)
  clear e8 hl hs hb C4
  go_wp2_with fail
  refine P4.out.mono ?_
  rintro e w5 ⟨rfl, f5, hc, hf⟩
  have S5 := Lib.hid (S4.out.keep hf.kx)
  have P5 : Hid (Calls Tryd.prog 18 #[.pointer (some ⟨p, 0, none⟩), .int .i64 8, .int .i64 32] w5 (Ct w w5 p g E4 (.int .i64 0))) := Lib.hid (cs_remove hc (h := 8) (by decide) n32)
  clear hc hf
  go_wp2_with fail
  refine P5.out.mono ?_
  rintro e w6 ⟨rfl, f6, hc, hf⟩
  have S6 := Lib.hid (S5.out.keep hf.kx)
  have P6 : Hid (Calls Tryd.prog 16 #[.pointer (some ⟨p, 0, none⟩), .int .i64 8, .bool false] w6 (Ct w w6 p g (gO E4 8 false) (.tuple #[.int .i64 64, .int .i64 0]))) := Lib.hid (cs_pop hc false (h := 8) (by decide))
  clear hc hf
  go_wp2_with fail
  refine P6.out.mono ?_
  rintro e w7 ⟨rfl, f7, hc, hf⟩
  have S7 := S6.out.keep hf.kx
  obtain ⟨b, o, rfl, _, _, q0⟩ := S7 0 64 rfl
  obtain ⟨b', o', he, _, _, q1⟩ := S7 1 32 rfl
  cases he
  rw [Nat.add_zero] at q0
  have BB := Lib.hid hc.bl
  clear hc hf S7
  go_wp2
  go_ret
  exact ⟨rfl, BB.out⟩
end Go.Proofs.YthklbkgehfgdgaaDoor
