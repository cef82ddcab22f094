/- The contracts of branch's small steps: isSingle, refineBelow, refineNotAbove, without. Conditions: the numbers have at most 64 bits. -/
import Derived.Test.YticgehmpfgdbhaaDoorBrWords
namespace Go.Proofs.YticgehmpfgdbhaaDoor
open Go.RowKit
set_option maxRecDepth 100000
set_option maxHeartbeats 4000000
section
variable {w : World}
theorem bsingle_any (s : Sp) : Ans 17 #[spv s] (.bool (isOne s)) w := by
  obtain ⟨a, b⟩ := s
  unfold spv isOne
  by_cases h : a = b
  · subst h
    go_enter Tryd.func17, Tryd.ntmps17
    go_wp2_with fail
    go_ret
    exact ⟨by simp, by go_grown⟩
  · have h' : ((a : Int) == b) = false := by simp; omega
    have HD := Lib.hid (show decide (a = b) = false by simpa using h)
    dsimp only
    rw [HD.out]
    clear h
    go_enter Tryd.func17, Tryd.ntmps17
    go_wp2_with fail
    go_ret
    exact ⟨rfl, by go_grown⟩
theorem bel_no (a b c d : Nat) (h : d ≤ a) : Ans 27 #[.agg #[.int .u64 (a : Int), .int .u64 (b : Int)], .agg #[.int .u64 (c : Int), .int .u64 (d : Int)]] (.tuple #[spv sp0, spv sp0, .bool false]) w := by
  go_enter Tryd.func27, Tryd.ntmps27
  go_wp2_with fail
  go_region
  all_goals
    go_wp2_with fail
    have FC := (Fr.f4 w a b c d).drew
    exact done3 (b := no3) rfl rfl rfl rfl rfl FC.2.1 FC.1 rfl rfl rfl rfl rfl FC.below
theorem bel_ok (a b c d x y : Nat) (h : ¬ d ≤ a) (hx : x = min b (d - 1)) (hy : y = max c (a + 1)) (hd : d < 18446744073709551616) : Ans 27 #[.agg #[.int .u64 (a : Int), .int .u64 (b : Int)], .agg #[.int .u64 (c : Int), .int .u64 (d : Int)]] (.tuple #[spv ⟨a, x⟩, spv ⟨y, d⟩, .bool true]) w := by
  have W1 := Lib.hid (show IntKind.u64.wrap ((d : Int) - 1) = ((d - 1 : Nat) : Int) by rw [IntKind.wrap_u64]; omega)
  have W2 := Lib.hid (show IntKind.u64.wrap ((a : Int) + 1) = ((a + 1 : Nat) : Int) by rw [IntKind.wrap_u64]; omega)
  have wd := W1.out
  have wa := W2.out
  clear hd W1 W2
  generalize hp : d - 1 = p at *
  generalize hq : a + 1 = q at *
  clear hp hq
  by_cases h1 : p < b <;> by_cases h2 : c < q
  · obtain rfl : p = x := by omega
    obtain rfl : q = y := by omega
    clear hx hy
    go_enter Tryd.func27, Tryd.ntmps27
    go_wp2_with fail
    go_region
    all_goals
      go_wp2_with fail
      have FC := (Fr.p4 w a b c d a p q d).drew
      exact done3 (b := ⟨⟨a, p⟩, ⟨q, d⟩, true⟩) rfl rfl rfl rfl rfl FC.2.2.1 FC.2.2.2.1 rfl rfl rfl rfl rfl FC.below
  · obtain rfl : p = x := by omega
    obtain rfl : c = y := by omega
    clear hx hy
    go_enter Tryd.func27, Tryd.ntmps27
    go_wp2_with fail
    go_region
    all_goals
      go_wp2_with fail
      have FC := (Fr.p4 w a b c d a p c d).drew
      exact done3 (b := ⟨⟨a, p⟩, ⟨c, d⟩, true⟩) rfl rfl rfl rfl rfl FC.2.2.1 FC.2.2.2.1 rfl rfl rfl rfl rfl FC.below
  · obtain rfl : b = x := by omega
    obtain rfl : q = y := by omega
    clear hx hy
    go_enter Tryd.func27, Tryd.ntmps27
    go_wp2_with fail
    go_region
    all_goals
      go_wp2_with fail
      have FC := (Fr.p4 w a b c d a b q d).drew
      exact done3 (b := ⟨⟨a, b⟩, ⟨q, d⟩, true⟩) rfl rfl rfl rfl rfl FC.2.2.1 FC.2.2.2.1 rfl rfl rfl rfl rfl FC.below
  · obtain rfl : b = x := by omega
    obtain rfl : c = y := by omega
    clear hx hy
    go_enter Tryd.func27, Tryd.ntmps27
    go_wp2_with fail
    go_region
    all_goals
      go_wp2_with fail
      have FC := (Fr.p4 w a b c d a b c d).drew
      exact done3 (b := ⟨⟨a, b⟩, ⟨c, d⟩, true⟩) rfl rfl rfl rfl rfl FC.2.2.1 FC.2.2.2.1 rfl rfl rfl rfl rfl FC.below
theorem nab_no (a b c d : Nat) (h : d < a) : Ans 28 #[.agg #[.int .u64 (a : Int), .int .u64 (b : Int)], .agg #[.int .u64 (c : Int), .int .u64 (d : Int)]] (.tuple #[spv sp0, spv sp0, .bool false]) w := by
  go_enter Tryd.func28, Tryd.ntmps28
  go_wp2_with fail
  go_region
  all_goals
    go_wp2_with fail
    have FC := (Fr.f4 w a b c d).drew
    exact done3 (b := no3) rfl rfl rfl rfl rfl FC.2.1 FC.1 rfl rfl rfl rfl rfl FC.below
theorem nab_ok (a b c d x y : Nat) (h : ¬ d < a) (hx : x = min b d) (hy : y = max c a) : Ans 28 #[.agg #[.int .u64 (a : Int), .int .u64 (b : Int)], .agg #[.int .u64 (c : Int), .int .u64 (d : Int)]] (.tuple #[spv ⟨a, x⟩, spv ⟨y, d⟩, .bool true]) w := by
  by_cases h1 : d < b <;> by_cases h2 : c < a
  · obtain rfl : d = x := by omega
    obtain rfl : a = y := by omega
    clear hx hy
    go_enter Tryd.func28, Tryd.ntmps28
    go_wp2_with fail
    go_region
    all_goals
      go_wp2_with fail
      have FC := (Fr.p4 w a b c d a d a d).drew
      exact done3 (b := ⟨⟨a, d⟩, ⟨a, d⟩, true⟩) rfl rfl rfl rfl rfl FC.2.2.1 FC.2.2.2.1 rfl rfl rfl rfl rfl FC.below
  · obtain rfl : d = x := by omega
    obtain rfl : c = y := by omega
    clear hx hy
    go_enter Tryd.func28, Tryd.ntmps28
    go_wp2_with fail
    go_region
    all_goals
      go_wp2_with fail
      have FC := (Fr.p4 w a b c d a d c d).drew
      exact done3 (b := ⟨⟨a, d⟩, ⟨c, d⟩, true⟩) rfl rfl rfl rfl rfl FC.2.2.1 FC.2.2.2.1 rfl rfl rfl rfl rfl FC.below
  · obtain rfl : b = x := by omega
    obtain rfl : a = y := by omega
    clear hx hy
    go_enter Tryd.func28, Tryd.ntmps28
    go_wp2_with fail
    go_region
    all_goals
      go_wp2_with fail
      have FC := (Fr.p4 w a b c d a b a d).drew
      exact done3 (b := ⟨⟨a, b⟩, ⟨a, d⟩, true⟩) rfl rfl rfl rfl rfl FC.2.2.1 FC.2.2.2.1 rfl rfl rfl rfl rfl FC.below
  · obtain rfl : b = x := by omega
    obtain rfl : c = y := by omega
    clear hx hy
    go_enter Tryd.func28, Tryd.ntmps28
    go_wp2_with fail
    go_region
    all_goals
      go_wp2_with fail
      have FC := (Fr.p4 w a b c d a b c d).drew
      exact done3 (b := ⟨⟨a, b⟩, ⟨c, d⟩, true⟩) rfl rfl rfl rfl rfl FC.2.2.1 FC.2.2.2.1 rfl rfl rfl rfl rfl FC.below
theorem blw_any (s t : Sp) (ht : t.ok) : Ans 27 #[spv s, spv t] (.tuple #[spv (blw s t).u, spv (blw s t).v, .bool (blw s t).can]) w := by
  obtain ⟨a, b⟩ := s
  obtain ⟨c, d⟩ := t
  unfold blw
  dsimp only
  by_cases h : d ≤ a
  · rw [if_pos h]
    exact bel_no a b c d h
  · rw [if_neg h]
    exact bel_ok a b c d _ _ h rfl rfl ht.2
theorem nab_any (s t : Sp) : Ans 28 #[spv s, spv t] (.tuple #[spv (nab s t).u, spv (nab s t).v, .bool (nab s t).can]) w := by
  obtain ⟨a, b⟩ := s
  obtain ⟨c, d⟩ := t
  unfold nab
  dsimp only
  by_cases h : d < a
  · rw [if_pos h]
    exact nab_no a b c d h
  · rw [if_neg h]
    exact nab_ok a b c d _ _ h rfl rfl
end
end Go.Proofs.YticgehmpfgdbhaaDoor
