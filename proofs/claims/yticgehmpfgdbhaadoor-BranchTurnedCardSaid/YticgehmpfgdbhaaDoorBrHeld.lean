/- The contract of branch.refineHeld. Conditions: the numbers have at most 64 bits; the spans may be, not both are single. -/
import Derived.Test.YticgehmpfgdbhaaDoorBrWo
import Derived.Test.YticgehmpfgdbhaaDoorSpMeet
namespace Go.Proofs.YticgehmpfgdbhaaDoor
open Go.RowKit
set_option maxRecDepth 100000
set_option maxHeartbeats 4000000
section
variable {w : World}
theorem held_eq0 (a b c d x y : Nat) (M : Hid (∀ W, Ans 25 #[.agg #[.int .u64 (a : Int), .int .u64 (b : Int)], .agg #[.int .u64 (c : Int), .int .u64 (d : Int)]] (.tuple #[spv ⟨x, y⟩, .int .i64 0]) W)) : Ans 19 #[.int .i64 1, .agg #[.int .u64 (a : Int), .int .u64 (b : Int)], .agg #[.int .u64 (c : Int), .int .u64 (d : Int)]] (.tuple #[spv ⟨x, y⟩, spv ⟨x, y⟩, .bool true]) w := by
  simp only [spv] at M
  go_enter Tryd.func19, Tryd.ntmps19
  go_wp2_with (go_at_call 25; (with_reducible refine (M.out _).mono ?_); rintro e wc ⟨rfl, hbc⟩; have FC := Lib.hid ((Fr.z4 w a b c d).step hbc); clear hbc; have n1 : ¬ w.heap.size + 1 + 1 = wc.heap.size := fun h => absurd FC.out.2.2.2.1.lt (by omega); have n2 : ¬ w.heap.size + 1 + 1 + 1 = wc.heap.size := fun h => absurd FC.out.2.2.2.1.lt (by omega); have FC := Lib.hid (FC.out.put x y); obtain ⟨q4, q5⟩ := FC.out.2.2.q1; obtain ⟨q6, q7⟩ := FC.out.2.2.2.q1; obtain ⟨z4, z5⟩ := FC.out.2.2.i1; obtain ⟨z6, z7⟩ := FC.out.2.2.2.i1)
  go_region
  all_goals
    go_wp2_with fail
    have K := put4 FC.out.2.2.1 FC.out.2.2.2.1 (by omega) (.int .u64 (x : Int)) (.int .u64 (y : Int)) (.int .u64 (x : Int)) (.int .u64 (y : Int))
    exact done3 (b := ⟨⟨x, y⟩, ⟨x, y⟩, true⟩) rfl rfl rfl rfl rfl (drewB K.1) (drewB K.2) rfl rfl rfl rfl rfl (below4 FC.out.below (by omega) (by omega) _ _ _ _).drew
theorem held_eq6 (a b c d x y : Nat) (M : Hid (∀ W, Ans 25 #[.agg #[.int .u64 (a : Int), .int .u64 (b : Int)], .agg #[.int .u64 (c : Int), .int .u64 (d : Int)]] (.tuple #[spv ⟨x, y⟩, .int .i64 6]) W)) : Ans 19 #[.int .i64 1, .agg #[.int .u64 (a : Int), .int .u64 (b : Int)], .agg #[.int .u64 (c : Int), .int .u64 (d : Int)]] (.tuple #[spv ⟨x, y⟩, spv ⟨x, y⟩, .bool false]) w := by
  simp only [spv] at M
  go_enter Tryd.func19, Tryd.ntmps19
  go_wp2_with (go_at_call 25; (with_reducible refine (M.out _).mono ?_); rintro e wc ⟨rfl, hbc⟩; have FC := Lib.hid ((Fr.z4 w a b c d).step hbc); clear hbc; have n1 : ¬ w.heap.size + 1 + 1 = wc.heap.size := fun h => absurd FC.out.2.2.2.1.lt (by omega); have n2 : ¬ w.heap.size + 1 + 1 + 1 = wc.heap.size := fun h => absurd FC.out.2.2.2.1.lt (by omega); have FC := Lib.hid (FC.out.put x y); obtain ⟨q4, q5⟩ := FC.out.2.2.q1; obtain ⟨q6, q7⟩ := FC.out.2.2.2.q1; obtain ⟨z4, z5⟩ := FC.out.2.2.i1; obtain ⟨z6, z7⟩ := FC.out.2.2.2.i1)
  go_region
  all_goals
    go_wp2_with fail
    have K := put4 FC.out.2.2.1 FC.out.2.2.2.1 (by omega) (.int .u64 (x : Int)) (.int .u64 (y : Int)) (.int .u64 (x : Int)) (.int .u64 (y : Int))
    exact done3 (b := ⟨⟨x, y⟩, ⟨x, y⟩, false⟩) rfl rfl rfl rfl rfl (drewB K.1) (drewB K.2) rfl rfl rfl rfl rfl (below4 FC.out.below (by omega) (by omega) _ _ _ _).drew
theorem held_ne (a b c d x y z v : Nat) (M1 : Hid (∀ W, Ans 26 #[.agg #[.int .u64 (a : Int), .int .u64 (b : Int)], .agg #[.int .u64 (c : Int), .int .u64 (d : Int)]] (spv ⟨x, y⟩) W)) (M2 : Hid (∀ W, Ans 26 #[.agg #[.int .u64 (c : Int), .int .u64 (d : Int)], .agg #[.int .u64 (a : Int), .int .u64 (b : Int)]] (spv ⟨z, v⟩) W)) : Ans 19 #[.int .i64 2, .agg #[.int .u64 (a : Int), .int .u64 (b : Int)], .agg #[.int .u64 (c : Int), .int .u64 (d : Int)]] (.tuple #[spv ⟨x, y⟩, spv ⟨z, v⟩, .bool true]) w := by
  simp only [spv] at M1 M2
  have FC := Lib.hid (Fr.z4 w a b c d).drew
  have SC := Lib.hid FC.out.s6p
  go_enter Tryd.func19, Tryd.ntmps19
  go_wp2_with fail
  go_region_held3 (fun w' => S6 w' w.heap.size a b c d) (first | (with_reducible exact SC.out) | (with_reducible exact SZ.out _ _ _ _) | (with_reducible exact SY.out _ _) | go_keep) (first | (go_at_call 26; (with_reducible refine (M1.out _).mono ?_); rintro e wc ⟨rfl, hbc⟩; have FC := Lib.hid (FC.out.step hbc); clear hbc; (try clear q4 q5); obtain ⟨q4, q5⟩ := FC.out.2.2.q1; (try clear q6 q7); obtain ⟨q6, q7⟩ := FC.out.2.2.2.q1; (try clear z4 z5); obtain ⟨z4, z5⟩ := FC.out.2.2.i1; (try clear z6 z7); obtain ⟨z6, z7⟩ := FC.out.2.2.2.i1; have SC := Lib.hid FC.out.s6p; have SZ := Lib.hid FC.out.s8p; have SY := Lib.hid FC.out.s7) | (go_at_call 26; (with_reducible refine (M2.out _).mono ?_); rintro e wc ⟨rfl, hbc⟩; have FC := Lib.hid (FC.out.step hbc); clear hbc; (try clear q4 q5); obtain ⟨q4, q5⟩ := FC.out.2.2.q1; (try clear q6 q7); obtain ⟨q6, q7⟩ := FC.out.2.2.2.q1; (try clear z4 z5); obtain ⟨z4, z5⟩ := FC.out.2.2.i1; (try clear z6 z7); obtain ⟨z6, z7⟩ := FC.out.2.2.2.i1; have SC := Lib.hid FC.out.s6p; have SZ := Lib.hid FC.out.s8p; have SY := Lib.hid FC.out.s7))
  all_goals
    go_wp2_with fail
    have K := put4 FC.out.2.2.1 FC.out.2.2.2.1 (by omega) (.int .u64 (x : Int)) (.int .u64 (y : Int)) (.int .u64 (z : Int)) (.int .u64 (v : Int))
    exact done3 (b := ⟨⟨x, y⟩, ⟨z, v⟩, true⟩) rfl rfl rfl rfl rfl K.1 K.2 rfl rfl rfl rfl rfl (below4 FC.out.below (by omega) (by omega) _ _ _ _)
theorem held_lt (a b c d x y z v : Nat) (k : Bool) (M : Hid (∀ W, Ans 27 #[.agg #[.int .u64 (a : Int), .int .u64 (b : Int)], .agg #[.int .u64 (c : Int), .int .u64 (d : Int)]] (.tuple #[spv ⟨x, y⟩, spv ⟨z, v⟩, .bool k]) W)) : Ans 19 #[.int .i64 3, .agg #[.int .u64 (a : Int), .int .u64 (b : Int)], .agg #[.int .u64 (c : Int), .int .u64 (d : Int)]] (.tuple #[spv ⟨x, y⟩, spv ⟨z, v⟩, .bool k]) w := by
  simp only [spv] at M
  go_enter Tryd.func19, Tryd.ntmps19
  go_wp2_with (go_at_call 27; (with_reducible refine (M.out _).mono ?_); rintro e wc ⟨rfl, hbc⟩; have FC := Lib.hid ((Fr.z4 w a b c d).step hbc); clear hbc; obtain ⟨q4, q5⟩ := FC.out.2.2.q1; obtain ⟨q6, q7⟩ := FC.out.2.2.2.q1; obtain ⟨z4, z5⟩ := FC.out.2.2.i1; obtain ⟨z6, z7⟩ := FC.out.2.2.2.i1)
  have K := put4 FC.out.2.2.1 FC.out.2.2.2.1 (by omega) (.int .u64 (x : Int)) (.int .u64 (y : Int)) (.int .u64 (z : Int)) (.int .u64 (v : Int))
  exact done3 (b := ⟨⟨x, y⟩, ⟨z, v⟩, k⟩) rfl rfl rfl rfl rfl K.1 K.2 rfl rfl rfl rfl rfl (below4 FC.out.below (by omega) (by omega) _ _ _ _)
theorem held_le (a b c d x y z v : Nat) (k : Bool) (M : Hid (∀ W, Ans 28 #[.agg #[.int .u64 (a : Int), .int .u64 (b : Int)], .agg #[.int .u64 (c : Int), .int .u64 (d : Int)]] (.tuple #[spv ⟨x, y⟩, spv ⟨z, v⟩, .bool k]) W)) : Ans 19 #[.int .i64 4, .agg #[.int .u64 (a : Int), .int .u64 (b : Int)], .agg #[.int .u64 (c : Int), .int .u64 (d : Int)]] (.tuple #[spv ⟨x, y⟩, spv ⟨z, v⟩, .bool k]) w := by
  simp only [spv] at M
  go_enter Tryd.func19, Tryd.ntmps19
  go_wp2_with (go_at_call 28; (with_reducible refine (M.out _).mono ?_); rintro e wc ⟨rfl, hbc⟩; have FC := Lib.hid ((Fr.z4 w a b c d).step hbc); clear hbc; obtain ⟨q4, q5⟩ := FC.out.2.2.q1; obtain ⟨q6, q7⟩ := FC.out.2.2.2.q1; obtain ⟨z4, z5⟩ := FC.out.2.2.i1; obtain ⟨z6, z7⟩ := FC.out.2.2.2.i1)
  have K := put4 FC.out.2.2.1 FC.out.2.2.2.1 (by omega) (.int .u64 (x : Int)) (.int .u64 (y : Int)) (.int .u64 (z : Int)) (.int .u64 (v : Int))
  exact done3 (b := ⟨⟨x, y⟩, ⟨z, v⟩, k⟩) rfl rfl rfl rfl rfl K.1 K.2 rfl rfl rfl rfl rfl (below4 FC.out.below (by omega) (by omega) _ _ _ _)
theorem held_no (n : Int) (a b c d : Nat) (h : ¬ (1 ≤ n ∧ n ≤ 4)) : Ans 19 #[.int .i64 n, .agg #[.int .u64 (a : Int), .int .u64 (b : Int)], .agg #[.int .u64 (c : Int), .int .u64 (d : Int)]] (.tuple #[spv ⟨a, b⟩, spv ⟨c, d⟩, .bool true]) w := by
  have n1 : (n == 1) = false := by simp; omega
  have n2 : (n == 2) = false := by simp; omega
  have n3 : (n == 3) = false := by simp; omega
  have n4 : (n == 4) = false := by simp; omega
  clear h
  go_enter Tryd.func19, Tryd.ntmps19
  go_wp2_with fail
  go_region
  all_goals
    go_wp2_with fail
    have FC := (Fr.p4 w a b c d a b c d).drew
    exact done3 (b := ⟨⟨a, b⟩, ⟨c, d⟩, true⟩) rfl rfl rfl rfl rfl FC.2.2.1 FC.2.2.2.1 rfl rfl rfl rfl rfl FC.below
theorem held_any (n : Int) (s t : Sp) (hs : s.ok) (ht : t.ok) (ms : s.lo ≤ s.hi) (mt : t.lo ≤ t.hi) (ho : ¬ bothOne s t) : Ans 19 #[.int .i64 n, spv s, spv t] (.tuple #[spv (held n s t).u, spv (held n s t).v, .bool (held n s t).can]) w := by
  by_cases h : 1 ≤ n ∧ n ≤ 4
  · rcases (show n = 1 ∨ n = 2 ∨ n = 3 ∨ n = 4 by omega) with rfl | rfl | rfl | rfl
    · have M := Lib.hid (fun W => meet_any (w := W) s t)
      show Ans _ _ (.tuple #[spv (meV s t), spv (meV s t), .bool (decide (meE s t = 0))]) w
      rcases me_cases ms mt with ⟨-, -, e⟩ | ⟨-, -, e⟩
      · rw [e] at M ⊢
        exact held_eq0 s.lo s.hi t.lo t.hi (meV s t).lo (meV s t).hi M
      · rw [e] at M ⊢
        exact held_eq6 s.lo s.hi t.lo t.hi (meV s t).lo (meV s t).hi M
    · exact held_ne s.lo s.hi t.lo t.hi (wo s t).lo (wo s t).hi (wo t s).lo (wo t s).hi (Lib.hid (fun W => wo_any (w := W) s t ho ms hs)) (Lib.hid (fun W => wo_any (w := W) t s (one_turn ho) mt ht))
    · exact held_lt s.lo s.hi t.lo t.hi (blw s t).u.lo (blw s t).u.hi (blw s t).v.lo (blw s t).v.hi (blw s t).can (Lib.hid (fun W => blw_any (w := W) s t ht))
    · exact held_le s.lo s.hi t.lo t.hi (nab s t).u.lo (nab s t).u.hi (nab s t).v.lo (nab s t).v.hi (nab s t).can (Lib.hid (fun W => nab_any (w := W) s t))
  · have e : held n s t = ⟨s, t, true⟩ := by
      unfold held
      rw [if_neg (by omega), if_neg (by omega), if_neg (by omega), if_neg (by omega)]
    rw [e]
    exact held_no n s.lo s.hi t.lo t.hi h
end
end Go.Proofs.YticgehmpfgdbhaaDoor
