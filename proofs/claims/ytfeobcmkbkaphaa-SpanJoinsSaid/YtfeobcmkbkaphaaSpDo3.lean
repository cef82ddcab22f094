/- The contract of span.Do: bits. Conditions: the numbers have at most 64 bits; spans that are valid where an operation reckons with them. -/
import Derived.Test.YtfeobcmkbkaphaaSpOps2
namespace Go.Proofs.Ytfeobcmkbkaphaa
open Go.RowKit
set_option maxRecDepth 100000
set_option maxHeartbeats 4000000
section
variable {w : World}
theorem sdo_and (a b c d : Nat) (_hs : (⟨a, b⟩ : Sp).ok) (_ht : (⟨c, d⟩ : Sp).ok) (ms : a ≤ b) (mt : c ≤ d) (ho : (isOne ⟨a, b⟩ && isOne ⟨c, d⟩) = false) :
    Ans 23 #[.int .i64 6, .agg #[.int .u64 (a : Int), .int .u64 (b : Int)], .agg #[.int .u64 (c : Int), .int .u64 (d : Int)]] (.tuple #[spv (andV ⟨a, b⟩ ⟨c, d⟩), .int .i64 0]) w := by
  have V1 : Hid (∀ W, Ans 36 #[.int .u64 (min (b : Int) d)] (.agg #[.int .u64 0, .int .u64 ((min b d : Nat) : Int)]) W) := Lib.hid (fun W => by
    rw [show min (b : Int) (d : Int) = ((min b d : Nat) : Int) by omega]
    exact upTo_any (w := W) (min b d))
  obtain ⟨y, hy⟩ : ∃ y, y = min b d := ⟨_, rfl⟩
  rw [← hy] at V1
  rw [show andV ⟨a, b⟩ ⟨c, d⟩ = ⟨0, y⟩ by rw [hy]; rfl]
  clear hy
  have M1 := Lib.hid (fun W => may_any (w := W) ⟨a, b⟩)
  have M2 := Lib.hid (fun W => may_any (w := W) ⟨c, d⟩)
  have I1 := Lib.hid (fun W => isSingle_any (w := W) ⟨a, b⟩)
  have I2 := Lib.hid (fun W => isSingle_any (w := W) ⟨c, d⟩)
  rw [may_iff.2 (by exact ms)] at M1
  rw [may_iff.2 (by exact mt)] at M2
  simp only [spv] at M1 M2 I1 I2
  clear ms mt _hs _ht
  cases h1 : isOne ⟨a, b⟩ with
  | false =>
    rw [h1] at I1
    clear h1 ho I2
    go_enter Try.func23, Try.ntmps23
    go_wp2_with (first
      | (go_at_call 13; (with_reducible refine (M1.out _).mono ?_); rintro e w1 ⟨rfl, hb1⟩; have F1 := Lib.hid ((Fr.f3 w a b c d).step hb1); clear hb1; obtain ⟨q0, q1⟩ := F1.out.q1; obtain ⟨q2, q3⟩ := F1.out.2.q1; obtain ⟨q4, q5⟩ := F1.out.2.2.q1; obtain ⟨z0, z1⟩ := F1.out.i1)
      | (go_at_call 13; (with_reducible refine (M2.out _).mono ?_); rintro e w2 ⟨rfl, hb2⟩; have F2 := Lib.hid (F1.out.step hb2); clear hb2 q0 q1 q2 q3 q4 q5 z0 z1; obtain ⟨q0, q1⟩ := F2.out.q1; obtain ⟨q2, q3⟩ := F2.out.2.q1; obtain ⟨q4, q5⟩ := F2.out.2.2.q1; obtain ⟨z0, z1⟩ := F2.out.i1)
      | (go_at_call 30; (with_reducible refine (I1.out _).mono ?_); rintro e w3 ⟨rfl, hb3⟩; have F3 := Lib.hid (F2.out.step hb3); clear hb3 q0 q1 q2 q3 q4 q5 z0 z1; obtain ⟨q0, q1⟩ := F3.out.q1; obtain ⟨q2, q3⟩ := F3.out.2.q1; obtain ⟨q4, q5⟩ := F3.out.2.2.q1; obtain ⟨z0, z1⟩ := F3.out.i1)
      | (go_at_call 36; (with_reducible refine (V1.out _).mono ?_); rintro e w5 ⟨rfl, hb5⟩; have F5 := Lib.hid (F3.out.step hb5); clear hb5 q0 q1 q2 q3 q4 q5 z0 z1; obtain ⟨q0, q1⟩ := F5.out.q1; obtain ⟨z0, z1⟩ := F5.out.i1))
    exact done2 rfl rfl rfl rfl (put2 F5.out.1 _ _) rfl rfl rfl (below2 F5.out.below (by omega) _ _)
  | true =>
    rw [h1] at I1
    rw [h1, Bool.true_and] at ho
    rw [ho] at I2
    clear h1 ho
    go_enter Try.func23, Try.ntmps23
    go_wp2_with (first
      | (go_at_call 13; (with_reducible refine (M1.out _).mono ?_); rintro e w1 ⟨rfl, hb1⟩; have F1 := Lib.hid ((Fr.f3 w a b c d).step hb1); clear hb1; obtain ⟨q0, q1⟩ := F1.out.q1; obtain ⟨q2, q3⟩ := F1.out.2.q1; obtain ⟨q4, q5⟩ := F1.out.2.2.q1; obtain ⟨z0, z1⟩ := F1.out.i1)
      | (go_at_call 13; (with_reducible refine (M2.out _).mono ?_); rintro e w2 ⟨rfl, hb2⟩; have F2 := Lib.hid (F1.out.step hb2); clear hb2 q0 q1 q2 q3 q4 q5 z0 z1; obtain ⟨q0, q1⟩ := F2.out.q1; obtain ⟨q2, q3⟩ := F2.out.2.q1; obtain ⟨q4, q5⟩ := F2.out.2.2.q1; obtain ⟨z0, z1⟩ := F2.out.i1)
      | (go_at_call 30; (with_reducible refine (I1.out _).mono ?_); rintro e w3 ⟨rfl, hb3⟩; have F3 := Lib.hid (F2.out.step hb3); clear hb3 q0 q1 q2 q3 q4 q5 z0 z1; obtain ⟨q0, q1⟩ := F3.out.q1; obtain ⟨q2, q3⟩ := F3.out.2.q1; obtain ⟨q4, q5⟩ := F3.out.2.2.q1; obtain ⟨z0, z1⟩ := F3.out.i1)
      | (go_at_call 30; (with_reducible refine (I2.out _).mono ?_); rintro e w4 ⟨rfl, hb4⟩; have F4 := Lib.hid (F3.out.step hb4); clear hb4 q0 q1 q2 q3 q4 q5 z0 z1; obtain ⟨q0, q1⟩ := F4.out.q1; obtain ⟨q2, q3⟩ := F4.out.2.q1; obtain ⟨q4, q5⟩ := F4.out.2.2.q1; obtain ⟨z0, z1⟩ := F4.out.i1)
      | (go_at_call 36; (with_reducible refine (V1.out _).mono ?_); rintro e w5 ⟨rfl, hb5⟩; have F5 := Lib.hid (F4.out.step hb5); clear hb5 q0 q1 q2 q3 q4 q5 z0 z1; obtain ⟨q0, q1⟩ := F5.out.q1; obtain ⟨z0, z1⟩ := F5.out.i1))
    exact done2 rfl rfl rfl rfl (put2 F5.out.1 _ _) rfl rfl rfl (below2 F5.out.below (by omega) _ _)
theorem sdo_xor (a b c d : Nat) (hs : (⟨a, b⟩ : Sp).ok) (ht : (⟨c, d⟩ : Sp).ok) (ms : a ≤ b) (mt : c ≤ d) (ho : (isOne ⟨a, b⟩ && isOne ⟨c, d⟩) = false) :
    Ans 23 #[.int .i64 8, .agg #[.int .u64 (a : Int), .int .u64 (b : Int)], .agg #[.int .u64 (c : Int), .int .u64 (d : Int)]] (.tuple #[spv (xorV ⟨a, b⟩ ⟨c, d⟩), .int .i64 0]) w := by
  have FL : Hid (∀ W, Calls Try.prog 37 #[.int .u64 (bits .or .u64 (b : Int) (d : Int))] W fun e w' => e = .returned (.int .u64 ((fil (b ||| d) : Nat) : Int)) ∧ W = w') := Lib.hid (fun W => by
    rw [v_or hs.2 ht.2]
    exact filled_any (w := W) (b ||| d) (or_lt hs.2 ht.2))
  have V1 := Lib.hid (fun W => upTo_any (w := W) (fil (b ||| d)))
  obtain ⟨y, hy⟩ : ∃ y, y = fil (b ||| d) := ⟨_, rfl⟩
  rw [← hy] at V1 FL
  rw [show xorV ⟨a, b⟩ ⟨c, d⟩ = ⟨0, y⟩ by rw [hy]; rfl]
  clear hy
  simp only [spv] at V1
  have M1 := Lib.hid (fun W => may_any (w := W) ⟨a, b⟩)
  have M2 := Lib.hid (fun W => may_any (w := W) ⟨c, d⟩)
  have I1 := Lib.hid (fun W => isSingle_any (w := W) ⟨a, b⟩)
  have I2 := Lib.hid (fun W => isSingle_any (w := W) ⟨c, d⟩)
  rw [may_iff.2 (by exact ms)] at M1
  rw [may_iff.2 (by exact mt)] at M2
  simp only [spv] at M1 M2 I1 I2
  clear ms mt hs ht
  cases h1 : isOne ⟨a, b⟩ with
  | false =>
    rw [h1] at I1
    clear h1 ho I2
    go_enter Try.func23, Try.ntmps23
    go_wp2_with (first
      | (go_at_call 13; (with_reducible refine (M1.out _).mono ?_); rintro e w1 ⟨rfl, hb1⟩; have F1 := Lib.hid ((Fr.f3 w a b c d).step hb1); clear hb1; obtain ⟨q0, q1⟩ := F1.out.q1; obtain ⟨q2, q3⟩ := F1.out.2.q1; obtain ⟨q4, q5⟩ := F1.out.2.2.q1; obtain ⟨z0, z1⟩ := F1.out.i1)
      | (go_at_call 13; (with_reducible refine (M2.out _).mono ?_); rintro e w2 ⟨rfl, hb2⟩; have F2 := Lib.hid (F1.out.step hb2); clear hb2 q0 q1 q2 q3 q4 q5 z0 z1; obtain ⟨q0, q1⟩ := F2.out.q1; obtain ⟨q2, q3⟩ := F2.out.2.q1; obtain ⟨q4, q5⟩ := F2.out.2.2.q1; obtain ⟨z0, z1⟩ := F2.out.i1)
      | (go_at_call 30; (with_reducible refine (I1.out _).mono ?_); rintro e w3 ⟨rfl, hb3⟩; have F3 := Lib.hid (F2.out.step hb3); clear hb3 q0 q1 q2 q3 q4 q5 z0 z1; obtain ⟨q0, q1⟩ := F3.out.q1; obtain ⟨q2, q3⟩ := F3.out.2.q1; obtain ⟨q4, q5⟩ := F3.out.2.2.q1; obtain ⟨z0, z1⟩ := F3.out.i1)
      | (go_at_call 37; (with_reducible refine (FL.out _).mono ?_); rintro e wq ⟨rfl, rfl⟩)
      | (go_at_call 36; (with_reducible refine (V1.out _).mono ?_); rintro e w5 ⟨rfl, hb5⟩; have F5 := Lib.hid (F3.out.step hb5); clear hb5 q0 q1 q2 q3 q4 q5 z0 z1; obtain ⟨q0, q1⟩ := F5.out.q1; obtain ⟨z0, z1⟩ := F5.out.i1))
    exact done2 rfl rfl rfl rfl (put2 F5.out.1 _ _) rfl rfl rfl (below2 F5.out.below (by omega) _ _)
  | true =>
    rw [h1] at I1
    rw [h1, Bool.true_and] at ho
    rw [ho] at I2
    clear h1 ho
    go_enter Try.func23, Try.ntmps23
    go_wp2_with (first
      | (go_at_call 13; (with_reducible refine (M1.out _).mono ?_); rintro e w1 ⟨rfl, hb1⟩; have F1 := Lib.hid ((Fr.f3 w a b c d).step hb1); clear hb1; obtain ⟨q0, q1⟩ := F1.out.q1; obtain ⟨q2, q3⟩ := F1.out.2.q1; obtain ⟨q4, q5⟩ := F1.out.2.2.q1; obtain ⟨z0, z1⟩ := F1.out.i1)
      | (go_at_call 13; (with_reducible refine (M2.out _).mono ?_); rintro e w2 ⟨rfl, hb2⟩; have F2 := Lib.hid (F1.out.step hb2); clear hb2 q0 q1 q2 q3 q4 q5 z0 z1; obtain ⟨q0, q1⟩ := F2.out.q1; obtain ⟨q2, q3⟩ := F2.out.2.q1; obtain ⟨q4, q5⟩ := F2.out.2.2.q1; obtain ⟨z0, z1⟩ := F2.out.i1)
      | (go_at_call 30; (with_reducible refine (I1.out _).mono ?_); rintro e w3 ⟨rfl, hb3⟩; have F3 := Lib.hid (F2.out.step hb3); clear hb3 q0 q1 q2 q3 q4 q5 z0 z1; obtain ⟨q0, q1⟩ := F3.out.q1; obtain ⟨q2, q3⟩ := F3.out.2.q1; obtain ⟨q4, q5⟩ := F3.out.2.2.q1; obtain ⟨z0, z1⟩ := F3.out.i1)
      | (go_at_call 30; (with_reducible refine (I2.out _).mono ?_); rintro e w4 ⟨rfl, hb4⟩; have F4 := Lib.hid (F3.out.step hb4); clear hb4 q0 q1 q2 q3 q4 q5 z0 z1; obtain ⟨q0, q1⟩ := F4.out.q1; obtain ⟨q2, q3⟩ := F4.out.2.q1; obtain ⟨q4, q5⟩ := F4.out.2.2.q1; obtain ⟨z0, z1⟩ := F4.out.i1)
      | (go_at_call 37; (with_reducible refine (FL.out _).mono ?_); rintro e wq ⟨rfl, rfl⟩)
      | (go_at_call 36; (with_reducible refine (V1.out _).mono ?_); rintro e w5 ⟨rfl, hb5⟩; have F5 := Lib.hid (F4.out.step hb5); clear hb5 q0 q1 q2 q3 q4 q5 z0 z1; obtain ⟨q0, q1⟩ := F5.out.q1; obtain ⟨z0, z1⟩ := F5.out.i1))
    exact done2 rfl rfl rfl rfl (put2 F5.out.1 _ _) rfl rfl rfl (below2 F5.out.below (by omega) _ _)
theorem Fr.s9 {w W : World} {a b c d x y : Nat} (h : Fr w W [(w.heap.size + 1 + 1, x, y), (w.heap.size + 1, c, d), (w.heap.size, a, b)]) (u0 u1 : Value) : S6 (((W.setCell ⟨w.heap.size + 1 + 1, 0, none⟩ u0).setCell ⟨w.heap.size + 1 + 1, 1, none⟩ u1).drew) w.heap.size a b c d := by
  have k1 := (h.2.2.1.only (Only.setCellAt W (w.heap.size + 1 + 1) 0 u0) (by omega)).only (Only.setCellAt _ (w.heap.size + 1 + 1) 1 u1) (by omega)
  have k2 := (h.2.1.only (Only.setCellAt W (w.heap.size + 1 + 1) 0 u0) (by omega)).only (Only.setCellAt _ (w.heap.size + 1 + 1) 1 u1) (by omega)
  have k3 := k1.below (Below.drew (Below.refl _ _)) k1.lt
  have k4 := k2.below (Below.drew (Below.refl _ _)) k2.lt
  exact ⟨(two k3).1, (two k3).2, (two k4).1, (two k4).2⟩
theorem put2D {w : World} {g : Nat} {t : TypeId} {v0 v1 : Value} (h : Blk w g t #[v0, v1]) (u0 u1 : Value) : Blk ((w.setCell ⟨g, 0, none⟩ u0).setCell ⟨g, 1, none⟩ u1).drew g t #[u0, u1] := by
  have k := put2 h u0 u1
  exact k.below (Below.drew (Below.refl _ _)) k.lt
theorem sdo_or (a b c d : Nat) (hs : (⟨a, b⟩ : Sp).ok) (ht : (⟨c, d⟩ : Sp).ok) (ms : a ≤ b) (mt : c ≤ d) (ho : (isOne ⟨a, b⟩ && isOne ⟨c, d⟩) = false) :
    Ans 23 #[.int .i64 7, .agg #[.int .u64 (a : Int), .int .u64 (b : Int)], .agg #[.int .u64 (c : Int), .int .u64 (d : Int)]] (.tuple #[spv (orV ⟨a, b⟩ ⟨c, d⟩), .int .i64 0]) w := by
  have FL : Hid (∀ W, Calls Try.prog 37 #[.int .u64 (bits .or .u64 (b : Int) (d : Int))] W fun e w' => e = .returned (.int .u64 ((fil (b ||| d) : Nat) : Int)) ∧ W = w') := Lib.hid (fun W => by
    rw [v_or hs.2 ht.2]
    exact filled_any (w := W) (b ||| d) (or_lt hs.2 ht.2))
  obtain ⟨x, hx⟩ : ∃ x, x = max a c := ⟨_, rfl⟩
  have HX := Lib.hid (show max (a : Int) (c : Int) = x by omega)
  obtain ⟨y, hy⟩ : ∃ y, y = fil (b ||| d) := ⟨_, rfl⟩
  rw [← hy] at FL
  rw [show orV ⟨a, b⟩ ⟨c, d⟩ = ⟨x, y⟩ by rw [hx, hy]; rfl]
  clear hx hy
  have M1 := Lib.hid (fun W => may_any (w := W) ⟨a, b⟩)
  have M2 := Lib.hid (fun W => may_any (w := W) ⟨c, d⟩)
  have I1 := Lib.hid (fun W => isSingle_any (w := W) ⟨a, b⟩)
  have I2 := Lib.hid (fun W => isSingle_any (w := W) ⟨c, d⟩)
  rw [may_iff.2 (by exact ms)] at M1
  rw [may_iff.2 (by exact mt)] at M2
  simp only [spv] at M1 M2 I1 I2
  clear ms mt hs ht
  cases h1 : isOne ⟨a, b⟩ with
  | false =>
    rw [h1] at I1
    clear h1 ho I2
    go_enter Try.func23, Try.ntmps23
    go_wp2_with (first
      | (go_at_call 13; (with_reducible refine (M1.out _).mono ?_); rintro e w1 ⟨rfl, hb1⟩; have F1 := Lib.hid ((Fr.f3 w a b c d).step hb1); clear hb1; obtain ⟨q0, q1⟩ := F1.out.q1; obtain ⟨q2, q3⟩ := F1.out.2.q1; obtain ⟨q4, q5⟩ := F1.out.2.2.q1; obtain ⟨z0, z1⟩ := F1.out.i1)
      | (go_at_call 13; (with_reducible refine (M2.out _).mono ?_); rintro e w2 ⟨rfl, hb2⟩; have F2 := Lib.hid (F1.out.step hb2); clear hb2 q0 q1 q2 q3 q4 q5 z0 z1; obtain ⟨q0, q1⟩ := F2.out.q1; obtain ⟨q2, q3⟩ := F2.out.2.q1; obtain ⟨q4, q5⟩ := F2.out.2.2.q1; obtain ⟨z0, z1⟩ := F2.out.i1)
      | (go_at_call 30; (with_reducible refine (I1.out _).mono ?_); rintro e w3 ⟨rfl, hb3⟩; have F3 := Lib.hid (F2.out.step hb3); clear hb3 q0 q1 q2 q3 q4 q5 z0 z1; obtain ⟨q0, q1⟩ := F3.out.q1; obtain ⟨q2, q3⟩ := F3.out.2.q1; obtain ⟨q4, q5⟩ := F3.out.2.2.q1; obtain ⟨z0, z1⟩ := F3.out.i1))
    have S0 := Lib.hid F3.out.drew.s3
    have S9 := Lib.hid F3.out.s9
    go_region_held3 (fun w' => S6 w' w.heap.size a b c d) (first | (with_reducible exact S0.out) | (with_reducible exact S9.out _ _) | go_keep) (first | (go_at_call 37; (with_reducible refine (FL.out _).mono ?_); rintro e wq ⟨rfl, rfl⟩))
    all_goals
      go_wp2_with fail
      exact done2 rfl rfl rfl rfl (put2D F3.out.1 _ _) HX.out rfl rfl (below2 F3.out.below (by omega) _ _).drew
  | true =>
    rw [h1] at I1
    rw [h1, Bool.true_and] at ho
    rw [ho] at I2
    clear h1 ho
    go_enter Try.func23, Try.ntmps23
    go_wp2_with (first
      | (go_at_call 13; (with_reducible refine (M1.out _).mono ?_); rintro e w1 ⟨rfl, hb1⟩; have F1 := Lib.hid ((Fr.f3 w a b c d).step hb1); clear hb1; obtain ⟨q0, q1⟩ := F1.out.q1; obtain ⟨q2, q3⟩ := F1.out.2.q1; obtain ⟨q4, q5⟩ := F1.out.2.2.q1; obtain ⟨z0, z1⟩ := F1.out.i1)
      | (go_at_call 13; (with_reducible refine (M2.out _).mono ?_); rintro e w2 ⟨rfl, hb2⟩; have F2 := Lib.hid (F1.out.step hb2); clear hb2 q0 q1 q2 q3 q4 q5 z0 z1; obtain ⟨q0, q1⟩ := F2.out.q1; obtain ⟨q2, q3⟩ := F2.out.2.q1; obtain ⟨q4, q5⟩ := F2.out.2.2.q1; obtain ⟨z0, z1⟩ := F2.out.i1)
      | (go_at_call 30; (with_reducible refine (I1.out _).mono ?_); rintro e w3 ⟨rfl, hb3⟩; have F3 := Lib.hid (F2.out.step hb3); clear hb3 q0 q1 q2 q3 q4 q5 z0 z1; obtain ⟨q0, q1⟩ := F3.out.q1; obtain ⟨q2, q3⟩ := F3.out.2.q1; obtain ⟨q4, q5⟩ := F3.out.2.2.q1; obtain ⟨z0, z1⟩ := F3.out.i1)
      | (go_at_call 30; (with_reducible refine (I2.out _).mono ?_); rintro e w4 ⟨rfl, hb4⟩; have F4 := Lib.hid (F3.out.step hb4); clear hb4 q0 q1 q2 q3 q4 q5 z0 z1; obtain ⟨q0, q1⟩ := F4.out.q1; obtain ⟨q2, q3⟩ := F4.out.2.q1; obtain ⟨q4, q5⟩ := F4.out.2.2.q1; obtain ⟨z0, z1⟩ := F4.out.i1))
    have S0 := Lib.hid F4.out.drew.s3
    have S9 := Lib.hid F4.out.s9
    go_region_held3 (fun w' => S6 w' w.heap.size a b c d) (first | (with_reducible exact S0.out) | (with_reducible exact S9.out _ _) | go_keep) (first | (go_at_call 37; (with_reducible refine (FL.out _).mono ?_); rintro e wq ⟨rfl, rfl⟩))
    all_goals
      go_wp2_with fail
      exact done2 rfl rfl rfl rfl (put2D F4.out.1 _ _) HX.out rfl rfl (below2 F4.out.below (by omega) _ _).drew
end
end Go.Proofs.Ytfeobcmkbkaphaa
