/- The walk of BranchTurned, k % 4 = 1: it returns true, and nothing that was there has turned. Conditions: the numbers have at most 64 bits; Not's table lies in its block. -/
import Derived.Test.YticgehmpfgdbhaaDoorBrLT
import Derived.Test.YticgehmpfgdbhaaDoorSpOpen
namespace Go.Proofs.YticgehmpfgdbhaaDoor
open Go.RowKit
set_option maxRecDepth 100000
set_option maxHeartbeats 4000000
section
variable {w : World}
theorem turned9_1 (k a b c d x y z v : Nat) (h f : Bool) (E : Int) (kw : wrap64 (k : Int) = k) (km : (k : Int).tmod 4 = 1) (T : Hid (Nots w)) (R1 : Hid (∀ W, Hid (Nots W) → Ans 10 #[.int .i64 2, .agg #[.int .u64 (a : Int), .int .u64 (b : Int)], .agg #[.int .u64 (c : Int), .int .u64 (d : Int)], .bool h] (.tuple #[.agg #[.int .u64 (x : Int), .int .u64 (y : Int)], .agg #[.int .u64 (z : Int), .int .u64 (v : Int)], .bool f, .int .i64 E]) W)) (R2 : Hid (∀ W, Hid (Nots W) → Ans 10 #[.int .i64 2, .agg #[.int .u64 (c : Int), .int .u64 (d : Int)], .agg #[.int .u64 (a : Int), .int .u64 (b : Int)], .bool h] (.tuple #[.agg #[.int .u64 (z : Int), .int .u64 (v : Int)], .agg #[.int .u64 (x : Int), .int .u64 (y : Int)], .bool f, .int .i64 E]) W)) :
    Ans 7 #[.int .u8 (k : Int), .agg #[.int .u64 (a : Int), .int .u64 (b : Int)], .agg #[.int .u64 (c : Int), .int .u64 (d : Int)], .bool h] (.bool true) w := by
  have SH := Lib.hid (fun W TW => shown_any (w := W) TW)
  have FC := Lib.hid (Fr.p2 w a b c d)
  go_enter Tryd.func7, Tryd.ntmps7
  go_upto_region 5 with (go_at_call 9; (with_reducible refine (SH.out _ (Lib.hid (T.out.below FC.out.below T.out.lt))).mono ?_); rintro e wb ⟨rfl, hbc⟩; have FC := Lib.hid (FC.out.step hbc); clear hbc)
  obtain ⟨w0, hw0⟩ : ∃ w0, w0 = (wb.alloc (.cells #[.int .i64 1, .int .i64 2, .int .i64 3, .int .i64 4] 3)).alloc (.cells #[.int .i64 1, .int .i64 2, .int .i64 5, .int .i64 6] 3) := ⟨_, rfl⟩
  have FC := Lib.hid (FC.out.step (show Below wb.heap.size wb w0 by rw [hw0]; go_grown))
  have B1 := Lib.hid (show Blk w0 wb.heap.size 3 #[.int .i64 1, .int .i64 2, .int .i64 3, .int .i64 4] by rw [hw0]; exact (Blk.new _ _ _).alloc _)
  have B2 := Lib.hid (show Blk w0 (wb.heap.size + 1) 3 #[.int .i64 1, .int .i64 2, .int .i64 5, .int .i64 6] by rw [hw0]; exact new2 _ _ _ _ _)
  rw [← hw0]
  clear hw0
  generalize wb.heap.size = g1 at B1 B2 ⊢
  simp only [kw]
  clear kw km
  go_cut [13, 14, 15, 16] from 27 to 39 (fun pu pv pk pe wx => ∃ i j, pu = .pointer (some ⟨i, 0, none⟩) ∧ pv = .pointer (some ⟨j, 0, none⟩) ∧ pk = .bool f ∧ pe = .int .i64 E ∧ Hid (Fr w wx ([(w.heap.size, a, b), (w.heap.size + 1, c, d)] ++ [(i, x, y), (j, z, v)])) ∧ Hid (Blk wx (g1 + 1) 3 #[.int .i64 1, .int .i64 2, .int .i64 5, .int .i64 6]))
  case first =>
    have KEEP : Hid (∀ W, Below w0.heap.size w0 W → S9 W w.heap.size (g1) 1 2 a b c d) := Lib.hid (fun W X => by
      have F := FC.out.step X
      have B := B1.out.below X B1.out.lt
      exact ⟨⟨F.q1.1, F.q1.2, F.2.q1.1, F.2.q1.2⟩, B.cell 1⟩)
    have NB : Hid (∀ W, Below w0.heap.size w0 W → Hid (Nots W)) := Lib.hid (fun W X => Lib.hid (T.out.below (FC.out.step X).below T.out.lt))
    have N01 : Hid (w0.heap.size ≠ w0.heap.size + 1) := Lib.hid (by omega)
    go_region_held3 (fun w' => S9 w' w.heap.size (g1) 1 2 a b c d) (first | (refine KEEP.out _ ?_; (repeat' (first | (with_reducible exact XC.out) | (with_reducible exact Below.refl _ _) | (refine Below.drew ?_) | (refine Below.alloc ?_ ?_ _) | (refine Below.setCell ?_ ?_ _))); all_goals (first | exact Nat.le_refl _ | omega | (simp; done) | (simp; omega)); done) | (have hs := XC.out.size; refine KEEP.out _ ?_; (repeat' (first | (with_reducible exact XC.out) | (with_reducible exact Below.refl _ _) | (refine Below.drew ?_) | (refine Below.alloc ?_ ?_ _) | (refine Below.setCell ?_ ?_ _))); all_goals (first | exact Nat.le_refl _ | omega | (simp; done) | (simp; omega)); done) | go_keep) (first
      | (go_at_call 10; (with_reducible refine (R1.out _ (NB.out _ ?nb)).mono ?_); (case nb => (repeat' (first | (with_reducible exact XC.out) | (with_reducible exact Below.refl _ _) | (refine Below.drew ?_) | (refine Below.alloc ?_ ?_ _) | (refine Below.setCell ?_ ?_ _))); all_goals (first | exact Nat.le_refl _ | omega | (simp; done) | (simp; omega))); rintro e wd ⟨rfl, hbc⟩; have XC : Hid (Below w0.heap.size w0 wd) := Lib.hid (Below.trans (by (repeat' (first | (with_reducible exact XC.out) | (with_reducible exact Below.refl _ _) | (refine Below.drew ?_) | (refine Below.alloc ?_ ?_ _) | (refine Below.setCell ?_ ?_ _))); all_goals (first | exact Nat.le_refl _ | omega | (simp; done) | (simp; omega))) (hbc.mono (by simp; try omega))); (first | (have FX := Lib.hid (FC.out.put2y.step hbc); have b0 : Hid (Blk wd w0.heap.size 24 #[.int .u64 0, .int .u64 0]) := Lib.hid FX.out.2.2.1; obtain ⟨k0, k1⟩ := two b0.out; obtain ⟨m0, m1⟩ := ice b0.out; have b1 : Hid (Blk wd (w0.heap.size + 1) 24 #[.int .u64 0, .int .u64 0]) := Lib.hid FX.out.2.2.2.1; obtain ⟨k2, k3⟩ := two b1.out; obtain ⟨m2, m3⟩ := ice b1.out) | (have FX := Lib.hid (FC.out.putz.step hbc); have b0 : Hid (Blk wd w0.heap.size 24 #[.int .u64 0, .int .u64 0]) := Lib.hid FX.out.2.2.1; obtain ⟨k0, k1⟩ := two b0.out; obtain ⟨m0, m1⟩ := ice b0.out; have a0 := b0.out.al0; have a1 := b0.out.al1; have a2 := b0.out.fl0; have a3 := b0.out.fl1; have ne1 : ¬ w0.heap.size = wd.heap.size := (fun e => absurd b0.out.lt (by omega))) | (have FX := Lib.hid (FC.out.drew.step hbc))); clear hbc))
    all_goals
      go_wp2_with fail
      go_meet
      have hs := XC.out.size
      refine ⟨_, _, rfl, rfl, rfl, rfl, Lib.hid (Fr.two (FC.out.step ?_) ?_ ?_), Lib.hid (B2.out.below ?_ B2.out.lt)⟩
      all_goals (first
        | (with_reducible exact (Blk.new _ _ _).alloc _)
        | (with_reducible exact new2 _ _ _ _ _)
        | (with_reducible exact (put4 b0.out b1.out N01.out _ _ _ _).1)
        | (with_reducible exact (put4 b0.out b1.out N01.out _ _ _ _).2)
        | (with_reducible exact (put4 b1.out b0.out N01.out.symm _ _ _ _).1)
        | (with_reducible exact (put4 b1.out b0.out N01.out.symm _ _ _ _).2)
        | (with_reducible exact (put4 (b0.out.alloc _) (Blk.new _ _ _) ne1 _ _ _ _).1)
        | (with_reducible exact (put4 (b0.out.alloc _) (Blk.new _ _ _) ne1 _ _ _ _).2)
        | (with_reducible exact put2 (b0.out.alloc _) _ _)
        | (with_reducible exact new_set _ _ _ _ ne1 _ _)
        | ((repeat' (first | (with_reducible exact XC.out) | (with_reducible exact Below.refl _ _) | (refine Below.drew ?_) | (refine Below.alloc ?_ ?_ _) | (refine Below.setCell ?_ ?_ _))); all_goals (first | exact Nat.le_refl _ | omega | (simp; done) | (simp; omega)); done))
  case rest =>
  obtain ⟨i1, j1, rfl, rfl, rfl, rfl, FC, B2⟩ := hcut
  clear B1
  go_upto_region 6 with fail
  go_cut [17, 18, 19, 20] from 40 to 52 (fun pu pv pk pe wx => ∃ i j, pu = .pointer (some ⟨i, 0, none⟩) ∧ pv = .pointer (some ⟨j, 0, none⟩) ∧ pk = .bool f ∧ pe = .int .i64 E ∧ Hid (Fr w wx ([(w.heap.size, a, b), (w.heap.size + 1, c, d)] ++ [(i1, x, y), (j1, z, v)] ++ [(i, z, v), (j, x, y)])))
  case first =>
    have KEEP : Hid (∀ W, Below wc.heap.size wc W → S9 W w.heap.size (g1 + 1) 1 2 a b c d) := Lib.hid (fun W X => by
      have F := FC.out.step X
      have B := B2.out.below X B2.out.lt
      exact ⟨⟨F.q1.1, F.q1.2, F.2.q1.1, F.2.q1.2⟩, B.cell 1⟩)
    have NB : Hid (∀ W, Below wc.heap.size wc W → Hid (Nots W)) := Lib.hid (fun W X => Lib.hid (T.out.below (FC.out.step X).below T.out.lt))
    have N01 : Hid (wc.heap.size ≠ wc.heap.size + 1) := Lib.hid (by omega)
    go_region_held3 (fun w' => S9 w' w.heap.size (g1 + 1) 1 2 a b c d) (first | (refine KEEP.out _ ?_; (repeat' (first | (with_reducible exact XC.out) | (with_reducible exact Below.refl _ _) | (refine Below.drew ?_) | (refine Below.alloc ?_ ?_ _) | (refine Below.setCell ?_ ?_ _))); all_goals (first | exact Nat.le_refl _ | omega | (simp; done) | (simp; omega)); done) | (have hs := XC.out.size; refine KEEP.out _ ?_; (repeat' (first | (with_reducible exact XC.out) | (with_reducible exact Below.refl _ _) | (refine Below.drew ?_) | (refine Below.alloc ?_ ?_ _) | (refine Below.setCell ?_ ?_ _))); all_goals (first | exact Nat.le_refl _ | omega | (simp; done) | (simp; omega)); done) | go_keep) (first
      | (go_at_call 10; (with_reducible refine (R2.out _ (NB.out _ ?nb)).mono ?_); (case nb => (repeat' (first | (with_reducible exact XC.out) | (with_reducible exact Below.refl _ _) | (refine Below.drew ?_) | (refine Below.alloc ?_ ?_ _) | (refine Below.setCell ?_ ?_ _))); all_goals (first | exact Nat.le_refl _ | omega | (simp; done) | (simp; omega))); rintro e wd ⟨rfl, hbc⟩; have XC : Hid (Below wc.heap.size wc wd) := Lib.hid (Below.trans (by (repeat' (first | (with_reducible exact XC.out) | (with_reducible exact Below.refl _ _) | (refine Below.drew ?_) | (refine Below.alloc ?_ ?_ _) | (refine Below.setCell ?_ ?_ _))); all_goals (first | exact Nat.le_refl _ | omega | (simp; done) | (simp; omega))) (hbc.mono (by simp; try omega))); (first | (have FX := Lib.hid (FC.out.put2y.step hbc); have b0 : Hid (Blk wd wc.heap.size 24 #[.int .u64 0, .int .u64 0]) := Lib.hid FX.out.2.2.2.2.1; obtain ⟨k0, k1⟩ := two b0.out; obtain ⟨m0, m1⟩ := ice b0.out; have b1 : Hid (Blk wd (wc.heap.size + 1) 24 #[.int .u64 0, .int .u64 0]) := Lib.hid FX.out.2.2.2.2.2.1; obtain ⟨k2, k3⟩ := two b1.out; obtain ⟨m2, m3⟩ := ice b1.out) | (have FX := Lib.hid (FC.out.putz.step hbc); have b0 : Hid (Blk wd wc.heap.size 24 #[.int .u64 0, .int .u64 0]) := Lib.hid FX.out.2.2.2.2.1; obtain ⟨k0, k1⟩ := two b0.out; obtain ⟨m0, m1⟩ := ice b0.out; have a0 := b0.out.al0; have a1 := b0.out.al1; have a2 := b0.out.fl0; have a3 := b0.out.fl1; have ne1 : ¬ wc.heap.size = wd.heap.size := (fun e => absurd b0.out.lt (by omega))) | (have FX := Lib.hid (FC.out.drew.step hbc))); clear hbc))
    all_goals
      go_wp2_with fail
      go_meet
      have hs := XC.out.size
      refine ⟨_, _, rfl, rfl, rfl, rfl, Lib.hid (Fr.two (FC.out.step ?_) ?_ ?_)⟩
      all_goals (first
        | (with_reducible exact (Blk.new _ _ _).alloc _)
        | (with_reducible exact new2 _ _ _ _ _)
        | (with_reducible exact (put4 b0.out b1.out N01.out _ _ _ _).1)
        | (with_reducible exact (put4 b0.out b1.out N01.out _ _ _ _).2)
        | (with_reducible exact (put4 b1.out b0.out N01.out.symm _ _ _ _).1)
        | (with_reducible exact (put4 b1.out b0.out N01.out.symm _ _ _ _).2)
        | (with_reducible exact (put4 (b0.out.alloc _) (Blk.new _ _ _) ne1 _ _ _ _).1)
        | (with_reducible exact (put4 (b0.out.alloc _) (Blk.new _ _ _) ne1 _ _ _ _).2)
        | (with_reducible exact put2 (b0.out.alloc _) _ _)
        | (with_reducible exact new_set _ _ _ _ ne1 _ _)
        | ((repeat' (first | (with_reducible exact XC.out) | (with_reducible exact Below.refl _ _) | (refine Below.drew ?_) | (refine Below.alloc ?_ ?_ _) | (refine Below.setCell ?_ ?_ _))); all_goals (first | exact Nat.le_refl _ | omega | (simp; done) | (simp; omega)); done))
  case rest =>
  obtain ⟨i2, j2, rfl, rfl, rfl, rfl, FC⟩ := hcut
  obtain ⟨q4, q5⟩ := FC.out.2.2.q1; obtain ⟨q6, q7⟩ := FC.out.2.2.2.q1; obtain ⟨q8, q9⟩ := FC.out.2.2.2.2.q1; obtain ⟨q10, q11⟩ := FC.out.2.2.2.2.2.q1
  go_wp2_with fail
  go_ret
  exact ⟨rfl, FC.out.below⟩
end
end Go.Proofs.YticgehmpfgdbhaaDoor
