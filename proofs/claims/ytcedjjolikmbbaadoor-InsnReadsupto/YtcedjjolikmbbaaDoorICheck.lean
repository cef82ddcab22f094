/- The contract of Check. Condition: the tables lie in their blocks. -/
import Derived.Test.YtcedjjolikmbbaaDoorISmall
import Derived.Deep.RegionHeld3
namespace Go.Proofs.YtcedjjolikmbbaaDoor
open Go.RowKit
set_option maxRecDepth 100000
set_option maxHeartbeats 4000000

theorem ten {w : World} {g : Nat} {t : TypeId} {v0 v1 v2 v3 v4 : Value} (h : Blk w g t #[v0, v1, v2, v3, v4]) :
    w.cell? ⟨g, 0, none⟩ = some v0 ∧ w.cell? ⟨g, 1, none⟩ = some v1 ∧ w.cell? ⟨g, 2, none⟩ = some v2 ∧ w.cell? ⟨g, 3, none⟩ = some v3 ∧ w.cell? ⟨g, 4, none⟩ = some v4 ∧
    w.frozen? ⟨g, 0, none⟩ = false ∧ w.frozen? ⟨g, 1, none⟩ = false ∧ w.frozen? ⟨g, 2, none⟩ = false ∧ w.frozen? ⟨g, 3, none⟩ = false ∧ w.frozen? ⟨g, 4, none⟩ = false :=
  ⟨h.cell 0, h.cell 1, h.cell 2, h.cell 3, h.cell 4, h.frozen 0, h.frozen 1, h.frozen 2, h.frozen 3, h.frozen 4⟩
theorem put5 {w : World} {g : Nat} {t : TypeId} {v0 v1 v2 v3 v4 : Value} (h : Blk w g t #[v0, v1, v2, v3, v4]) (u0 u1 u2 u3 u4 : Value) :
    Blk (((((w.setCell ⟨g, 0, none⟩ u0).setCell ⟨g, 1, none⟩ u1).setCell ⟨g, 2, none⟩ u2).setCell ⟨g, 3, none⟩ u3).setCell ⟨g, 4, none⟩ u4) g t #[u0, u1, u2, u3, u4] :=
  ((((h.put 0 u0).put 1 u1).put 2 u2).put 3 u3).put 4 u4
theorem below5 {B : Nat} {w w' : World} {g : Nat} (h : Below B w w') (hB : B ≤ g) (u0 u1 u2 u3 u4 : Value) :
    Below B w (((((w'.setCell ⟨g, 0, none⟩ u0).setCell ⟨g, 1, none⟩ u1).setCell ⟨g, 2, none⟩ u2).setCell ⟨g, 3, none⟩ u3).setCell ⟨g, 4, none⟩ u4) :=
  ((((h.setCell hB u0).setCell hB u1).setCell hB u2).setCell hB u3).setCell hB u4
/-- The cells of an operand and of an instruction. -/
abbrev S7 (w1 : World) (g b : Nat) (p f v0 v1 v2 v3 v4 : Value) : Prop := w1.cell? ⟨g, 0, none⟩ = some p ∧ w1.cell? ⟨g, 1, none⟩ = some f ∧ w1.cell? ⟨b, 0, none⟩ = some v0 ∧ w1.cell? ⟨b, 1, none⟩ = some v1 ∧ w1.cell? ⟨b, 2, none⟩ = some v2 ∧ w1.cell? ⟨b, 3, none⟩ = some v3 ∧ w1.cell? ⟨b, 4, none⟩ = some v4
theorem seven {wr w1 : World} {b g : Nat} {t t' : TypeId} {p f v0 v1 v2 v3 v4 : Value} (h : Blk wr b t #[v0, v1, v2, v3, v4]) (k : Blk w1 g t' #[p, f]) (l : Below wr.heap.size wr w1) : S7 w1.drew g b p f v0 v1 v2 v3 v4 := by
  have h' := h.below l h.lt
  exact ⟨k.cell 0, k.cell 1, h'.cell 0, h'.cell 1, h'.cell 2, h'.cell 3, h'.cell 4⟩
theorem keep7 {w1 w2 : World} {b g : Nat} {p f v0 v1 v2 v3 v4 : Value} (h : S7 w1.drew g b p f v0 v1 v2 v3 v4) (l : Below w1.heap.size w1.drew w2) (hb : b < w1.heap.size) (hg : g < w1.heap.size) : S7 w2 g b p f v0 v1 v2 v3 v4 := by
  have go : ∀ (x q : Nat), x < w1.heap.size → w2.cell? ⟨x, q, none⟩ = w1.drew.cell? ⟨x, q, none⟩ := fun x q hx => l.cell (p := ⟨x, q, none⟩) hx
  obtain ⟨h0, h1, h2, h3, h4, h5, h6⟩ := h
  exact ⟨(go _ _ hg).trans h0, (go _ _ hg).trans h1, (go _ _ hb).trans h2, (go _ _ hb).trans h3, (go _ _ hb).trans h4, (go _ _ hb).trans h5, (go _ _ hb).trans h6⟩
section
variable {w : World}
theorem rest_ck (i : In) (rest : In) : ckL i [] rest = if rest = ⟨i.op, 0, 0, 0, 0⟩ then 0 else 1 := rfl
theorem check_any (T : Hid (Tabs w)) (i : In) (hi : i.ok) : Calls Tryd.prog 13 #[iv i] w fun e w' => e = .returned (.int .i64 (ck i : Int)) ∧ Below w.heap.size w w' := by
  have HI := Lib.hid hi
  obtain ⟨op, a, b, c, im⟩ := i
  obtain ⟨hop, ha, hb, hc, him⟩ := hi
  simp only at hop ha hb hc him
  unfold iv
  by_cases h1 : op < 1
  · have HL := Lib.hid (show ck ⟨op, a, b, c, im⟩ = 3 by simp [ck]; omega)
    have g1 : decide ((op : Int) < 1) = true := by simp; omega
    go_enter Tryd.func13, Tryd.ntmps13
    go_wp2_with fail
    go_ret
    rw [HL.out]
    refine ⟨rfl, ?_⟩
    go_grown
  · by_cases h2 : 15 < op
    · have HL := Lib.hid (show ck ⟨op, a, b, c, im⟩ = 3 by simp [ck]; omega)
      have g2 : decide (15 < (op : Int)) = true := by simp; omega
      go_enter Tryd.func13, Tryd.ntmps13
      go_wp2_with fail
      go_ret
      rw [HL.out]
      refine ⟨rfl, ?_⟩
      go_grown
    · obtain ⟨p0, f0, p1, f1, p2, f2, p3, f3, HR, ⟨y0, z0, y1, z1, y2, z2, y3, z3⟩, r0, s0, r1, s1, r2, s2, r3, s3⟩ := T.out.row op (by omega)
      have HL := Lib.hid (show ck ⟨op, a, b, c, im⟩ = ckL ⟨op, a, b, c, im⟩ [(p0, f0), (p1, f1), (p2, f2), (p3, f3)] ⟨op, a, b, c, im⟩ by simp [ck, HR.out]; omega)
      have q1 : (op : Int) < 16 := by omega
      have b0 : 0 < w.heap.size := by have := T.out.size; omega
      have g1 : decide ((op : Int) < 1) = false := by simp; omega
      have g2 : decide (15 < (op : Int)) = false := by simp; omega
      go_enter Tryd.func13, Tryd.ntmps13
      go_wp2_with fail
      have HB0 := Lib.hid (show Below w.heap.size w ((w.alloc (Obj.cells #[.int .u8 (op : Int), .int .u8 (a : Int), .int .u8 (b : Int), .int .u8 (c : Int), .int .u32 (im : Int)] 24)).alloc (Obj.cells #[.int .u8 (op : Int), .int .u8 (a : Int), .int .u8 (b : Int), .int .u8 (c : Int), .int .u32 (im : Int)] 24)) by go_grown)
      have HK0 := Lib.hid (Blk.new (w.alloc (Obj.cells #[.int .u8 (op : Int), .int .u8 (a : Int), .int .u8 (b : Int), .int .u8 (c : Int), .int .u32 (im : Int)] 24)) 24 #[.int .u8 (op : Int), .int .u8 (a : Int), .int .u8 (b : Int), .int .u8 (c : Int), .int .u32 (im : Int)])
      have HK1 := Lib.hid ((Blk.new w 24 #[.int .u8 (op : Int), .int .u8 (a : Int), .int .u8 (b : Int), .int .u8 (c : Int), .int .u32 (im : Int)]).alloc (Obj.cells #[.int .u8 (op : Int), .int .u8 (a : Int), .int .u8 (b : Int), .int .u8 (c : Int), .int .u32 (im : Int)] 24))
      have ix0 := @run_ix0
      have ix1 := @run_ix1
      have ix2 := @run_ix2
      have ix3 := @run_ix3
      go_loopw [19] (fun k wr => ∃ (j : Nat) (rest : In), j ≤ 4 ∧ k = .int .i64 j ∧ Hid (ck ⟨op, a, b, c, im⟩ = ckL ⟨op, a, b, c, im⟩ ([(p0, f0), (p1, f1), (p2, f2), (p3, f3)].drop j) rest) ∧ Hid (Blk wr w.heap.size 24 #[.int .u8 (op : Int), .int .u8 (a : Int), .int .u8 (b : Int), .int .u8 (c : Int), .int .u32 (im : Int)]) ∧ Hid (Blk wr (w.heap.size + 1) 24 #[.int .u8 (rest.op : Int), .int .u8 (rest.a : Int), .int .u8 (rest.b : Int), .int .u8 (rest.c : Int), .int .u32 (rest.im : Int)]) ∧ Hid (Below w.heap.size w wr)) (fun k _ => 4 - (intOf k).toNat)
      case atStart =>
        refine ⟨0, ⟨op, a, b, c, im⟩, Nat.zero_le _, rfl, HL.out, HK1.out, ?_, HB0.out⟩
        have := HK0.out
        simp only [World.size_alloc] at this
        exact this
      case round =>
        obtain ⟨j, rest, hj, rfl, HC, K1, K2, HW⟩ := hrel
        clear HB0 HK0 HK1 r0 s0 r1 s1 r2 s2 r3 s3
        have hws := HW.out.size
        have l1 : w.heap.size < wr.heap.size := K1.out.lt
        have l2 : w.heap.size + 1 < wr.heap.size := K2.out.lt
        have e0 := K1.out.cell 0
        have e1 := K1.out.cell 1
        have e2 := K1.out.cell 2
        have e3 := K1.out.cell 3
        have e4 := K1.out.cell 4
        have d0 := K2.out.cell 0
        have d1 := K2.out.cell 1
        have d2 := K2.out.cell 2
        have d3 := K2.out.cell 3
        have d4 := K2.out.cell 4
        simp at e0 e1 e2 e3 e4 d0 d1 d2 d3 d4
        rcases (show j = 0 ∨ j = 1 ∨ j = 2 ∨ j = 3 ∨ j = 4 by omega) with rfl | rfl | rfl | rfl | rfl
        · cases hin : inR f0 (opAt ⟨op, a, b, c, im⟩ p0)
          · have HIN := Lib.hid hin
            clear hin
            obtain ⟨w1, hw1⟩ : ∃ w1, w1 = wr.alloc (Obj.cells #[.int .u8 (p0 : Int), .int .u8 (f0 : Int)] 52) := ⟨_, rfl⟩
            have KO := Lib.hid (show Blk w1 wr.heap.size 52 #[.int .u8 (p0 : Int), .int .u8 (f0 : Int)] by rw [hw1]; exact Blk.new _ _ _)
            have L1 := Lib.hid (show Below wr.heap.size wr w1 by rw [hw1]; go_grown)
            have X1 := Lib.hid (HW.out.trans (L1.out.mono hws))
            have HW1 := Lib.hid hw1
            have SZ := Lib.hid (show w1.heap.size = wr.heap.size + 1 by rw [hw1]; simp)
            clear hw1
            have SS1 := Lib.hid (seven K1.out KO.out L1.out)
            have HE := Lib.hid (show ck ⟨op, a, b, c, im⟩ = 4 by rw [HC.out]; simp [ckL, HIN.out])
            go_wp2_with fail
            rw [← HW1.out]
            go_region_held3 (fun w' => w'.cell? ⟨wr.heap.size, 0, none⟩ = some (.int .u8 (p0 : Int)) ∧ w'.cell? ⟨wr.heap.size, 1, none⟩ = some (.int .u8 (f0 : Int)) ∧ w'.cell? ⟨w.heap.size, 0, none⟩ = some (.int .u8 (op : Int)) ∧ w'.cell? ⟨w.heap.size, 1, none⟩ = some (.int .u8 (a : Int)) ∧ w'.cell? ⟨w.heap.size, 2, none⟩ = some (.int .u8 (b : Int)) ∧ w'.cell? ⟨w.heap.size, 3, none⟩ = some (.int .u8 (c : Int)) ∧ w'.cell? ⟨w.heap.size, 4, none⟩ = some (.int .u32 (im : Int))) (first | (with_reducible exact SS1.out) | (with_reducible exact SS2.out) | go_keep) (first
              | (go_at_call 25; (with_reducible refine (operandAt_any ⟨op, a, b, c, im⟩ HI.out p0 y0).mono ?_); rintro e w2 ⟨rfl, hb2⟩; have X2 := Lib.hid ((Below.drew X1.out).trans (hb2.mono X1.out.size)); have T2 := Lib.hid (T.out.out X2.out); have SS2 := Lib.hid (keep7 SS1.out hb2 (by rw [SZ.out]; omega) (by rw [SZ.out]; omega)); have M2 := Lib.hid ((Below.drew (Below.refl _ w1)).trans hb2); clear hb2)
              | (go_at_call 30; (with_reducible refine (inRange_any T2 f0 _ z0).mono ?_); rintro e w3 ⟨rfl, rfl⟩; rw [HIN.out]))
            go_wp2_with fail
            go_ret
            rw [HE.out]
            exact ⟨rfl, X2.out⟩
          · have HIN := Lib.hid hin
            clear hin
            obtain ⟨w1, hw1⟩ : ∃ w1, w1 = wr.alloc (Obj.cells #[.int .u8 (p0 : Int), .int .u8 (f0 : Int)] 52) := ⟨_, rfl⟩
            have KO := Lib.hid (show Blk w1 wr.heap.size 52 #[.int .u8 (p0 : Int), .int .u8 (f0 : Int)] by rw [hw1]; exact Blk.new _ _ _)
            have L1 := Lib.hid (show Below wr.heap.size wr w1 by rw [hw1]; go_grown)
            have X1 := Lib.hid (HW.out.trans (L1.out.mono hws))
            have HW1 := Lib.hid hw1
            have SZ := Lib.hid (show w1.heap.size = wr.heap.size + 1 by rw [hw1]; simp)
            clear hw1
            have SS1 := Lib.hid (seven K1.out KO.out L1.out)
            go_wp2_with fail
            rw [← HW1.out]
            go_region_held3 (fun w' => w'.cell? ⟨wr.heap.size, 0, none⟩ = some (.int .u8 (p0 : Int)) ∧ w'.cell? ⟨wr.heap.size, 1, none⟩ = some (.int .u8 (f0 : Int)) ∧ w'.cell? ⟨w.heap.size, 0, none⟩ = some (.int .u8 (op : Int)) ∧ w'.cell? ⟨w.heap.size, 1, none⟩ = some (.int .u8 (a : Int)) ∧ w'.cell? ⟨w.heap.size, 2, none⟩ = some (.int .u8 (b : Int)) ∧ w'.cell? ⟨w.heap.size, 3, none⟩ = some (.int .u8 (c : Int)) ∧ w'.cell? ⟨w.heap.size, 4, none⟩ = some (.int .u32 (im : Int))) (first | (with_reducible exact SS1.out) | (with_reducible exact SS2.out) | go_keep) (first
              | (go_at_call 25; (with_reducible refine (operandAt_any ⟨op, a, b, c, im⟩ HI.out p0 y0).mono ?_); rintro e w2 ⟨rfl, hb2⟩; have X2 := Lib.hid ((Below.drew X1.out).trans (hb2.mono X1.out.size)); have T2 := Lib.hid (T.out.out X2.out); have SS2 := Lib.hid (keep7 SS1.out hb2 (by rw [SZ.out]; omega) (by rw [SZ.out]; omega)); have M2 := Lib.hid ((Below.drew (Below.refl _ w1)).trans hb2); clear hb2)
              | (go_at_call 30; (with_reducible refine (inRange_any T2 f0 _ z0).mono ?_); rintro e w3 ⟨rfl, rfl⟩; rw [HIN.out]))
            have K23 := Lib.hid (K2.out.below (L1.out.trans (M2.out.mono (show wr.heap.size ≤ w1.heap.size by rw [SZ.out]; omega))) K2.out.lt)
            have K13 := Lib.hid (K1.out.below (L1.out.trans (M2.out.mono (show wr.heap.size ≤ w1.heap.size by rw [SZ.out]; omega))) K1.out.lt)
            have hs3 : wr.heap.size < w3.heap.size := by have h5 : w1.heap.size ≤ w3.heap.size := M2.out.size; rw [SZ.out] at h5; omega
            clear d0 d1 d2 d3 d4 e0 e1 e2 e3 e4
            have d0 := K23.out.cell 0
            have d1 := K23.out.cell 1
            have d2 := K23.out.cell 2
            have d3 := K23.out.cell 3
            have d4 := K23.out.cell 4
            simp at d0 d1 d2 d3 d4
            have u0 := SS2.out.1
            go_wp2_with (go_at_call 31; refine (withOperand_any rest p0 0 y0).mono ?_; rintro e w4 ⟨rfl, hb4⟩; have K24 := Lib.hid (K23.out.below hb4 K23.out.lt); have K14 := Lib.hid (K13.out.below hb4 K13.out.lt); have X4 := Lib.hid (X2.out.trans (hb4.mono X2.out.size)); obtain ⟨q0, q1, q2, q3, q4, z0', z1', z2', z3', z4'⟩ := ten K24.out; have hs4 : w3.heap.size ≤ w4.heap.size := hb4.size; clear d0 d1 d2 d3 d4 hb4)
            go_roundw
            case rel => exact ⟨1, wOp rest p0 0, by omega, by go_num, Lib.hid (by rw [HC.out]; simp [ckL, HIN.out]), K14.out.below (below5 (B := w.heap.size + 1) (Below.refl _ w4) (Nat.le_refl _) _ _ _ _ _) (Nat.lt_succ_self _), put5 K24.out _ _ _ _ _, below5 X4.out (Nat.le_succ _) _ _ _ _ _⟩
            case measure => simp [intOf]
        · cases hin : inR f1 (opAt ⟨op, a, b, c, im⟩ p1)
          · have HIN := Lib.hid hin
            clear hin
            obtain ⟨w1, hw1⟩ : ∃ w1, w1 = wr.alloc (Obj.cells #[.int .u8 (p1 : Int), .int .u8 (f1 : Int)] 52) := ⟨_, rfl⟩
            have KO := Lib.hid (show Blk w1 wr.heap.size 52 #[.int .u8 (p1 : Int), .int .u8 (f1 : Int)] by rw [hw1]; exact Blk.new _ _ _)
            have L1 := Lib.hid (show Below wr.heap.size wr w1 by rw [hw1]; go_grown)
            have X1 := Lib.hid (HW.out.trans (L1.out.mono hws))
            have HW1 := Lib.hid hw1
            have SZ := Lib.hid (show w1.heap.size = wr.heap.size + 1 by rw [hw1]; simp)
            clear hw1
            have SS1 := Lib.hid (seven K1.out KO.out L1.out)
            have HE := Lib.hid (show ck ⟨op, a, b, c, im⟩ = 4 by rw [HC.out]; simp [ckL, HIN.out])
            go_wp2_with fail
            rw [← HW1.out]
            go_region_held3 (fun w' => w'.cell? ⟨wr.heap.size, 0, none⟩ = some (.int .u8 (p1 : Int)) ∧ w'.cell? ⟨wr.heap.size, 1, none⟩ = some (.int .u8 (f1 : Int)) ∧ w'.cell? ⟨w.heap.size, 0, none⟩ = some (.int .u8 (op : Int)) ∧ w'.cell? ⟨w.heap.size, 1, none⟩ = some (.int .u8 (a : Int)) ∧ w'.cell? ⟨w.heap.size, 2, none⟩ = some (.int .u8 (b : Int)) ∧ w'.cell? ⟨w.heap.size, 3, none⟩ = some (.int .u8 (c : Int)) ∧ w'.cell? ⟨w.heap.size, 4, none⟩ = some (.int .u32 (im : Int))) (first | (with_reducible exact SS1.out) | (with_reducible exact SS2.out) | go_keep) (first
              | (go_at_call 25; (with_reducible refine (operandAt_any ⟨op, a, b, c, im⟩ HI.out p1 y1).mono ?_); rintro e w2 ⟨rfl, hb2⟩; have X2 := Lib.hid ((Below.drew X1.out).trans (hb2.mono X1.out.size)); have T2 := Lib.hid (T.out.out X2.out); have SS2 := Lib.hid (keep7 SS1.out hb2 (by rw [SZ.out]; omega) (by rw [SZ.out]; omega)); have M2 := Lib.hid ((Below.drew (Below.refl _ w1)).trans hb2); clear hb2)
              | (go_at_call 30; (with_reducible refine (inRange_any T2 f1 _ z1).mono ?_); rintro e w3 ⟨rfl, rfl⟩; rw [HIN.out]))
            go_wp2_with fail
            go_ret
            rw [HE.out]
            exact ⟨rfl, X2.out⟩
          · have HIN := Lib.hid hin
            clear hin
            obtain ⟨w1, hw1⟩ : ∃ w1, w1 = wr.alloc (Obj.cells #[.int .u8 (p1 : Int), .int .u8 (f1 : Int)] 52) := ⟨_, rfl⟩
            have KO := Lib.hid (show Blk w1 wr.heap.size 52 #[.int .u8 (p1 : Int), .int .u8 (f1 : Int)] by rw [hw1]; exact Blk.new _ _ _)
            have L1 := Lib.hid (show Below wr.heap.size wr w1 by rw [hw1]; go_grown)
            have X1 := Lib.hid (HW.out.trans (L1.out.mono hws))
            have HW1 := Lib.hid hw1
            have SZ := Lib.hid (show w1.heap.size = wr.heap.size + 1 by rw [hw1]; simp)
            clear hw1
            have SS1 := Lib.hid (seven K1.out KO.out L1.out)
            go_wp2_with fail
            rw [← HW1.out]
            go_region_held3 (fun w' => w'.cell? ⟨wr.heap.size, 0, none⟩ = some (.int .u8 (p1 : Int)) ∧ w'.cell? ⟨wr.heap.size, 1, none⟩ = some (.int .u8 (f1 : Int)) ∧ w'.cell? ⟨w.heap.size, 0, none⟩ = some (.int .u8 (op : Int)) ∧ w'.cell? ⟨w.heap.size, 1, none⟩ = some (.int .u8 (a : Int)) ∧ w'.cell? ⟨w.heap.size, 2, none⟩ = some (.int .u8 (b : Int)) ∧ w'.cell? ⟨w.heap.size, 3, none⟩ = some (.int .u8 (c : Int)) ∧ w'.cell? ⟨w.heap.size, 4, none⟩ = some (.int .u32 (im : Int))) (first | (with_reducible exact SS1.out) | (with_reducible exact SS2.out) | go_keep) (first
              | (go_at_call 25; (with_reducible refine (operandAt_any ⟨op, a, b, c, im⟩ HI.out p1 y1).mono ?_); rintro e w2 ⟨rfl, hb2⟩; have X2 := Lib.hid ((Below.drew X1.out).trans (hb2.mono X1.out.size)); have T2 := Lib.hid (T.out.out X2.out); have SS2 := Lib.hid (keep7 SS1.out hb2 (by rw [SZ.out]; omega) (by rw [SZ.out]; omega)); have M2 := Lib.hid ((Below.drew (Below.refl _ w1)).trans hb2); clear hb2)
              | (go_at_call 30; (with_reducible refine (inRange_any T2 f1 _ z1).mono ?_); rintro e w3 ⟨rfl, rfl⟩; rw [HIN.out]))
            have K23 := Lib.hid (K2.out.below (L1.out.trans (M2.out.mono (show wr.heap.size ≤ w1.heap.size by rw [SZ.out]; omega))) K2.out.lt)
            have K13 := Lib.hid (K1.out.below (L1.out.trans (M2.out.mono (show wr.heap.size ≤ w1.heap.size by rw [SZ.out]; omega))) K1.out.lt)
            have hs3 : wr.heap.size < w3.heap.size := by have h5 : w1.heap.size ≤ w3.heap.size := M2.out.size; rw [SZ.out] at h5; omega
            clear d0 d1 d2 d3 d4 e0 e1 e2 e3 e4
            have d0 := K23.out.cell 0
            have d1 := K23.out.cell 1
            have d2 := K23.out.cell 2
            have d3 := K23.out.cell 3
            have d4 := K23.out.cell 4
            simp at d0 d1 d2 d3 d4
            have u0 := SS2.out.1
            go_wp2_with (go_at_call 31; refine (withOperand_any rest p1 0 y1).mono ?_; rintro e w4 ⟨rfl, hb4⟩; have K24 := Lib.hid (K23.out.below hb4 K23.out.lt); have K14 := Lib.hid (K13.out.below hb4 K13.out.lt); have X4 := Lib.hid (X2.out.trans (hb4.mono X2.out.size)); obtain ⟨q0, q1, q2, q3, q4, z0', z1', z2', z3', z4'⟩ := ten K24.out; have hs4 : w3.heap.size ≤ w4.heap.size := hb4.size; clear d0 d1 d2 d3 d4 hb4)
            go_roundw
            case rel => exact ⟨2, wOp rest p1 0, by omega, by go_num, Lib.hid (by rw [HC.out]; simp [ckL, HIN.out]), K14.out.below (below5 (B := w.heap.size + 1) (Below.refl _ w4) (Nat.le_refl _) _ _ _ _ _) (Nat.lt_succ_self _), put5 K24.out _ _ _ _ _, below5 X4.out (Nat.le_succ _) _ _ _ _ _⟩
            case measure => simp [intOf]
        · cases hin : inR f2 (opAt ⟨op, a, b, c, im⟩ p2)
          · have HIN := Lib.hid hin
            clear hin
            obtain ⟨w1, hw1⟩ : ∃ w1, w1 = wr.alloc (Obj.cells #[.int .u8 (p2 : Int), .int .u8 (f2 : Int)] 52) := ⟨_, rfl⟩
            have KO := Lib.hid (show Blk w1 wr.heap.size 52 #[.int .u8 (p2 : Int), .int .u8 (f2 : Int)] by rw [hw1]; exact Blk.new _ _ _)
            have L1 := Lib.hid (show Below wr.heap.size wr w1 by rw [hw1]; go_grown)
            have X1 := Lib.hid (HW.out.trans (L1.out.mono hws))
            have HW1 := Lib.hid hw1
            have SZ := Lib.hid (show w1.heap.size = wr.heap.size + 1 by rw [hw1]; simp)
            clear hw1
            have SS1 := Lib.hid (seven K1.out KO.out L1.out)
            have HE := Lib.hid (show ck ⟨op, a, b, c, im⟩ = 4 by rw [HC.out]; simp [ckL, HIN.out])
            go_wp2_with fail
            rw [← HW1.out]
            go_region_held3 (fun w' => w'.cell? ⟨wr.heap.size, 0, none⟩ = some (.int .u8 (p2 : Int)) ∧ w'.cell? ⟨wr.heap.size, 1, none⟩ = some (.int .u8 (f2 : Int)) ∧ w'.cell? ⟨w.heap.size, 0, none⟩ = some (.int .u8 (op : Int)) ∧ w'.cell? ⟨w.heap.size, 1, none⟩ = some (.int .u8 (a : Int)) ∧ w'.cell? ⟨w.heap.size, 2, none⟩ = some (.int .u8 (b : Int)) ∧ w'.cell? ⟨w.heap.size, 3, none⟩ = some (.int .u8 (c : Int)) ∧ w'.cell? ⟨w.heap.size, 4, none⟩ = some (.int .u32 (im : Int))) (first | (with_reducible exact SS1.out) | (with_reducible exact SS2.out) | go_keep) (first
              | (go_at_call 25; (with_reducible refine (operandAt_any ⟨op, a, b, c, im⟩ HI.out p2 y2).mono ?_); rintro e w2 ⟨rfl, hb2⟩; have X2 := Lib.hid ((Below.drew X1.out).trans (hb2.mono X1.out.size)); have T2 := Lib.hid (T.out.out X2.out); have SS2 := Lib.hid (keep7 SS1.out hb2 (by rw [SZ.out]; omega) (by rw [SZ.out]; omega)); have M2 := Lib.hid ((Below.drew (Below.refl _ w1)).trans hb2); clear hb2)
              | (go_at_call 30; (with_reducible refine (inRange_any T2 f2 _ z2).mono ?_); rintro e w3 ⟨rfl, rfl⟩; rw [HIN.out]))
            go_wp2_with fail
            go_ret
            rw [HE.out]
            exact ⟨rfl, X2.out⟩
          · have HIN := Lib.hid hin
            clear hin
            obtain ⟨w1, hw1⟩ : ∃ w1, w1 = wr.alloc (Obj.cells #[.int .u8 (p2 : Int), .int .u8 (f2 : Int)] 52) := ⟨_, rfl⟩
            have KO := Lib.hid (show Blk w1 wr.heap.size 52 #[.int .u8 (p2 : Int), .int .u8 (f2 : Int)] by rw [hw1]; exact Blk.new _ _ _)
            have L1 := Lib.hid (show Below wr.heap.size wr w1 by rw [hw1]; go_grown)
            have X1 := Lib.hid (HW.out.trans (L1.out.mono hws))
            have HW1 := Lib.hid hw1
            have SZ := Lib.hid (show w1.heap.size = wr.heap.size + 1 by rw [hw1]; simp)
            clear hw1
            have SS1 := Lib.hid (seven K1.out KO.out L1.out)
            go_wp2_with fail
            rw [← HW1.out]
            go_region_held3 (fun w' => w'.cell? ⟨wr.heap.size, 0, none⟩ = some (.int .u8 (p2 : Int)) ∧ w'.cell? ⟨wr.heap.size, 1, none⟩ = some (.int .u8 (f2 : Int)) ∧ w'.cell? ⟨w.heap.size, 0, none⟩ = some (.int .u8 (op : Int)) ∧ w'.cell? ⟨w.heap.size, 1, none⟩ = some (.int .u8 (a : Int)) ∧ w'.cell? ⟨w.heap.size, 2, none⟩ = some (.int .u8 (b : Int)) ∧ w'.cell? ⟨w.heap.size, 3, none⟩ = some (.int .u8 (c : Int)) ∧ w'.cell? ⟨w.heap.size, 4, none⟩ = some (.int .u32 (im : Int))) (first | (with_reducible exact SS1.out) | (with_reducible exact SS2.out) | go_keep) (first
              | (go_at_call 25; (with_reducible refine (operandAt_any ⟨op, a, b, c, im⟩ HI.out p2 y2).mono ?_); rintro e w2 ⟨rfl, hb2⟩; have X2 := Lib.hid ((Below.drew X1.out).trans (hb2.mono X1.out.size)); have T2 := Lib.hid (T.out.out X2.out); have SS2 := Lib.hid (keep7 SS1.out hb2 (by rw [SZ.out]; omega) (by rw [SZ.out]; omega)); have M2 := Lib.hid ((Below.drew (Below.refl _ w1)).trans hb2); clear hb2)
              | (go_at_call 30; (with_reducible refine (inRange_any T2 f2 _ z2).mono ?_); rintro e w3 ⟨rfl, rfl⟩; rw [HIN.out]))
            have K23 := Lib.hid (K2.out.below (L1.out.trans (M2.out.mono (show wr.heap.size ≤ w1.heap.size by rw [SZ.out]; omega))) K2.out.lt)
            have K13 := Lib.hid (K1.out.below (L1.out.trans (M2.out.mono (show wr.heap.size ≤ w1.heap.size by rw [SZ.out]; omega))) K1.out.lt)
            have hs3 : wr.heap.size < w3.heap.size := by have h5 : w1.heap.size ≤ w3.heap.size := M2.out.size; rw [SZ.out] at h5; omega
            clear d0 d1 d2 d3 d4 e0 e1 e2 e3 e4
            have d0 := K23.out.cell 0
            have d1 := K23.out.cell 1
            have d2 := K23.out.cell 2
            have d3 := K23.out.cell 3
            have d4 := K23.out.cell 4
            simp at d0 d1 d2 d3 d4
            have u0 := SS2.out.1
            go_wp2_with (go_at_call 31; refine (withOperand_any rest p2 0 y2).mono ?_; rintro e w4 ⟨rfl, hb4⟩; have K24 := Lib.hid (K23.out.below hb4 K23.out.lt); have K14 := Lib.hid (K13.out.below hb4 K13.out.lt); have X4 := Lib.hid (X2.out.trans (hb4.mono X2.out.size)); obtain ⟨q0, q1, q2, q3, q4, z0', z1', z2', z3', z4'⟩ := ten K24.out; have hs4 : w3.heap.size ≤ w4.heap.size := hb4.size; clear d0 d1 d2 d3 d4 hb4)
            go_roundw
            case rel => exact ⟨3, wOp rest p2 0, by omega, by go_num, Lib.hid (by rw [HC.out]; simp [ckL, HIN.out]), K14.out.below (below5 (B := w.heap.size + 1) (Below.refl _ w4) (Nat.le_refl _) _ _ _ _ _) (Nat.lt_succ_self _), put5 K24.out _ _ _ _ _, below5 X4.out (Nat.le_succ _) _ _ _ _ _⟩
            case measure => simp [intOf]
        · cases hin : inR f3 (opAt ⟨op, a, b, c, im⟩ p3)
          · have HIN := Lib.hid hin
            clear hin
            obtain ⟨w1, hw1⟩ : ∃ w1, w1 = wr.alloc (Obj.cells #[.int .u8 (p3 : Int), .int .u8 (f3 : Int)] 52) := ⟨_, rfl⟩
            have KO := Lib.hid (show Blk w1 wr.heap.size 52 #[.int .u8 (p3 : Int), .int .u8 (f3 : Int)] by rw [hw1]; exact Blk.new _ _ _)
            have L1 := Lib.hid (show Below wr.heap.size wr w1 by rw [hw1]; go_grown)
            have X1 := Lib.hid (HW.out.trans (L1.out.mono hws))
            have HW1 := Lib.hid hw1
            have SZ := Lib.hid (show w1.heap.size = wr.heap.size + 1 by rw [hw1]; simp)
            clear hw1
            have SS1 := Lib.hid (seven K1.out KO.out L1.out)
            have HE := Lib.hid (show ck ⟨op, a, b, c, im⟩ = 4 by rw [HC.out]; simp [ckL, HIN.out])
            go_wp2_with fail
            rw [← HW1.out]
            go_region_held3 (fun w' => w'.cell? ⟨wr.heap.size, 0, none⟩ = some (.int .u8 (p3 : Int)) ∧ w'.cell? ⟨wr.heap.size, 1, none⟩ = some (.int .u8 (f3 : Int)) ∧ w'.cell? ⟨w.heap.size, 0, none⟩ = some (.int .u8 (op : Int)) ∧ w'.cell? ⟨w.heap.size, 1, none⟩ = some (.int .u8 (a : Int)) ∧ w'.cell? ⟨w.heap.size, 2, none⟩ = some (.int .u8 (b : Int)) ∧ w'.cell? ⟨w.heap.size, 3, none⟩ = some (.int .u8 (c : Int)) ∧ w'.cell? ⟨w.heap.size, 4, none⟩ = some (.int .u32 (im : Int))) (first | (with_reducible exact SS1.out) | (with_reducible exact SS2.out) | go_keep) (first
              | (go_at_call 25; (with_reducible refine (operandAt_any ⟨op, a, b, c, im⟩ HI.out p3 y3).mono ?_); rintro e w2 ⟨rfl, hb2⟩; have X2 := Lib.hid ((Below.drew X1.out).trans (hb2.mono X1.out.size)); have T2 := Lib.hid (T.out.out X2.out); have SS2 := Lib.hid (keep7 SS1.out hb2 (by rw [SZ.out]; omega) (by rw [SZ.out]; omega)); have M2 := Lib.hid ((Below.drew (Below.refl _ w1)).trans hb2); clear hb2)
              | (go_at_call 30; (with_reducible refine (inRange_any T2 f3 _ z3).mono ?_); rintro e w3 ⟨rfl, rfl⟩; rw [HIN.out]))
            go_wp2_with fail
            go_ret
            rw [HE.out]
            exact ⟨rfl, X2.out⟩
          · have HIN := Lib.hid hin
            clear hin
            obtain ⟨w1, hw1⟩ : ∃ w1, w1 = wr.alloc (Obj.cells #[.int .u8 (p3 : Int), .int .u8 (f3 : Int)] 52) := ⟨_, rfl⟩
            have KO := Lib.hid (show Blk w1 wr.heap.size 52 #[.int .u8 (p3 : Int), .int .u8 (f3 : Int)] by rw [hw1]; exact Blk.new _ _ _)
            have L1 := Lib.hid (show Below wr.heap.size wr w1 by rw [hw1]; go_grown)
            have X1 := Lib.hid (HW.out.trans (L1.out.mono hws))
            have HW1 := Lib.hid hw1
            have SZ := Lib.hid (show w1.heap.size = wr.heap.size + 1 by rw [hw1]; simp)
            clear hw1
            have SS1 := Lib.hid (seven K1.out KO.out L1.out)
            go_wp2_with fail
            rw [← HW1.out]
            go_region_held3 (fun w' => w'.cell? ⟨wr.heap.size, 0, none⟩ = some (.int .u8 (p3 : Int)) ∧ w'.cell? ⟨wr.heap.size, 1, none⟩ = some (.int .u8 (f3 : Int)) ∧ w'.cell? ⟨w.heap.size, 0, none⟩ = some (.int .u8 (op : Int)) ∧ w'.cell? ⟨w.heap.size, 1, none⟩ = some (.int .u8 (a : Int)) ∧ w'.cell? ⟨w.heap.size, 2, none⟩ = some (.int .u8 (b : Int)) ∧ w'.cell? ⟨w.heap.size, 3, none⟩ = some (.int .u8 (c : Int)) ∧ w'.cell? ⟨w.heap.size, 4, none⟩ = some (.int .u32 (im : Int))) (first | (with_reducible exact SS1.out) | (with_reducible exact SS2.out) | go_keep) (first
              | (go_at_call 25; (with_reducible refine (operandAt_any ⟨op, a, b, c, im⟩ HI.out p3 y3).mono ?_); rintro e w2 ⟨rfl, hb2⟩; have X2 := Lib.hid ((Below.drew X1.out).trans (hb2.mono X1.out.size)); have T2 := Lib.hid (T.out.out X2.out); have SS2 := Lib.hid (keep7 SS1.out hb2 (by rw [SZ.out]; omega) (by rw [SZ.out]; omega)); have M2 := Lib.hid ((Below.drew (Below.refl _ w1)).trans hb2); clear hb2)
              | (go_at_call 30; (with_reducible refine (inRange_any T2 f3 _ z3).mono ?_); rintro e w3 ⟨rfl, rfl⟩; rw [HIN.out]))
            have K23 := Lib.hid (K2.out.below (L1.out.trans (M2.out.mono (show wr.heap.size ≤ w1.heap.size by rw [SZ.out]; omega))) K2.out.lt)
            have K13 := Lib.hid (K1.out.below (L1.out.trans (M2.out.mono (show wr.heap.size ≤ w1.heap.size by rw [SZ.out]; omega))) K1.out.lt)
            have hs3 : wr.heap.size < w3.heap.size := by have h5 : w1.heap.size ≤ w3.heap.size := M2.out.size; rw [SZ.out] at h5; omega
            clear d0 d1 d2 d3 d4 e0 e1 e2 e3 e4
            have d0 := K23.out.cell 0
            have d1 := K23.out.cell 1
            have d2 := K23.out.cell 2
            have d3 := K23.out.cell 3
            have d4 := K23.out.cell 4
            simp at d0 d1 d2 d3 d4
            have u0 := SS2.out.1
            go_wp2_with (go_at_call 31; refine (withOperand_any rest p3 0 y3).mono ?_; rintro e w4 ⟨rfl, hb4⟩; have K24 := Lib.hid (K23.out.below hb4 K23.out.lt); have K14 := Lib.hid (K13.out.below hb4 K13.out.lt); have X4 := Lib.hid (X2.out.trans (hb4.mono X2.out.size)); obtain ⟨q0, q1, q2, q3, q4, z0', z1', z2', z3', z4'⟩ := ten K24.out; have hs4 : w3.heap.size ≤ w4.heap.size := hb4.size; clear d0 d1 d2 d3 d4 hb4)
            go_roundw
            case rel => exact ⟨4, wOp rest p3 0, by omega, by go_num, Lib.hid (by rw [HC.out]; simp [ckL, HIN.out]), K14.out.below (below5 (B := w.heap.size + 1) (Below.refl _ w4) (Nat.le_refl _) _ _ _ _ _) (Nat.lt_succ_self _), put5 K24.out _ _ _ _ _, below5 X4.out (Nat.le_succ _) _ _ _ _ _⟩
            case measure => simp [intOf]
        · have HE := HC.out
          simp only [List.drop, ckL] at HE
          replace HE := Lib.hid HE
          by_cases hr : rest = ⟨op, 0, 0, 0, 0⟩
          · subst hr
            go_wp2_with fail
            go_ret
            rw [HE.out]
            exact ⟨by simp, HW.out⟩
          · have HN := Lib.hid hr
            clear hr
            go_wp2_with fail
            all_goals
              go_ret
              rw [HE.out, if_neg HN.out]
              first
                | exact ⟨rfl, HW.out⟩
                | (exfalso; apply HN.out; cases rest; simp_all; omega)
end
end Go.Proofs.YtcedjjolikmbbaaDoor
