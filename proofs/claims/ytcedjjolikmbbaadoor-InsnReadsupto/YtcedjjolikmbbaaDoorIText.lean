/- The contracts of word and Text. Condition: the tables lie in their blocks. -/
import Derived.Test.YtcedjjolikmbbaaDoorICheck
import Derived.Test.YtcedjjolikmbbaaDoorIDec
namespace Go.Proofs.YtcedjjolikmbbaaDoor
open Go.RowKit
set_option maxRecDepth 100000
set_option maxHeartbeats 4000000

theorem sign_len (f : Nat) : (signN f).length ≤ 20 := getD_len signT (by decide) f
theorem five {w : World} {g : Nat} {t : TypeId} {v0 v1 v2 v3 v4 : Value} (h : Blk w g t #[v0, v1, v2, v3, v4]) :
    w.cell? ⟨g, 0, none⟩ = some v0 ∧ w.cell? ⟨g, 1, none⟩ = some v1 ∧ w.cell? ⟨g, 2, none⟩ = some v2 ∧ w.cell? ⟨g, 3, none⟩ = some v3 ∧ w.cell? ⟨g, 4, none⟩ = some v4 :=
  ⟨h.cell 0, h.cell 1, h.cell 2, h.cell 3, h.cell 4⟩
theorem keepS {w1 w2 : World} {B b g : Nat} {p f v0 v1 v2 v3 v4 : Value} (h : S7 w1 g b p f v0 v1 v2 v3 v4) (l : Below B w1 w2) (hb : b < B) (hg : g < B) : S7 w2 g b p f v0 v1 v2 v3 v4 := by
  have go : ∀ (x q : Nat), x < B → w2.cell? ⟨x, q, none⟩ = w1.cell? ⟨x, q, none⟩ := fun x q hx => l.cell (p := ⟨x, q, none⟩) hx
  obtain ⟨h0, h1, h2, h3, h4, h5, h6⟩ := h
  exact ⟨(go _ _ hg).trans h0, (go _ _ hg).trans h1, (go _ _ hb).trans h2, (go _ _ hb).trans h3, (go _ _ hb).trans h4, (go _ _ hb).trans h5, (go _ _ hb).trans h6⟩
theorem seven2 {w1 : World} {b g : Nat} {t t' : TypeId} {p f v0 v1 v2 v3 v4 : Value} (h : Blk w1 b t #[v0, v1, v2, v3, v4]) (k : Blk w1 g t' #[p, f]) : S7 w1.drew g b p f v0 v1 v2 v3 v4 :=
  ⟨k.cell 0, k.cell 1, h.cell 0, h.cell 1, h.cell 2, h.cell 3, h.cell 4⟩
theorem ckL_in {i : In} : ∀ {l : List (Nat × Nat)} {r : In}, ckL i l r = 0 → ∀ o ∈ l, inR o.2 (opAt i o.1) = true
  | [], _, _, o, ho => by cases ho
  | x :: l, r, h, o, ho => by
    unfold ckL at h
    split at h
    · rename_i hx
      rcases List.mem_cons.1 ho with rfl | ho
      · exact hx
      · exact ckL_in h o ho
    · cases h
theorem ck_in {i : In} (h : ck i = 0) : (1 ≤ i.op ∧ i.op ≤ 15) ∧ ∀ o ∈ rowN i.op, inR o.2 (opAt i o.1) = true := by
  unfold ck at h
  split at h
  · cases h
  · exact ⟨by omega, ckL_in h⟩
theorem inR_le {f v : Nat} (h : inR f v = true) : v ≤ highN f := by
  simp [inR] at h
  exact h.2
theorem ck_fwOk {i : In} (h : ck i = 0) : fwOk i := by
  obtain ⟨h1, h2⟩ := ck_in h
  refine ⟨by omega, ?_, ?_⟩
  · rintro (e | e)
    · have := inR_le (h2 (3, 7) (by rw [e]; decide))
      simpa [opAt, highN, highT, Nat.lt_succ_iff] using this
    · have := inR_le (h2 (3, 7) (by rw [e]; decide))
      simpa [opAt, highN, highT, Nat.lt_succ_iff] using this
  · rintro (e | e)
    · have := inR_le (h2 (3, 8) (by rw [e]; decide))
      simpa [opAt, highN, highT, Nat.lt_succ_iff] using this
    · have := inR_le (h2 (3, 8) (by rw [e]; decide))
      simpa [opAt, highN, highT, Nat.lt_succ_iff] using this
theorem fw_len (i : In) : (fw i).length ≤ 40 := by
  have h1 := alu_len i.c
  have h2 := cond_len i.c
  have h3 := ops_len i.op
  unfold fw
  (repeat' split) <;> (try simp only [List.length_append, List.length_cons, List.length_nil]) <;> omega
theorem wd_len (f v : Nat) (hv : v < 4294967296) : (wd f v).length ≤ 30 := by
  have h1 := help_len v
  have h2 := sign_len f
  have h3 := dec_len10 v hv
  unfold wd
  split <;> (try simp only [List.length_append]) <;> omega
section
variable {w : World}
theorem word_any (T : Hid (Tabs w)) (f v : Nat) (hf : f < 10) (hv : v < 4294967296) (h9 : f = 9 → v < 23) : Calls Tryd.prog 24 #[.int .u8 (f : Int), .int .u32 (v : Int)] w fun e w' => e = .returned (sv (wd f v)) ∧ Below w.heap.size w w' := by
  by_cases e9 : f = 9
  · subst e9
    have hv' : (v : Int) < 23 := by have := h9 rfl; omega
    have cc := T.out.help v (h9 rfl)
    have HL := Lib.hid (show wd 9 v = helpT.getD v [] from rfl)
    unfold sv at cc ⊢
    go_enter Tryd.func24, Tryd.ntmps24
    go_wp2_with fail
    go_ret
    rw [HL.out]
    exact ⟨rfl, Below.refl _ _⟩
  · have n9 : ((f : Int) == 9) = false := by simp; omega
    have hf' : (f : Int) < 10 := by omega
    obtain ⟨_, _, cc⟩ := T.out.forms f hf
    have hl := sign_len f
    have hd := dec_len10 v hv
    have hwd : wd f v = signN f ++ Lib.decDigits v := by simp [wd, e9]
    generalize signN f = X at cc hl hwd
    unfold sv at cc ⊢
    have DC := Lib.hid fun (W : World) (T : Hid (Tabs W)) => decimal_any T v hv
    have s1 : ¬ 9223372036854775807 < (st X).size + (st (Lib.decDigits v)).size := by rw [st_size, st_size]; omega
    have HL := Lib.hid (show st (wd f v) = st X ++ st (Lib.decDigits v) by rw [hwd, st_app])
    have CC := Lib.hid cc
    have C5 := Lib.hid (show 5 < w.heap.size by have := T.out.size; omega)
    clear hwd hl hd
    go_enter Tryd.func24, Tryd.ntmps24
    go_wp2_with fail
    go_region_held3 (fun w' => w'.cell? ⟨5, f * 3 + 2, none⟩ = some (.string (st X))) (first | (with_reducible exact cc) | (with_reducible exact E2.out) | go_keep) (first
      | (go_at_call 41; (refine (DC.out _ (Lib.hid (T.out.below (Below.drew (Below.refl w.heap.size w)) T.out.size))).mono ?_); rintro e w2 ⟨rfl, hb2⟩; have E2 := Lib.hid ((hb2.cell (p := ⟨5, f * 3 + 2, none⟩) C5.out).trans CC.out); have X2 := Lib.hid ((Below.drew (Below.refl w.heap.size w)).trans hb2); clear hb2; unfold sv))
    go_wp2_with fail
    go_ret
    rw [HL.out]
    exact ⟨rfl, X2.out⟩
theorem text_any (T : Hid (Tabs w)) (i : In) (hi : i.ok) : Calls Tryd.prog 11 #[iv i] w fun e w' => e = .returned (.tuple #[sv (tx i), .int .i64 (ck i : Int)]) ∧ Below w.heap.size w w' := by
  have HI := Lib.hid hi
  obtain ⟨op, a, b, c, im⟩ := i
  unfold iv sv
  have T1 := Lib.hid (T.out.out (show Below w.heap.size w (w.alloc (Obj.cells #[.int .u8 (op : Int), .int .u8 (a : Int), .int .u8 (b : Int), .int .u8 (c : Int), .int .u32 (im : Int)] 24)) by go_grown))
  by_cases hz : ck ⟨op, a, b, c, im⟩ = 0
  · have HZ := Lib.hid hz
    have HO := Lib.hid (ck_fwOk hz)
    obtain ⟨⟨o1, o2⟩, hin⟩ := ck_in hz
    simp only at o1 o2 hin
    obtain ⟨p0, f0, p1, f1, p2, f2, p3, f3, HR, ⟨y0, z0, y1, z1, y2, z2, y3, z3⟩, r0, s0, r1, s1, r2, s2, r3, s3⟩ := T.out.row op (by omega)
    rw [HR.out] at hin
    have R0 := Lib.hid (hin (p0, f0) (by simp))
    have R1 := Lib.hid (hin (p1, f1) (by simp))
    have R2 := Lib.hid (hin (p2, f2) (by simp))
    have R3 := Lib.hid (hin (p3, f3) (by simp))
    have HL := Lib.hid (show tx ⟨op, a, b, c, im⟩ = txL ⟨op, a, b, c, im⟩ [(p0, f0), (p1, f1), (p2, f2), (p3, f3)] (fw ⟨op, a, b, c, im⟩) by unfold tx; rw [if_pos hz, HR.out])
    have q1 : (op : Int) < 16 := by omega
    have b0 : 0 < w.heap.size := by have := T.out.size; omega
    have KB := Lib.hid (Blk.new w 24 #[.int .u8 (op : Int), .int .u8 (a : Int), .int .u8 (b : Int), .int .u8 (c : Int), .int .u32 (im : Int)])
    have GB := Lib.hid (show Below w.heap.size w (w.alloc (Obj.cells #[.int .u8 (op : Int), .int .u8 (a : Int), .int .u8 (b : Int), .int .u8 (c : Int), .int .u32 (im : Int)] 24)) by go_grown)
    clear hz hin
    go_enter Tryd.func11, Tryd.ntmps11
    go_wp2_with (first
      | (go_at_call 13; refine (check_any T1 ⟨op, a, b, c, im⟩ HI.out).mono ?_; rintro e w1 ⟨rfl, hb1⟩; rw [HZ.out]; have G1 := Lib.hid (GB.out.trans (hb1.mono GB.out.size)); have K1 := Lib.hid (KB.out.below hb1 (by simp)); have T2 := Lib.hid (T1.out.out hb1); obtain ⟨e0, e1, e2, e3, e4⟩ := five K1.out; clear hb1)
      | (go_at_call 22; refine (firstWord_any T2 ⟨op, a, b, c, im⟩ HO.out).mono ?_; rintro e w2 ⟨rfl, hb2⟩; have G2 := Lib.hid (G1.out.trans (hb2.mono G1.out.size)); have K2 := Lib.hid (K1.out.below hb2 K1.out.lt); replace e0 := K2.out.cell 0; have T3 := Lib.hid (T2.out.out hb2); simp at e0; clear e1 e2 e3 e4 hb2; replace r0 := (G2.out.cell (p := ⟨0, op * 8, none⟩) b0).trans r0; replace s0 := (G2.out.cell (p := ⟨0, op * 8 + 1, none⟩) b0).trans s0; replace r1 := (G2.out.cell (p := ⟨0, op * 8 + 2, none⟩) b0).trans r1; replace s1 := (G2.out.cell (p := ⟨0, op * 8 + 3, none⟩) b0).trans s1; replace r2 := (G2.out.cell (p := ⟨0, op * 8 + 4, none⟩) b0).trans r2; replace s2 := (G2.out.cell (p := ⟨0, op * 8 + 5, none⟩) b0).trans s2; replace r3 := (G2.out.cell (p := ⟨0, op * 8 + 6, none⟩) b0).trans r3; replace s3 := (G2.out.cell (p := ⟨0, op * 8 + 7, none⟩) b0).trans s3; unfold sv))
    have ix0 := @run_ix0
    have ix1 := @run_ix1
    have ix2 := @run_ix2
    have ix3 := @run_ix3
    go_loopw [5, 19] (fun s k wr => ∃ (j : Nat) (S : List UInt8), j ≤ 4 ∧ k = .int .i64 j ∧ s = .string (st S) ∧ S.length ≤ 40 + 40 * j ∧ Hid (tx ⟨op, a, b, c, im⟩ = txL ⟨op, a, b, c, im⟩ ([(p0, f0), (p1, f1), (p2, f2), (p3, f3)].drop j) S) ∧ Hid (Blk wr w.heap.size 24 #[.int .u8 (op : Int), .int .u8 (a : Int), .int .u8 (b : Int), .int .u8 (c : Int), .int .u32 (im : Int)]) ∧ Hid (Below w.heap.size w wr)) (fun _ k _ => 4 - (intOf k).toNat)
    case atStart => exact ⟨0, fw ⟨op, a, b, c, im⟩, Nat.zero_le _, rfl, rfl, fw_len _, HL.out, K2.out, G2.out⟩
    case round =>
      obtain ⟨j, S, hj, rfl, rfl, hS, HC, K1, HW⟩ := hrel
      clear KB GB r0 s0 r1 s1 r2 s2 r3 s3 e0
      have hws := HW.out.size
      have l1 : w.heap.size < wr.heap.size := K1.out.lt
      have TW := Lib.hid (T.out.out HW.out)
      rcases (show j = 0 ∨ j = 1 ∨ j = 2 ∨ j = 3 ∨ j = 4 by omega) with rfl | rfl | rfl | rfl | rfl
      · obtain ⟨w1, hw1⟩ : ∃ w1, w1 = wr.alloc (Obj.cells #[.int .u8 (p0 : Int), .int .u8 (f0 : Int)] 52) := ⟨_, rfl⟩
        have KO := Lib.hid (show Blk w1 wr.heap.size 52 #[.int .u8 (p0 : Int), .int .u8 (f0 : Int)] by rw [hw1]; exact Blk.new _ _ _)
        have L1 := Lib.hid (show Below wr.heap.size wr w1 by rw [hw1]; go_grown)
        have X1 := Lib.hid (HW.out.trans (L1.out.mono hws))
        have HW1 := Lib.hid hw1
        have K11 := Lib.hid (K1.out.below L1.out K1.out.lt)
        have SZ := Lib.hid (show w1.heap.size = wr.heap.size + 1 by rw [hw1]; simp)
        clear hw1
        cases hwd : hw p0 f0
        · have HD := Lib.hid hwd
          have HE := Lib.hid (show tx ⟨op, a, b, c, im⟩ = txL ⟨op, a, b, c, im⟩ ([(p0, f0), (p1, f1), (p2, f2), (p3, f3)].drop (0 + 1)) S by rw [HC.out]; simp [txL, hwd])
          clear hwd
          go_wp2_with (go_at_call 23; rw [← HW1.out]; refine (hasWord_any p0 f0).mono ?_; rintro e w2 ⟨rfl, hb2⟩; rw [HD.out]; have X2 := Lib.hid (X1.out.trans (hb2.mono X1.out.size)); have K12 := Lib.hid (K11.out.below hb2 K11.out.lt); clear hb2)
          go_roundw
          case rel => exact ⟨0 + 1, S, by omega, by go_num, rfl, by omega, HE.out, K12.out, X2.out⟩
          case measure => simp [intOf]
        · have HD := Lib.hid hwd
          have hv := opAt_lt HI.out p0
          have h9 : f0 = 9 → opAt ⟨op, a, b, c, im⟩ p0 < 23 := by
            intro e9
            have := inR_le R0.out
            rw [e9] at this
            simpa [highN, highT, Nat.lt_succ_iff] using this
          have hwl := wd_len f0 (opAt ⟨op, a, b, c, im⟩ p0) hv
          have HE := Lib.hid (show tx ⟨op, a, b, c, im⟩ = txL ⟨op, a, b, c, im⟩ ([(p0, f0), (p1, f1), (p2, f2), (p3, f3)].drop (0 + 1)) (S ++ (32 :: wd f0 (opAt ⟨op, a, b, c, im⟩ p0))) by rw [HC.out]; simp [txL, hwd])
          have WD := Lib.hid fun (W : World) (T : Hid (Tabs W)) => word_any T f0 (opAt ⟨op, a, b, c, im⟩ p0) z0 hv h9
          clear hwd h9 hv
          generalize wd f0 (opAt ⟨op, a, b, c, im⟩ p0) = V at hwl HE WD
          have g1 : ¬ 9223372036854775807 < 1 + (st V).size := by rw [st_size]; omega
          have g2 : ¬ 9223372036854775807 < (st S).size + (1 + (st V).size) := by rw [st_size, st_size]; omega
          have HA := Lib.hid (show st S ++ ((⟨#[32]⟩ : ByteArray) ++ st V) = st (S ++ (32 :: V)) by rw [show (⟨#[32]⟩ : ByteArray) = st [32] from rfl, st_app, st_app]; rfl)
          go_wp2_with (go_at_call 23; rw [← HW1.out]; refine (hasWord_any p0 f0).mono ?_; rintro e w2 ⟨rfl, hb2⟩; rw [HD.out]; have X2 := Lib.hid (X1.out.trans (hb2.mono X1.out.size)); have K12 := Lib.hid (K11.out.below hb2 K11.out.lt); have KO2 := Lib.hid (KO.out.below hb2 KO.out.lt); clear hb2)
          have SS1 := Lib.hid (seven2 K12.out KO2.out)
          have m1 := K12.out.lt
          have m2 := KO2.out.lt
          go_region_held3 (fun w' => w'.cell? ⟨wr.heap.size, 0, none⟩ = some (.int .u8 (p0 : Int)) ∧ w'.cell? ⟨wr.heap.size, 1, none⟩ = some (.int .u8 (f0 : Int)) ∧ w'.cell? ⟨w.heap.size, 0, none⟩ = some (.int .u8 (op : Int)) ∧ w'.cell? ⟨w.heap.size, 1, none⟩ = some (.int .u8 (a : Int)) ∧ w'.cell? ⟨w.heap.size, 2, none⟩ = some (.int .u8 (b : Int)) ∧ w'.cell? ⟨w.heap.size, 3, none⟩ = some (.int .u8 (c : Int)) ∧ w'.cell? ⟨w.heap.size, 4, none⟩ = some (.int .u32 (im : Int))) (first | (with_reducible exact SS1.out) | (with_reducible exact SS2.out) | (with_reducible exact SS3.out) | go_keep) (first
            | (go_at_call 25; (with_reducible refine (operandAt_any ⟨op, a, b, c, im⟩ HI.out p0 y0).mono ?_); rintro e w3 ⟨rfl, hb3⟩; have X3 := Lib.hid ((Below.drew X2.out).trans (hb3.mono X2.out.size)); have T3' := Lib.hid (T.out.out X3.out); have SS2 := Lib.hid (keepS SS1.out hb3 m1 m2); have M3 := Lib.hid ((Below.drew (Below.refl _ w2)).trans hb3); have mm : w2.heap.size ≤ w3.heap.size := hb3.size; clear hb3)
            | (go_at_call 24; (with_reducible refine (WD.out _ T3').mono ?_); rintro e w4 ⟨rfl, hb4⟩; have SS3 := Lib.hid (keepS SS2.out hb4 (Nat.lt_of_lt_of_le m1 mm) (Nat.lt_of_lt_of_le m2 mm)); have X4 := Lib.hid (X3.out.trans (hb4.mono X3.out.size)); have K14 := Lib.hid (K12.out.below (M3.out.trans (hb4.mono mm)) m1); clear hb4; unfold sv))
          go_wp2_with fail
          go_roundw
          case rel => exact ⟨0 + 1, S ++ (32 :: V), by omega, by go_num, by rw [← HA.out], by simp only [List.length_append, List.length_cons]; omega, HE.out, K14.out, X4.out⟩
          case measure => simp [intOf]
      · obtain ⟨w1, hw1⟩ : ∃ w1, w1 = wr.alloc (Obj.cells #[.int .u8 (p1 : Int), .int .u8 (f1 : Int)] 52) := ⟨_, rfl⟩
        have KO := Lib.hid (show Blk w1 wr.heap.size 52 #[.int .u8 (p1 : Int), .int .u8 (f1 : Int)] by rw [hw1]; exact Blk.new _ _ _)
        have L1 := Lib.hid (show Below wr.heap.size wr w1 by rw [hw1]; go_grown)
        have X1 := Lib.hid (HW.out.trans (L1.out.mono hws))
        have HW1 := Lib.hid hw1
        have K11 := Lib.hid (K1.out.below L1.out K1.out.lt)
        have SZ := Lib.hid (show w1.heap.size = wr.heap.size + 1 by rw [hw1]; simp)
        clear hw1
        cases hwd : hw p1 f1
        · have HD := Lib.hid hwd
          have HE := Lib.hid (show tx ⟨op, a, b, c, im⟩ = txL ⟨op, a, b, c, im⟩ ([(p0, f0), (p1, f1), (p2, f2), (p3, f3)].drop (1 + 1)) S by rw [HC.out]; simp [txL, hwd])
          clear hwd
          go_wp2_with (go_at_call 23; rw [← HW1.out]; refine (hasWord_any p1 f1).mono ?_; rintro e w2 ⟨rfl, hb2⟩; rw [HD.out]; have X2 := Lib.hid (X1.out.trans (hb2.mono X1.out.size)); have K12 := Lib.hid (K11.out.below hb2 K11.out.lt); clear hb2)
          go_roundw
          case rel => exact ⟨1 + 1, S, by omega, by go_num, rfl, by omega, HE.out, K12.out, X2.out⟩
          case measure => simp [intOf]
        · have HD := Lib.hid hwd
          have hv := opAt_lt HI.out p1
          have h9 : f1 = 9 → opAt ⟨op, a, b, c, im⟩ p1 < 23 := by
            intro e9
            have := inR_le R1.out
            rw [e9] at this
            simpa [highN, highT, Nat.lt_succ_iff] using this
          have hwl := wd_len f1 (opAt ⟨op, a, b, c, im⟩ p1) hv
          have HE := Lib.hid (show tx ⟨op, a, b, c, im⟩ = txL ⟨op, a, b, c, im⟩ ([(p0, f0), (p1, f1), (p2, f2), (p3, f3)].drop (1 + 1)) (S ++ (32 :: wd f1 (opAt ⟨op, a, b, c, im⟩ p1))) by rw [HC.out]; simp [txL, hwd])
          have WD := Lib.hid fun (W : World) (T : Hid (Tabs W)) => word_any T f1 (opAt ⟨op, a, b, c, im⟩ p1) z1 hv h9
          clear hwd h9 hv
          generalize wd f1 (opAt ⟨op, a, b, c, im⟩ p1) = V at hwl HE WD
          have g1 : ¬ 9223372036854775807 < 1 + (st V).size := by rw [st_size]; omega
          have g2 : ¬ 9223372036854775807 < (st S).size + (1 + (st V).size) := by rw [st_size, st_size]; omega
          have HA := Lib.hid (show st S ++ ((⟨#[32]⟩ : ByteArray) ++ st V) = st (S ++ (32 :: V)) by rw [show (⟨#[32]⟩ : ByteArray) = st [32] from rfl, st_app, st_app]; rfl)
          go_wp2_with (go_at_call 23; rw [← HW1.out]; refine (hasWord_any p1 f1).mono ?_; rintro e w2 ⟨rfl, hb2⟩; rw [HD.out]; have X2 := Lib.hid (X1.out.trans (hb2.mono X1.out.size)); have K12 := Lib.hid (K11.out.below hb2 K11.out.lt); have KO2 := Lib.hid (KO.out.below hb2 KO.out.lt); clear hb2)
          have SS1 := Lib.hid (seven2 K12.out KO2.out)
          have m1 := K12.out.lt
          have m2 := KO2.out.lt
          go_region_held3 (fun w' => w'.cell? ⟨wr.heap.size, 0, none⟩ = some (.int .u8 (p1 : Int)) ∧ w'.cell? ⟨wr.heap.size, 1, none⟩ = some (.int .u8 (f1 : Int)) ∧ w'.cell? ⟨w.heap.size, 0, none⟩ = some (.int .u8 (op : Int)) ∧ w'.cell? ⟨w.heap.size, 1, none⟩ = some (.int .u8 (a : Int)) ∧ w'.cell? ⟨w.heap.size, 2, none⟩ = some (.int .u8 (b : Int)) ∧ w'.cell? ⟨w.heap.size, 3, none⟩ = some (.int .u8 (c : Int)) ∧ w'.cell? ⟨w.heap.size, 4, none⟩ = some (.int .u32 (im : Int))) (first | (with_reducible exact SS1.out) | (with_reducible exact SS2.out) | (with_reducible exact SS3.out) | go_keep) (first
            | (go_at_call 25; (with_reducible refine (operandAt_any ⟨op, a, b, c, im⟩ HI.out p1 y1).mono ?_); rintro e w3 ⟨rfl, hb3⟩; have X3 := Lib.hid ((Below.drew X2.out).trans (hb3.mono X2.out.size)); have T3' := Lib.hid (T.out.out X3.out); have SS2 := Lib.hid (keepS SS1.out hb3 m1 m2); have M3 := Lib.hid ((Below.drew (Below.refl _ w2)).trans hb3); have mm : w2.heap.size ≤ w3.heap.size := hb3.size; clear hb3)
            | (go_at_call 24; (with_reducible refine (WD.out _ T3').mono ?_); rintro e w4 ⟨rfl, hb4⟩; have SS3 := Lib.hid (keepS SS2.out hb4 (Nat.lt_of_lt_of_le m1 mm) (Nat.lt_of_lt_of_le m2 mm)); have X4 := Lib.hid (X3.out.trans (hb4.mono X3.out.size)); have K14 := Lib.hid (K12.out.below (M3.out.trans (hb4.mono mm)) m1); clear hb4; unfold sv))
          go_wp2_with fail
          go_roundw
          case rel => exact ⟨1 + 1, S ++ (32 :: V), by omega, by go_num, by rw [← HA.out], by simp only [List.length_append, List.length_cons]; omega, HE.out, K14.out, X4.out⟩
          case measure => simp [intOf]
      · obtain ⟨w1, hw1⟩ : ∃ w1, w1 = wr.alloc (Obj.cells #[.int .u8 (p2 : Int), .int .u8 (f2 : Int)] 52) := ⟨_, rfl⟩
        have KO := Lib.hid (show Blk w1 wr.heap.size 52 #[.int .u8 (p2 : Int), .int .u8 (f2 : Int)] by rw [hw1]; exact Blk.new _ _ _)
        have L1 := Lib.hid (show Below wr.heap.size wr w1 by rw [hw1]; go_grown)
        have X1 := Lib.hid (HW.out.trans (L1.out.mono hws))
        have HW1 := Lib.hid hw1
        have K11 := Lib.hid (K1.out.below L1.out K1.out.lt)
        have SZ := Lib.hid (show w1.heap.size = wr.heap.size + 1 by rw [hw1]; simp)
        clear hw1
        cases hwd : hw p2 f2
        · have HD := Lib.hid hwd
          have HE := Lib.hid (show tx ⟨op, a, b, c, im⟩ = txL ⟨op, a, b, c, im⟩ ([(p0, f0), (p1, f1), (p2, f2), (p3, f3)].drop (2 + 1)) S by rw [HC.out]; simp [txL, hwd])
          clear hwd
          go_wp2_with (go_at_call 23; rw [← HW1.out]; refine (hasWord_any p2 f2).mono ?_; rintro e w2 ⟨rfl, hb2⟩; rw [HD.out]; have X2 := Lib.hid (X1.out.trans (hb2.mono X1.out.size)); have K12 := Lib.hid (K11.out.below hb2 K11.out.lt); clear hb2)
          go_roundw
          case rel => exact ⟨2 + 1, S, by omega, by go_num, rfl, by omega, HE.out, K12.out, X2.out⟩
          case measure => simp [intOf]
        · have HD := Lib.hid hwd
          have hv := opAt_lt HI.out p2
          have h9 : f2 = 9 → opAt ⟨op, a, b, c, im⟩ p2 < 23 := by
            intro e9
            have := inR_le R2.out
            rw [e9] at this
            simpa [highN, highT, Nat.lt_succ_iff] using this
          have hwl := wd_len f2 (opAt ⟨op, a, b, c, im⟩ p2) hv
          have HE := Lib.hid (show tx ⟨op, a, b, c, im⟩ = txL ⟨op, a, b, c, im⟩ ([(p0, f0), (p1, f1), (p2, f2), (p3, f3)].drop (2 + 1)) (S ++ (32 :: wd f2 (opAt ⟨op, a, b, c, im⟩ p2))) by rw [HC.out]; simp [txL, hwd])
          have WD := Lib.hid fun (W : World) (T : Hid (Tabs W)) => word_any T f2 (opAt ⟨op, a, b, c, im⟩ p2) z2 hv h9
          clear hwd h9 hv
          generalize wd f2 (opAt ⟨op, a, b, c, im⟩ p2) = V at hwl HE WD
          have g1 : ¬ 9223372036854775807 < 1 + (st V).size := by rw [st_size]; omega
          have g2 : ¬ 9223372036854775807 < (st S).size + (1 + (st V).size) := by rw [st_size, st_size]; omega
          have HA := Lib.hid (show st S ++ ((⟨#[32]⟩ : ByteArray) ++ st V) = st (S ++ (32 :: V)) by rw [show (⟨#[32]⟩ : ByteArray) = st [32] from rfl, st_app, st_app]; rfl)
          go_wp2_with (go_at_call 23; rw [← HW1.out]; refine (hasWord_any p2 f2).mono ?_; rintro e w2 ⟨rfl, hb2⟩; rw [HD.out]; have X2 := Lib.hid (X1.out.trans (hb2.mono X1.out.size)); have K12 := Lib.hid (K11.out.below hb2 K11.out.lt); have KO2 := Lib.hid (KO.out.below hb2 KO.out.lt); clear hb2)
          have SS1 := Lib.hid (seven2 K12.out KO2.out)
          have m1 := K12.out.lt
          have m2 := KO2.out.lt
          go_region_held3 (fun w' => w'.cell? ⟨wr.heap.size, 0, none⟩ = some (.int .u8 (p2 : Int)) ∧ w'.cell? ⟨wr.heap.size, 1, none⟩ = some (.int .u8 (f2 : Int)) ∧ w'.cell? ⟨w.heap.size, 0, none⟩ = some (.int .u8 (op : Int)) ∧ w'.cell? ⟨w.heap.size, 1, none⟩ = some (.int .u8 (a : Int)) ∧ w'.cell? ⟨w.heap.size, 2, none⟩ = some (.int .u8 (b : Int)) ∧ w'.cell? ⟨w.heap.size, 3, none⟩ = some (.int .u8 (c : Int)) ∧ w'.cell? ⟨w.heap.size, 4, none⟩ = some (.int .u32 (im : Int))) (first | (with_reducible exact SS1.out) | (with_reducible exact SS2.out) | (with_reducible exact SS3.out) | go_keep) (first
            | (go_at_call 25; (with_reducible refine (operandAt_any ⟨op, a, b, c, im⟩ HI.out p2 y2).mono ?_); rintro e w3 ⟨rfl, hb3⟩; have X3 := Lib.hid ((Below.drew X2.out).trans (hb3.mono X2.out.size)); have T3' := Lib.hid (T.out.out X3.out); have SS2 := Lib.hid (keepS SS1.out hb3 m1 m2); have M3 := Lib.hid ((Below.drew (Below.refl _ w2)).trans hb3); have mm : w2.heap.size ≤ w3.heap.size := hb3.size; clear hb3)
            | (go_at_call 24; (with_reducible refine (WD.out _ T3').mono ?_); rintro e w4 ⟨rfl, hb4⟩; have SS3 := Lib.hid (keepS SS2.out hb4 (Nat.lt_of_lt_of_le m1 mm) (Nat.lt_of_lt_of_le m2 mm)); have X4 := Lib.hid (X3.out.trans (hb4.mono X3.out.size)); have K14 := Lib.hid (K12.out.below (M3.out.trans (hb4.mono mm)) m1); clear hb4; unfold sv))
          go_wp2_with fail
          go_roundw
          case rel => exact ⟨2 + 1, S ++ (32 :: V), by omega, by go_num, by rw [← HA.out], by simp only [List.length_append, List.length_cons]; omega, HE.out, K14.out, X4.out⟩
          case measure => simp [intOf]
      · obtain ⟨w1, hw1⟩ : ∃ w1, w1 = wr.alloc (Obj.cells #[.int .u8 (p3 : Int), .int .u8 (f3 : Int)] 52) := ⟨_, rfl⟩
        have KO := Lib.hid (show Blk w1 wr.heap.size 52 #[.int .u8 (p3 : Int), .int .u8 (f3 : Int)] by rw [hw1]; exact Blk.new _ _ _)
        have L1 := Lib.hid (show Below wr.heap.size wr w1 by rw [hw1]; go_grown)
        have X1 := Lib.hid (HW.out.trans (L1.out.mono hws))
        have HW1 := Lib.hid hw1
        have K11 := Lib.hid (K1.out.below L1.out K1.out.lt)
        have SZ := Lib.hid (show w1.heap.size = wr.heap.size + 1 by rw [hw1]; simp)
        clear hw1
        cases hwd : hw p3 f3
        · have HD := Lib.hid hwd
          have HE := Lib.hid (show tx ⟨op, a, b, c, im⟩ = txL ⟨op, a, b, c, im⟩ ([(p0, f0), (p1, f1), (p2, f2), (p3, f3)].drop (3 + 1)) S by rw [HC.out]; simp [txL, hwd])
          clear hwd
          go_wp2_with (go_at_call 23; rw [← HW1.out]; refine (hasWord_any p3 f3).mono ?_; rintro e w2 ⟨rfl, hb2⟩; rw [HD.out]; have X2 := Lib.hid (X1.out.trans (hb2.mono X1.out.size)); have K12 := Lib.hid (K11.out.below hb2 K11.out.lt); clear hb2)
          go_roundw
          case rel => exact ⟨3 + 1, S, by omega, by go_num, rfl, by omega, HE.out, K12.out, X2.out⟩
          case measure => simp [intOf]
        · have HD := Lib.hid hwd
          have hv := opAt_lt HI.out p3
          have h9 : f3 = 9 → opAt ⟨op, a, b, c, im⟩ p3 < 23 := by
            intro e9
            have := inR_le R3.out
            rw [e9] at this
            simpa [highN, highT, Nat.lt_succ_iff] using this
          have hwl := wd_len f3 (opAt ⟨op, a, b, c, im⟩ p3) hv
          have HE := Lib.hid (show tx ⟨op, a, b, c, im⟩ = txL ⟨op, a, b, c, im⟩ ([(p0, f0), (p1, f1), (p2, f2), (p3, f3)].drop (3 + 1)) (S ++ (32 :: wd f3 (opAt ⟨op, a, b, c, im⟩ p3))) by rw [HC.out]; simp [txL, hwd])
          have WD := Lib.hid fun (W : World) (T : Hid (Tabs W)) => word_any T f3 (opAt ⟨op, a, b, c, im⟩ p3) z3 hv h9
          clear hwd h9 hv
          generalize wd f3 (opAt ⟨op, a, b, c, im⟩ p3) = V at hwl HE WD
          have g1 : ¬ 9223372036854775807 < 1 + (st V).size := by rw [st_size]; omega
          have g2 : ¬ 9223372036854775807 < (st S).size + (1 + (st V).size) := by rw [st_size, st_size]; omega
          have HA := Lib.hid (show st S ++ ((⟨#[32]⟩ : ByteArray) ++ st V) = st (S ++ (32 :: V)) by rw [show (⟨#[32]⟩ : ByteArray) = st [32] from rfl, st_app, st_app]; rfl)
          go_wp2_with (go_at_call 23; rw [← HW1.out]; refine (hasWord_any p3 f3).mono ?_; rintro e w2 ⟨rfl, hb2⟩; rw [HD.out]; have X2 := Lib.hid (X1.out.trans (hb2.mono X1.out.size)); have K12 := Lib.hid (K11.out.below hb2 K11.out.lt); have KO2 := Lib.hid (KO.out.below hb2 KO.out.lt); clear hb2)
          have SS1 := Lib.hid (seven2 K12.out KO2.out)
          have m1 := K12.out.lt
          have m2 := KO2.out.lt
          go_region_held3 (fun w' => w'.cell? ⟨wr.heap.size, 0, none⟩ = some (.int .u8 (p3 : Int)) ∧ w'.cell? ⟨wr.heap.size, 1, none⟩ = some (.int .u8 (f3 : Int)) ∧ w'.cell? ⟨w.heap.size, 0, none⟩ = some (.int .u8 (op : Int)) ∧ w'.cell? ⟨w.heap.size, 1, none⟩ = some (.int .u8 (a : Int)) ∧ w'.cell? ⟨w.heap.size, 2, none⟩ = some (.int .u8 (b : Int)) ∧ w'.cell? ⟨w.heap.size, 3, none⟩ = some (.int .u8 (c : Int)) ∧ w'.cell? ⟨w.heap.size, 4, none⟩ = some (.int .u32 (im : Int))) (first | (with_reducible exact SS1.out) | (with_reducible exact SS2.out) | (with_reducible exact SS3.out) | go_keep) (first
            | (go_at_call 25; (with_reducible refine (operandAt_any ⟨op, a, b, c, im⟩ HI.out p3 y3).mono ?_); rintro e w3 ⟨rfl, hb3⟩; have X3 := Lib.hid ((Below.drew X2.out).trans (hb3.mono X2.out.size)); have T3' := Lib.hid (T.out.out X3.out); have SS2 := Lib.hid (keepS SS1.out hb3 m1 m2); have M3 := Lib.hid ((Below.drew (Below.refl _ w2)).trans hb3); have mm : w2.heap.size ≤ w3.heap.size := hb3.size; clear hb3)
            | (go_at_call 24; (with_reducible refine (WD.out _ T3').mono ?_); rintro e w4 ⟨rfl, hb4⟩; have SS3 := Lib.hid (keepS SS2.out hb4 (Nat.lt_of_lt_of_le m1 mm) (Nat.lt_of_lt_of_le m2 mm)); have X4 := Lib.hid (X3.out.trans (hb4.mono X3.out.size)); have K14 := Lib.hid (K12.out.below (M3.out.trans (hb4.mono mm)) m1); clear hb4; unfold sv))
          go_wp2_with fail
          go_roundw
          case rel => exact ⟨3 + 1, S ++ (32 :: V), by omega, by go_num, by rw [← HA.out], by simp only [List.length_append, List.length_cons]; omega, HE.out, K14.out, X4.out⟩
          case measure => simp [intOf]
      · have HE := Lib.hid (show tx ⟨op, a, b, c, im⟩ = S from HC.out)
        go_wp2_with fail
        go_ret2
        rw [HE.out, HZ.out]
        exact ⟨rfl, HW.out⟩
  · have hl := ck_le ⟨op, a, b, c, im⟩
    have HT := Lib.hid (show tx ⟨op, a, b, c, im⟩ = [] by unfold tx; rw [if_neg hz])
    obtain ⟨E, hE⟩ : ∃ E, ck ⟨op, a, b, c, im⟩ = E := ⟨_, rfl⟩
    rw [hE] at hz hl
    have HE := Lib.hid hE
    have hne : ¬ ((E : Nat) : Int) = 0 := by omega
    have GB := Lib.hid (show Below w.heap.size w (w.alloc (Obj.cells #[.int .u8 (op : Int), .int .u8 (a : Int), .int .u8 (b : Int), .int .u8 (c : Int), .int .u32 (im : Int)] 24)) by go_grown)
    clear hz hl hE
    go_enter Tryd.func11, Tryd.ntmps11
    go_wp2_with (go_at_call 13; refine (check_any T1 ⟨op, a, b, c, im⟩ HI.out).mono ?_; rintro e w1 ⟨rfl, hb1⟩; rw [HE.out]; have G1 := Lib.hid (GB.out.trans (hb1.mono GB.out.size)); clear hb1)
    go_ret2
    rw [HT.out, HE.out]
    exact ⟨rfl, G1.out⟩
end
end Go.Proofs.YtcedjjolikmbbaaDoor
