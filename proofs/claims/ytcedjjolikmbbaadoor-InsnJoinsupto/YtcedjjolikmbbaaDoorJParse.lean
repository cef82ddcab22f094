/- The contract of the document's Parse. Condition: the bytes can be read. -/
import Derived.Test.YtcedjjolikmbbaaDoorIParse
import Derived.Test.YtcedjjolikmbbaaDoorJCheck
namespace Go.Proofs.YtcedjjolikmbbaaDoor
open Go.RowKit
set_option maxRecDepth 100000
set_option maxHeartbeats 2000000
theorem d8_at (bs : List Nat) (n : Nat) : d8 ((bs.drop (n * 8)).take 8) = ⟨bs.getD (n * 8) 0, bs.getD (n * 8 + 1) 0, bs.getD (n * 8 + 2) 0, bs.getD (n * 8 + 3) 0, bs.getD (n * 8 + 4) 0 + 256 * bs.getD (n * 8 + 5) 0 + 65536 * bs.getD (n * 8 + 6) 0 + 16777216 * bs.getD (n * 8 + 7) 0⟩ := by
  have g : ∀ j, j < 8 → ((bs.drop (n * 8)).take 8).getD j 0 = bs.getD (n * 8 + j) 0 := fun j hj => by
    simp only [List.getD_eq_getElem?_getD, List.getElem?_take_of_lt hj, List.getElem?_drop]
  unfold d8
  rw [g 0 (by omega), g 1 (by omega), g 2 (by omega), g 3 (by omega), g 4 (by omega), g 5 (by omega), g 6 (by omega), g 7 (by omega)]
  simp
theorem run_ixb (b o k c m : Nat) (i : Int) (hi : i = (m : Int)) (h : m < k) (W : World) : (Instr.indexAt 40 (.slice (some ⟨b, o, none⟩) k c) (.int .i64 i)).run Tryd.prog W = .ok (.pointer (some ⟨b, o + m, none⟩)) W := by
  subst hi
  rw [run_indexAt_slice _ _ _ _ _ _ _ (by kernel_rfl), if_pos ⟨by omega, by omega⟩]
  simp [Program.elem, Tryd.underlying40, go_sem, addr_add]
section
variable {w : World}
theorem rparse6_any (A : Option Addr) (k c : Nat) (bs : List Nat) (h : Rd w A k c bs) :
    Calls Tryd.prog 18 #[.slice A k c] w fun e w' => ∃ v, e = .returned (.tuple #[v, .int .i64 (paE bs : Int)]) ∧ Or w' w.heap.size v (paL bs) ∧ Below w.heap.size w w' := by
  have hl := h.len
  have hle := h.le
  have hmx := h.max
  have R0 := Lib.hid h
  have HLN := Lib.hid hl
  have wr8 : (k : Int).tmod 8 = ((k % 8 : Nat) : Int) := by rw [Int.tmod_eq_emod_of_nonneg (by omega)]; omega
  by_cases h8 : k % 8 = 0
  · by_cases h128 : 1024 < k
    · have HE := Lib.hid (show paE bs = 11 by unfold paE; rw [hl, if_neg (by omega), if_pos (by omega)])
      have HL := Lib.hid (show paL bs = [] by unfold paL; rw [HE.out]; rfl)
      rw [h8] at wr8
      have g1 : (1024 : Int) < (k : Int) := by omega
      clear hl h
      go_enter Tryd.func18, Tryd.ntmps18
      go_wp2_with fail
      go_ret2
      rw [HE.out, HL.out]
      exact ⟨_, rfl, Or.nil _ _, by go_grown⟩
    · obtain ⟨N, hN⟩ : ∃ N, k / 8 = N := ⟨_, rfl⟩
      have hk8 : k = N * 8 := by omega
      have HE := Lib.hid (show paE bs = fe1 (dI bs) by unfold paE; rw [hl, if_neg (by omega), if_neg (by omega)])
      have HDL := Lib.hid (show (dI bs).length = N by rw [dI_len, hl, hN])
      have HDA := Lib.hid fun (n : Nat) (hn : n < N) => dI_at bs n (by rw [hl, hN]; exact hn)
      have HOK := Lib.hid (dI_ok h.byt)
      have HBY := Lib.hid (fun i => byt_at h.byt i)
      have g1 : ¬ (1024 : Int) < (k : Int) := by omega
      rw [h8] at wr8
      have hN128 : N ≤ 128 := by omega
      have HK8 := Lib.hid hk8
      clear hl h hN h128 h8 hk8
      go_enter Tryd.func18, Tryd.ntmps18
      go_wp2_with fail
      clear wr8 g1
      go_loopw [4, 5] (fun v q wr => ∃ n m : Nat, n ≤ N ∧ m = n * 8 ∧ q = .int .i64 (m : Int) ∧ Hid (∀ i ∈ (dI bs).take n, ck i = 0) ∧ Hid (Or wr w.heap.size v ((dI bs).take n)) ∧ Hid (Below w.heap.size w wr)) (fun _ q _ => 8 * N - (intOf q).toNat)
      case atStart => exact ⟨0, 0, by omega, rfl, rfl, Lib.hid (by simp), Lib.hid (Or.nil _ _), Below.refl _ _⟩
      case round =>
        obtain ⟨n, m, hn, hm, rfl, HA, HO, HW⟩ := hrel
        have hk8 := HK8.out
        have HM := Lib.hid hm
        by_cases hnN : n < N
        · have hnN' : (m : Int) < (k : Int) := by omega
          have wj1 : IntKind.i64.wrap ((m : Int) + 1) = (m : Int) + 1 := by rw [show (m : Int) + 1 = ((m + 1 : Nat) : Int) by omega]; exact w64 _ (by omega)
          have wj2 : IntKind.i64.wrap ((m : Int) + 2) = (m : Int) + 2 := by rw [show (m : Int) + 2 = ((m + 2 : Nat) : Int) by omega]; exact w64 _ (by omega)
          have wj3 : IntKind.i64.wrap ((m : Int) + 3) = (m : Int) + 3 := by rw [show (m : Int) + 3 = ((m + 3 : Nat) : Int) by omega]; exact w64 _ (by omega)
          have wj4 : IntKind.i64.wrap ((m : Int) + 4) = (m : Int) + 4 := by rw [show (m : Int) + 4 = ((m + 4 : Nat) : Int) by omega]; exact w64 _ (by omega)
          have wj5 : IntKind.i64.wrap ((m : Int) + 5) = (m : Int) + 5 := by rw [show (m : Int) + 5 = ((m + 5 : Nat) : Int) by omega]; exact w64 _ (by omega)
          have wj6 : IntKind.i64.wrap ((m : Int) + 6) = (m : Int) + 6 := by rw [show (m : Int) + 6 = ((m + 6 : Nat) : Int) by omega]; exact w64 _ (by omega)
          have wj7 : IntKind.i64.wrap ((m : Int) + 7) = (m : Int) + 7 := by rw [show (m : Int) + 7 = ((m + 7 : Nat) : Int) by omega]; exact w64 _ (by omega)
          have wj8 : IntKind.i64.wrap ((m : Int) + 8) = (m : Int) + 8 := by rw [show (m : Int) + 8 = ((m + 8 : Nat) : Int) by omega]; exact w64 _ (by omega)
          obtain ⟨b, o, rfl, hb, hc⟩ := (R0.out.below HW.out (Nat.le_refl _)).base (by omega)
          have e0 := hc (m) (by omega)
          have e1 := hc (m + 1) (by omega)
          have e2 := hc (m + 2) (by omega)
          have e3 := hc (m + 3) (by omega)
          have e4 := hc (m + 4) (by omega)
          have e5 := hc (m + 5) (by omega)
          have e6 := hc (m + 6) (by omega)
          have e7 := hc (m + 7) (by omega)
          have y0 := HBY.out (m)
          have y1 := HBY.out (m + 1)
          have y2 := HBY.out (m + 2)
          have y3 := HBY.out (m + 3)
          have y4 := HBY.out (m + 4)
          have y5 := HBY.out (m + 5)
          have y6 := HBY.out (m + 6)
          have y7 := HBY.out (m + 7)
          have HDn := Lib.hid (HDA.out n hnN)
          have HKn := Lib.hid (HOK.out _ (List.mem_of_getElem? HDn.out))
          rw [d8_at bs n, ← hm] at HDn HKn
          generalize bs.getD (m) 0 = z0 at e0 y0 HDn HKn
          generalize bs.getD (m + 1) 0 = z1 at e1 y1 HDn HKn
          generalize bs.getD (m + 2) 0 = z2 at e2 y2 HDn HKn
          generalize bs.getD (m + 3) 0 = z3 at e3 y3 HDn HKn
          generalize bs.getD (m + 4) 0 = z4 at e4 y4 HDn HKn
          generalize bs.getD (m + 5) 0 = z5 at e5 y5 HDn HKn
          generalize bs.getD (m + 6) 0 = z6 at e6 y6 HDn HKn
          generalize bs.getD (m + 7) 0 = z7 at e7 y7 HDn HKn
          have hws := HW.out.size
          have HTS := Lib.hid (take_snoc HDn.out)
          have hln : ((dI bs).take n).length ≤ 128 := by rw [List.length_take, HDL.out]; omega
          have HLB := Lib.hid hln
          clear hln hc hm hk8
          have HMK := Lib.hid (show m + 8 ≤ k by have := HM.out; have := HK8.out; omega)
          have K4 := Lib.hid (show ∀ W, Below wr.heap.size wr W → W.cell? ⟨b, o + m, none⟩ = some (.int .u8 (z0 : Int)) ∧ W.cell? ⟨b, o + (m + 1), none⟩ = some (.int .u8 (z1 : Int)) ∧ W.cell? ⟨b, o + (m + 2), none⟩ = some (.int .u8 (z2 : Int)) ∧ W.cell? ⟨b, o + (m + 3), none⟩ = some (.int .u8 (z3 : Int)) from fun W hW => ⟨(hW.cell (p := ⟨b, o + m, none⟩) hb).trans e0, (hW.cell (p := ⟨b, o + (m + 1), none⟩) hb).trans e1, (hW.cell (p := ⟨b, o + (m + 2), none⟩) hb).trans e2, (hW.cell (p := ⟨b, o + (m + 3), none⟩) hb).trans e3⟩)
          have K5 := Lib.hid (show ∀ W, Below wr.heap.size wr W → W.cell? ⟨b, o + (m + 4), none⟩ = some (.int .u8 (z4 : Int)) ∧ W.cell? ⟨b, o + (m + 5), none⟩ = some (.int .u8 (z5 : Int)) ∧ W.cell? ⟨b, o + (m + 6), none⟩ = some (.int .u8 (z6 : Int)) ∧ W.cell? ⟨b, o + (m + 7), none⟩ = some (.int .u8 (z7 : Int)) from fun W hW => ⟨(hW.cell (p := ⟨b, o + (m + 4), none⟩) hb).trans e4, (hW.cell (p := ⟨b, o + (m + 5), none⟩) hb).trans e5, (hW.cell (p := ⟨b, o + (m + 6), none⟩) hb).trans e6, (hW.cell (p := ⟨b, o + (m + 7), none⟩) hb).trans e7⟩)
          go_upto_region 9 with fail
          go_cut [6] from 21 to 40 (fun v wx => v = .pointer (some ⟨wr.heap.size, 0, none⟩) ∧ wx = (wr.alloc (.cells #[.int .u8 (z0 : Int), .int .u8 (z1 : Int), .int .u8 (z2 : Int), .int .u8 (z3 : Int), .int .u32 0] 24)).drew)
          case first =>
            have ge1 : (0 : Int) ≤ (m : Int) + 1 := by omega
            have lt1 : (m : Int) + 1 < (k : Int) := by have := HMK.out; omega
            have tn1 : ((m : Int) + 1).toNat = m + 1 := by omega
            have ge2 : (0 : Int) ≤ (m : Int) + 2 := by omega
            have lt2 : (m : Int) + 2 < (k : Int) := by have := HMK.out; omega
            have tn2 : ((m : Int) + 2).toNat = m + 2 := by omega
            have ge3 : (0 : Int) ≤ (m : Int) + 3 := by omega
            have lt3 : (m : Int) + 3 < (k : Int) := by have := HMK.out; omega
            have tn3 : ((m : Int) + 3).toNat = m + 3 := by omega
            go_region_held3 (fun w' => w'.cell? ⟨b, o + m, none⟩ = some (.int .u8 (z0 : Int)) ∧ w'.cell? ⟨b, o + (m + 1), none⟩ = some (.int .u8 (z1 : Int)) ∧ w'.cell? ⟨b, o + (m + 2), none⟩ = some (.int .u8 (z2 : Int)) ∧ w'.cell? ⟨b, o + (m + 3), none⟩ = some (.int .u8 (z3 : Int))) (first | exact K4.out _ (by go_grown) | go_keep) (first | fail)
            all_goals
              go_wp2_with fail
              go_meet
              exact ⟨rfl, rfl⟩
          case rest =>
          obtain ⟨rfl, rfl⟩ := hcut
          obtain ⟨w0, hw0⟩ : ∃ w0, w0 = (wr.alloc (.cells #[.int .u8 (z0 : Int), .int .u8 (z1 : Int), .int .u8 (z2 : Int), .int .u8 (z3 : Int), .int .u32 0] 24)).drew := ⟨_, rfl⟩
          rw [← hw0]
          have K0 := Lib.hid (show Blk w0 wr.heap.size 24 #[.int .u8 (z0 : Int), .int .u8 (z1 : Int), .int .u8 (z2 : Int), .int .u8 (z3 : Int), .int .u32 0] by rw [hw0]; exact Blk.new _ _ _)
          have X0 := Lib.hid (show Below wr.heap.size wr w0 by rw [hw0]; go_grown)
          have lt0 := K0.out.lt
          clear hw0
          go_upto_region 10 with fail
          go_cut [5] from 41 to 71 (fun v wx => v = .int .i64 (m : Int) ∧ wx = (w0.setCell ⟨wr.heap.size, 4, none⟩ (.int .u32 ((z4 : Int) + 256 * (z5 : Int) + 65536 * (z6 : Int) + 16777216 * (z7 : Int)))).drew)
          case first =>
            have ge4 : (0 : Int) ≤ (m : Int) + 4 := by omega
            have lt4 : (m : Int) + 4 < (k : Int) := by have := HMK.out; omega
            have tn4 : ((m : Int) + 4).toNat = m + 4 := by omega
            have ge5 : (0 : Int) ≤ (m : Int) + 5 := by omega
            have lt5 : (m : Int) + 5 < (k : Int) := by have := HMK.out; omega
            have tn5 : ((m : Int) + 5).toNat = m + 5 := by omega
            have ge6 : (0 : Int) ≤ (m : Int) + 6 := by omega
            have lt6 : (m : Int) + 6 < (k : Int) := by have := HMK.out; omega
            have tn6 : ((m : Int) + 6).toNat = m + 6 := by omega
            have ge7 : (0 : Int) ≤ (m : Int) + 7 := by omega
            have lt7 : (m : Int) + 7 < (k : Int) := by have := HMK.out; omega
            have tn7 : ((m : Int) + 7).toNat = m + 7 := by omega
            have u4 := w32 z4 (by omega)
            have u5 := w32 z5 (by omega)
            have u6 := w32 z6 (by omega)
            have u7 := w32 z7 (by omega)
            have v5 : IntKind.u32.wrap (256 * (z5 : Int)) = 256 * (z5 : Int) := by rw [show 256 * (z5 : Int) = ((256 * z5 : Nat) : Int) by omega]; exact w32 _ (by omega)
            have v6 : IntKind.u32.wrap (65536 * (z6 : Int)) = 65536 * (z6 : Int) := by rw [show 65536 * (z6 : Int) = ((65536 * z6 : Nat) : Int) by omega]; exact w32 _ (by omega)
            have v7 : IntKind.u32.wrap (16777216 * (z7 : Int)) = 16777216 * (z7 : Int) := by rw [show 16777216 * (z7 : Int) = ((16777216 * z7 : Nat) : Int) by omega]; exact w32 _ (by omega)
            have x5 : IntKind.u32.wrap ((z4 : Int) + 256 * (z5 : Int)) = (z4 : Int) + 256 * (z5 : Int) := by rw [show (z4 : Int) + 256 * (z5 : Int) = ((z4 + 256 * z5 : Nat) : Int) by omega]; exact w32 _ (by omega)
            have x6 : IntKind.u32.wrap ((z4 : Int) + 256 * (z5 : Int) + 65536 * (z6 : Int)) = (z4 : Int) + 256 * (z5 : Int) + 65536 * (z6 : Int) := by rw [show (z4 : Int) + 256 * (z5 : Int) + 65536 * (z6 : Int) = ((z4 + 256 * z5 + 65536 * z6 : Nat) : Int) by omega]; exact w32 _ (by omega)
            have x7 : IntKind.u32.wrap ((z4 : Int) + 256 * (z5 : Int) + 65536 * (z6 : Int) + 16777216 * (z7 : Int)) = ((z4 : Int) + 256 * (z5 : Int) + 65536 * (z6 : Int) + 16777216 * (z7 : Int)) := by rw [show ((z4 : Int) + 256 * (z5 : Int) + 65536 * (z6 : Int) + 16777216 * (z7 : Int)) = ((z4 + 256 * z5 + 65536 * z6 + 16777216 * z7 : Nat) : Int) by omega]; exact w32 _ (by omega)
            have f4 := K0.out.frozen 4
            have d4 := K0.out.cell 4
            simp at d4
            go_region_held3 (fun w' => w'.cell? ⟨b, o + (m + 4), none⟩ = some (.int .u8 (z4 : Int)) ∧ w'.cell? ⟨b, o + (m + 5), none⟩ = some (.int .u8 (z5 : Int)) ∧ w'.cell? ⟨b, o + (m + 6), none⟩ = some (.int .u8 (z6 : Int)) ∧ w'.cell? ⟨b, o + (m + 7), none⟩ = some (.int .u8 (z7 : Int))) (first | exact K5.out _ (Below.trans X0.out (by go_grown)) | go_keep) (first | fail)
            all_goals
              go_wp2_with fail
              go_meet
              exact ⟨rfl, rfl⟩
          case rest =>
          obtain ⟨rfl, rfl⟩ := hcut
          obtain ⟨im, him⟩ : ∃ im : Nat, im = z4 + 256 * z5 + 65536 * z6 + 16777216 * z7 := ⟨_, rfl⟩
          rw [show ((z4 : Int) + 256 * (z5 : Int) + 65536 * (z6 : Int) + 16777216 * (z7 : Int)) = (im : Int) by omega]
          rw [← him] at HDn HKn HTS
          obtain ⟨w1, hw1⟩ : ∃ w1, w1 = (w0.setCell ⟨wr.heap.size, 4, none⟩ (.int .u32 (im : Int))).drew := ⟨_, rfl⟩
          rw [← hw1]
          have K1 := Lib.hid (show Blk w1 wr.heap.size 24 #[.int .u8 (z0 : Int), .int .u8 (z1 : Int), .int .u8 (z2 : Int), .int .u8 (z3 : Int), .int .u32 (im : Int)] by rw [hw1]; exact K0.out.put 4 _)
          have Y1 := Lib.hid (show Below wr.heap.size wr w1 by rw [hw1]; exact (Below.setCell X0.out (Nat.le_refl _) _).drew)
          have X1 := Lib.hid (HW.out.trans (Y1.out.mono hws))
          have O1 := Lib.hid (HO.out.keep Y1.out (Nat.le_refl _))
          have CK := Lib.hid fun (W : World) => rcheck6_any (w := W) ⟨z0, z1, z2, z3, im⟩ HKn.out
          have RC := Lib.hid (rck_ck _ HKn.out)
          obtain ⟨q0, q1, q2, q3, q4, -⟩ := ten K1.out
          clear hw1 him e0 e1 e2 e3 e4 e5 e6 e7 y0 y1 y2 y3 y4 y5 y6 y7
          by_cases hck : ck ⟨z0, z1, z2, z3, im⟩ = 0
          · have HA2 := Lib.hid (show ∀ i ∈ (dI bs).take (n + 1), ck i = 0 by
              rw [HTS.out]
              intro i hi
              rcases List.mem_append.1 hi with hi | hi
              · exact HA.out i hi
              · simp at hi; rw [hi]; exact hck)
            rw [RC.out, hck] at CK
            clear hck
            go_wp2_with (first
              | (go_at_call 14; (with_reducible refine (CK.out _).mono ?_); rintro e w4 ⟨rfl, hb4⟩; have X4 := Lib.hid (X1.out.trans (hb4.mono X1.out.size)); have O4 := Lib.hid (O1.out.keep hb4 (Nat.le_refl _)); have K4' := Lib.hid (K1.out.below hb4 K1.out.lt); clear q0 q1 q2 q3 q4; obtain ⟨q0, q1, q2, q3, q4, -⟩ := ten K4'.out; clear hb4)
              | (at_builtin; refine wpList_insapp rfl _ _ rfl w.heap.size _ ((dI bs).take n) rfl O4.out ⟨z0, z1, z2, z3, im⟩ w4.heap.size rfl rfl (by have := HLB.out; omega) X4.out.size ?_; intro v5 w5 h5 h6; rw [← HTS.out] at h5; have O5 := Lib.hid h5; have X5 := Lib.hid (X4.out.trans h6); clear h5 h6))
            go_roundw
            case rel => exact ⟨n + 1, m + 8, by omega, by have := HM.out; omega, by go_num, HA2.out, O5.out, X5.out⟩
            case measure => have := HM.out; have := HK8.out; simp [intOf]; omega
          · have HF := Lib.hid (fe1_hit HDn.out HA.out hck)
            have hle2 := ck_le ⟨z0, z1, z2, z3, im⟩
            rw [RC.out] at CK
            obtain ⟨E, hE⟩ : ∃ E, ck ⟨z0, z1, z2, z3, im⟩ = E := ⟨_, rfl⟩
            rw [hE] at CK HF hck hle2
            have HL := Lib.hid (show paL bs = [] by unfold paL; rw [HE.out, HF.out, if_neg hck])
            have hne : ¬ ((E : Nat) : Int) = 0 := by omega
            clear hck hE hle2
            go_wp2_with (go_at_call 14; (with_reducible refine (CK.out _).mono ?_); rintro e w4 ⟨rfl, hb4⟩; have X4 := Lib.hid (X1.out.trans (hb4.mono X1.out.size)); clear hb4)
            go_ret2
            rw [HE.out, HF.out, HL.out]
            exact ⟨_, rfl, Or.nil _ _, X4.out⟩
        · obtain rfl : n = N := by omega
          have hnN' : ¬ (m : Int) < (k : Int) := by omega
          clear hm hk8
          have HT := Lib.hid (show (dI bs).take n = dI bs from List.take_of_length_le (by rw [HDL.out]; omega))
          have HF := Lib.hid (fe1_zero (show ∀ i ∈ dI bs, ck i = 0 by have := HA.out; rwa [HT.out] at this))
          have HL := Lib.hid (show paL bs = dI bs by unfold paL; rw [HE.out, HF.out]; rfl)
          go_wp2_with fail
          go_ret2
          rw [HE.out, HF.out, HL.out, ← HT.out]
          exact ⟨_, rfl, HO.out, HW.out⟩
  · have HE := Lib.hid (show paE bs = 3 by unfold paE; rw [hl, if_pos h8])
    have HL := Lib.hid (show paL bs = [] by unfold paL; rw [HE.out]; rfl)
    have g1 : ¬ ((k % 8 : Nat) : Int) = 0 := by omega
    clear hl h
    go_enter Tryd.func18, Tryd.ntmps18
    go_wp2_with fail
    go_ret2
    rw [HE.out, HL.out]
    exact ⟨_, rfl, Or.nil _ _, by go_grown⟩
end
end Go.Proofs.YtcedjjolikmbbaaDoor
