/- The contract of the document's Layout. Condition: the fields can be read. -/
import Derived.Test.YtnkjlocjfljjlaaTLayout
namespace Go.Proofs.Ytnkjlocjfljjlaa
open Go.RowKit
set_option maxRecDepth 100000
set_option maxHeartbeats 4000000
section
variable {w : World}
theorem rlayout_any (nm : ByteArray) (vv rr : Bool) (FA : Option Addr) (fk fc : Nat) (fs : List Fd) (h : Lf w FA fk fc fs) :
    Calls Try.prog 15 #[.agg #[.string nm, .bool vv, .bool rr, .slice FA fk fc]] w fun e w' => ∃ v', e = .returned (.tuple #[v', .int .i64 (laN fs), .int .i64 (laE fs : Nat)]) ∧ Oi w' w.heap.size v' (laV fs) ∧ Below w.heap.size w w' := by
  have HL := Lib.hid h.len
  have hle := h.le
  have hmx := h.max
  have H := Lib.hid h
  clear h
  by_cases hk : 12 < fk
  · obtain ⟨e1, e2, e3⟩ := la_big (fs := fs) (by rw [HL.out]; exact hk)
    have HE := Lib.hid (And.intro e1 (And.intro e2 e3))
    clear e1 e2 e3
    go_enter Try.func15, Try.ntmps15
    go_wp2_with fail
    go_ret3
    rw [HE.out.1, HE.out.2.1, HE.out.2.2]
    refine ⟨_, rfl, Oi.nil _ _, ?_⟩
    (repeat' (first | exact Below.refl _ _ | assumption | (refine Below.alloc ?_ (by (try simp) <;> omega) _)))
  · have hk2 : fk ≤ 12 := by omega
    have HK := Lib.hid (show ¬ 12 < fs.length by rw [HL.out]; exact hk)
    obtain ⟨w0, hw0⟩ : ∃ w0, w0 = w.alloc (Obj.cells #[.string nm, .bool vv, .bool rr, .slice FA fk fc] 32) := ⟨_, rfl⟩
    have B0 := Lib.hid (show Blk w0 w.heap.size 32 #[.string nm, .bool vv, .bool rr, .slice FA fk fc] by rw [hw0]; exact Blk.new _ _ _)
    have L0 := Lib.hid (show Below w.heap.size w w0 by rw [hw0]; (repeat' (first | exact Below.refl _ _ | assumption | (refine Below.alloc ?_ (by (try simp) <;> omega) _))))
    have S0 : w0.heap.size = w.heap.size + 1 := by rw [hw0]; simp
    have HW0 := Lib.hid hw0
    have SS := Lib.hid S0
    clear hw0 S0
    go_enter Try.func15, Try.ntmps15
    go_wp2_with fail
    rw [← HW0.out]
    go_loopw [5, 6, 7] (fun u a i wr => ∃ (j : Nat) (S : Int), j ≤ fk ∧ 0 ≤ S ∧ S ≤ 128 * j ∧ i = .int .i64 j ∧ a = .int .i64 (8 + S) ∧ Hid (szs (fs.take j) = S) ∧ Hid (∀ (t : Nat) (x : Fd), t < j → fs[t]? = some x → noS x = 0) ∧ Hid (Oi wr w0.heap.size u (offs 8 (fs.take j))) ∧ Hid (Below w0.heap.size w0 wr)) (fun _ _ i _ => fk - (intOf i).toNat)
    case atStart => exact ⟨0, 0, Nat.zero_le _, by omega, by omega, rfl, rfl, rfl, fun t x ht => absurd ht (by omega), Oi.nil _ _, Below.refl _ _⟩
    case round =>
      obtain ⟨j, S, hj, hS0, hS1, rfl, rfl, HS, HZ, HO, HW0r⟩ := hrel
      have HW := Lib.hid (L0.out.trans (HW0r.out.mono (by rw [SS.out]; omega)))
      obtain ⟨d0, d1, d2, d3⟩ := four B0.out HW0r.out (by rw [SS.out]; omega)
      clear d0 d1 d2
      by_cases hlt : j < fk
      · obtain ⟨b, o, f, rfl, hf, hok, hb, c0, c1, c2, c3, c4⟩ := (H.out.below HW.out (Nat.le_refl _)).at j hlt
        have hws := HW0r.out.size
        have hws0 : w.heap.size + 1 ≤ wr.heap.size := by rw [← SS.out]; exact hws
        have hji : (j : Int) < (fk : Int) := by omega
        obtain ⟨kd, ln, ty, lk, ky⟩ := f
        simp only at c0 c1 c2 c3 c4
        clear hok
        by_cases h0 : fsz ⟨kd, ln, ty, lk, ky⟩ = 0
        · obtain ⟨e1, e2, e3⟩ := la_no HK.out HZ.out hf.out h0
          have HE := Lib.hid (And.intro e1 (And.intro e2 e3))
          have H0 := Lib.hid h0
          clear e1 e2 e3 h0
          go_wp2_with (go_at_call 29; refine (rsize_any ⟨kd, ln, ty, lk, ky⟩).mono ?_; rintro e w2 ⟨rfl, hb2⟩; rw [H0.out]; have HW2 := Lib.hid (HW.out.trans (hb2.mono (by omega))); clear hb2)
          go_ret3
          rw [HE.out.1, HE.out.2.1, HE.out.2.2]
          exact ⟨_, rfl, Oi.nil _ _, HW2.out⟩
        · have HNo := Lib.hid (noS_zero h0)
          obtain ⟨z, hz⟩ : ∃ z, z = fsz ⟨kd, ln, ty, lk, ky⟩ := ⟨_, rfl⟩
          have hzl : 0 ≤ z ∧ z ≤ 128 := by rw [hz]; exact fsz_le _
          obtain ⟨hz0, hz1⟩ := hzl
          have hzz : (z == 0) = false := by rw [hz]; simp [h0]
          have HZ2 := Lib.hid hz
          have tok : True := trivial
          have LA := Lib.hid (show (offs 8 (fs.take j)).length ≤ 100000 by rw [offs_len, List.length_take]; omega)
          clear h0 hz
          go_wp2_with (first | (go_at_call 29; have _t := tok; refine (rsize_any ⟨kd, ln, ty, lk, ky⟩).mono ?_; rintro e w2 ⟨rfl, hb2⟩; clear tok; rw [← HZ2.out]; have HW2 := Lib.hid (HW0r.out.trans (hb2.mono (by omega))); have HO2 := Lib.hid (Oi.keep HO.out hb2 (Nat.le_refl _)); have hws2 := HW2.out.size; clear hb2) | (at_builtin; refine wpList_iapp rfl _ _ rfl w0.heap.size _ _ rfl HO2.out (8 + S) rfl LA.out hws2 ?_; intro v4 w4 h4 h5; have H4 := Lib.hid h4; have H5 := Lib.hid (HW2.out.trans h5); have hws4 := H5.out.size; obtain ⟨f0, f1, f2, f3⟩ := four B0.out H5.out (by rw [SS.out]; omega); obtain ⟨b', o', f', e1, hf', _, hb', q0, q1, q2, q3, q4⟩ := (H.out.below (L0.out.trans (H5.out.mono (by rw [SS.out]; omega))) (Nat.le_refl _)).at j hlt; injection e1 with e1; injection e1 with e1 e2; subst e1 e2; have e5 := hf'.out.symm.trans hf.out; injection e5 with e5; subst e5; simp only at q0 q1 q2 q3 q4; clear h4 h5 hf'))
          go_wp2_with (go_at_call 29; refine (rsize_any ⟨kd, ln, ty, lk, ky⟩).mono ?_; rintro e w5 ⟨rfl, hb5⟩; rw [← HZ2.out]; have H6 := Lib.hid (H5.out.trans (hb5.mono (by omega))); have HO6 := Lib.hid (Oi.keep H4.out hb5 (Nat.le_refl _)); clear hb5)
          go_roundw
          case rel =>
            refine ⟨j + 1, S + z, by omega, by omega, by omega, by go_num, by go_num, ?_, all_snoc HZ.out hf.out HNo.out, ?_, H6.out⟩
            · show _ = _
              rw [szs_take hf.out, HS.out, HZ2.out]
            · show Oi _ _ _ _
              rw [offs_take 8 hf.out, HS.out]
              exact HO6.out
          case measure => simp [intOf]; omega
      · obtain rfl : j = fk := by omega
        have HT := Lib.hid (List.take_of_length_le (Nat.le_of_eq HL.out))
        have HA := Lib.hid (all_upto HZ.out (Nat.le_of_eq HL.out))
        have HS2 := Lib.hid (show szs fs = S by rw [← HS.out, HT.out])
        by_cases hbig : 256 < 8 + S
        · obtain ⟨e1, e2, e3⟩ := la_far HK.out HA.out (by rw [HS2.out]; exact hbig)
          have HE := Lib.hid (And.intro e1 (And.intro e2 e3))
          clear e1 e2 e3
          go_wp2_with fail
          go_ret3
          rw [HE.out.1, HE.out.2.1, HE.out.2.2]
          exact ⟨_, rfl, Oi.nil _ _, HW.out⟩
        · obtain ⟨e1, e2, e3⟩ := la_ok HK.out HA.out (by rw [HS2.out]; exact hbig)
          have HE := Lib.hid (And.intro e1 (And.intro e2 e3))
          clear e1 e2 e3
          go_wp2_with fail
          go_ret3
          rw [HE.out.1, HE.out.2.1, HE.out.2.2, HS2.out]
          have := HO.out
          rw [HT.out] at this
          exact ⟨_, rfl, Oi.less this (by rw [SS.out]; omega), HW.out⟩
end
end Go.Proofs.Ytnkjlocjfljjlaa
