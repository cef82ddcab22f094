/- WireAgain: the walk, where no name is read. Condition: the slice can be read. -/
import Derived.Test.YtipffbhaibamnaaWAgainB
import Derived.Deep.QuietTactic
import Derived.BigQuiet
namespace Go.Proofs.Ytipffbhaibamnaa
open Go.RowKit
set_option maxHeartbeats 8000000 in
set_option maxRecDepth 100000 in
theorem again_no (A : Option Addr) (k cap : Nat) (w : World) (bs : List Nat) (hr : Rd w A k cap bs) (hcase : xE bs ≠ 0) :
    Calls Try.prog 7 #[.slice A k cap] w fun e w' => e = .returned (.bool true) ∧ Below w.heap.size w w' := by
  have hle := hr.le
  have hmx := hr.max
  have R0 := Lib.hid hr
  have BB := Lib.hid hr.byt
  have LL := Lib.hid hr.len
  have FV := Lib.hid (iV_fit hr.byt)
  have hj : tW bs ≤ k := by rw [← LL.out]; rcases tk_cases bs BB.out with ⟨_, _, _, h, _⟩ | ⟨_, _, h⟩ <;> omega
  have hk : xW bs ≤ k := by rw [← LL.out]; rcases x_cases bs BB.out with ⟨_, _, h, _⟩ | ⟨_, _, h⟩ <;> omega
  have hi : iW bs ≤ k := by rw [← LL.out]; rcases i_cases bs BB.out with ⟨_, _, _, h, _⟩ | ⟨_, _, _, h⟩ <;> omega
  have hx26 : (xV bs).length ≤ 16 := by
    rcases x_cases bs BB.out with ⟨_, h, _⟩ | ⟨_, h, _⟩
    · exact (nm_len h).2
    · rw [h]; exact Nat.zero_le _
  have SX := Lib.hid (show (sb (xV bs)).size ≤ 9223372036854775807 by rw [sb_size]; omega)
  have hxb : Byt (xV bs) := xV_byt BB.out
  have OX := Lib.hid (ofS_sb hxb)
  have BT := Lib.hid (txV_byt _ hxb)
  have BI := Lib.hid (isV_byt (zs (iV bs)))
  have T1 := Lib.hid (tk_cases bs BB.out)
  have T2 := Lib.hid (x_cases bs BB.out)
  have T3 := Lib.hid (i_cases bs BB.out)
  have U1 := Lib.hid (R0.out.upto (tW bs) hj)
  have U2 := Lib.hid (R0.out.upto (xW bs) hk)
  have U3 := Lib.hid (R0.out.upto (iW bs) hi)
  clear hr hxb hx26
  generalize htw : tW bs = j1 at *
  generalize hxw : xW bs = j2 at *
  generalize hiw : iW bs = j3 at *
  have HTW := Lib.hid htw
  have HXW := Lib.hid hxw
  have HIW := Lib.hid hiw
  clear htw hxw hiw
  have XZ := Lib.hid hcase
  have x0 : xV bs = [] := by
    rcases T2.out with ⟨x1, x2, x3, x4, x5⟩ | ⟨x1, x2, x3⟩
    · exact absurd x1 hcase
    · exact x2
  have XE := Lib.hid (show txE (xV bs) = 1 by rw [x0]; rfl)
  clear x0 hcase
  have IE := Lib.hid (show isE (zs (iV bs)) = 0 by { rcases T3.out with ⟨_, _, _, _, _, h, _⟩ | ⟨_, _, h, _⟩; (exact h); (rw [h]; rfl) })
  go_enter Try.func7, Try.ntmps7
  go_wp2_with (go_at_call 10; refine (shown_any).mono ?_; rintro e w1 ⟨rfl, h1⟩; have W1 := Lib.hid h1; clear h1)
  go_wp2_with (go_at_call 11; refine (take_any _ _ _ bs (R0.out.below W1.out (Nat.le_refl _))).mono ?_; rintro e w2 ⟨rfl, rfl⟩; rw [HTW.out])
  go_wp2_with (go_at_call 17; refine (takeText_any _ _ _ bs (R0.out.below W1.out (Nat.le_refl _))).mono ?_; rintro e w3 ⟨rfl, h2⟩; rw [HXW.out]; have W3 := Lib.hid (W1.out.trans (h2.mono W1.out.size)); clear h2)
  go_wp2_with (go_at_call 21; refine (takeInts_any _ _ _ bs (R0.out.below W3.out (Nat.le_refl _))).mono ?_; rintro e w4 ⟨v4, rfl, h1, h2⟩; rw [HIW.out]; obtain ⟨A4, k4, c4, rfl, h3⟩ := h1.form FV.out; have L4 := Lib.hid h3; have W4 := Lib.hid (W3.out.trans (h2.mono W3.out.size)); clear h1 h2 h3)
  go_wp2_with (go_at_call 15; refine (text_any (sb (xV bs)) SX.out).mono ?_; rintro e w5 ⟨v5, rfl, h1, h2⟩; rw [OX.out, XE.out]; rw [OX.out] at h1; obtain ⟨A5, k5, c5, rfl, h3⟩ := h1.form BT.out; have R5 := Lib.hid h3; have L5 := Lib.hid (L4.out.below h2 (Nat.le_refl _)); have W5 := Lib.hid (W4.out.trans (h2.mono W4.out.size)); clear h1 h2 h3)
  go_wp2_with (go_at_call 19; refine (ints_any _ _ _ _ L5.out).mono ?_; rintro e w6 ⟨v6, rfl, h1, h2⟩; obtain ⟨A6, k6, c6, rfl, h3⟩ := h1.form BI.out; rw [IE.out]; have R6 := Lib.hid h3; have R56 := Lib.hid (R5.out.below h2 (Nat.le_refl _)); have W6 := Lib.hid (W5.out.trans (h2.mono W5.out.size)); clear h1 h2 h3)
  have z1 : (0 : Int) ≤ (j1 : Int) := by omega
  have z2 : (j1 : Int) ≤ (cap : Int) := by omega
  have z3 : (j1 : Int) ≤ 9223372036854775807 := by omega
  have Y6 := Lib.hid W6.out.drew
  have D6 := Lib.hid (show Below w6.heap.size w6 w6.drew from (Below.refl _ _).drew)
  have P5 := Lib.hid (R56.out.below D6.out (Nat.le_refl _))
  have P6 := Lib.hid (R6.out.below D6.out (Nat.le_refl _))
  have B6 := Lib.hid (run_strA (U1.out.below Y6.out (Nat.le_refl _)))
  rcases T1.out with ⟨t1, t2, t3, t4, t5, t6⟩ | ⟨t1, t2, t3⟩
  case' inl =>
    have E1 := Lib.hid t6
    have TE := Lib.hid t1
    clear t1 t2 t3 t4 t6
    rw [TE.out]
    go_region_held (fun w' => Hid (Below w.heap.size w w') ∧ (convert 23 9 (.slice A j1 cap)).run Try.prog w' = .ok (.string (sb (bs.take j1))) w') (first | exact ⟨Y6, B6.out⟩ | exact ⟨W7, s17⟩) (first
      | (go_at_call 13; (with_reducible refine (number_got (tN bs) t5).mono ?_); rintro e w7 ⟨A7, k7, c7, rfl, h3, h2⟩; rw [E1.out] at h3; have s7 := run_strA h3; have W7 := Lib.hid (Y6.out.trans (h2.mono Y6.out.size)); have R57 := Lib.hid (P5.out.below h2 (Nat.le_refl _)); have R67 := Lib.hid (P6.out.below h2 (Nat.le_refl _)); have s17 := run_strA (U1.out.below W7.out (Nat.le_refl _)); clear h2 h3))
    clear s7 s17 TE E1 t5
  case' inr =>
    have q1 : (((tE bs : Nat) : Int) == 0) = false := by simp; omega
    have q2 : (((tE bs : Nat) : Int) != 0) = true := by simp; omega
    clear t1 t2 t3
    go_quiet (fail)
    have W7 := Lib.hid (below_drewN W6.out nq)
    have R57 := Lib.hid (R56.out.below (below_drewN (Below.refl w6.heap.size w6) nq) (Nat.le_refl _))
    have R67 := Lib.hid (R6.out.below (below_drewN (Below.refl w6.heap.size w6) nq) (Nat.le_refl _))
    generalize w6.drewN nq = w7 at W7 R57 R67 ⊢
    clear q1 q2
  all_goals
    clear z1 z2 z3 Y6 D6 P5 P6 B6
    go_wp2_with fail
    have z1 : (0 : Int) ≤ (j2 : Int) := by omega
    have z2 : (j2 : Int) ≤ (cap : Int) := by omega
    have z3 : (j2 : Int) ≤ 9223372036854775807 := by omega
    have Y7 := Lib.hid W7.out.drew
    have D7 := Lib.hid (show Below w7.heap.size w7 w7.drew from (Below.refl _ _).drew)
    have P6 := Lib.hid (R67.out.below D7.out (Nat.le_refl _))
    have P5 := Lib.hid (R57.out.below D7.out (Nat.le_refl _))
    have B7 := Lib.hid (run_strA (U2.out.below Y7.out (Nat.le_refl _)))
    have q1 : (((xE bs : Nat) : Int) == 0) = false := by have := XZ.out; simp; omega
    have q2 : (((xE bs : Nat) : Int) != 0) = true := by have := XZ.out; simp; omega
    go_quiet (fail)
    clear q1 q2
    have W8 := Lib.hid (below_drewN W7.out nq)
    have R68 := Lib.hid (R67.out.below (below_drewN (Below.refl w7.heap.size w7) nq) (Nat.le_refl _))
    generalize w7.drewN nq = w8 at W8 R68 ⊢
    clear z1 z2 z3 Y7 D7 P5 P6 B7
    go_wp2_with fail
    have z1 : (0 : Int) ≤ (j3 : Int) := by omega
    have z2 : (j3 : Int) ≤ (cap : Int) := by omega
    have z3 : (j3 : Int) ≤ 9223372036854775807 := by omega
    have Y8 := Lib.hid W8.out.drew
    have D8 := Lib.hid (show Below w8.heap.size w8 w8.drew from (Below.refl _ _).drew)
    have P6 := Lib.hid (R68.out.below D8.out (Nat.le_refl _))
    have B8 := Lib.hid (run_strA (U3.out.below Y8.out (Nat.le_refl _)))
    rcases T3.out with ⟨i1, i2, i3, i4, i5, i6, i7⟩ | ⟨i1, i2, i3, i4⟩
    · have C8 := Lib.hid (run_strA P6.out)
      rw [show isV (zs (iV bs)) = bs.take j3 from i7] at C8
      have IZ := Lib.hid i1
      clear i1 i2 i3 i4 i5 i6 i7
      rw [IZ.out]
      go_region_held (fun w' => Hid (Below w.heap.size w w') ∧ (convert 23 9 (.slice A6 k6 c6)).run Try.prog w' = .ok (.string (sb (bs.take j3))) w' ∧ (convert 23 9 (.slice A j3 cap)).run Try.prog w' = .ok (.string (sb (bs.take j3))) w') (first | exact ⟨Y8, C8.out, B8.out⟩) (first | fail)
      go_wp2_with fail
      go_ret
      exact ⟨rfl, Y8.out⟩
    · have q1 : (((iE bs : Nat) : Int) == 0) = false := by simp; omega
      have q2 : (((iE bs : Nat) : Int) != 0) = true := by simp; omega
      clear i1 i2 i3 i4
      go_quiet (fail)
      go_wp2_with fail
      go_ret
      exact ⟨rfl, below_drewN W8.out _⟩
end Go.Proofs.Ytipffbhaibamnaa
