/- The contract of the document's TakeNumber. Condition: the slice can be read. -/
import Derived.Test.YtnkjlocjfljjlaaWTake
namespace Go.Proofs.Ytnkjlocjfljjlaa
open Go.RowKit

theorem v_err {bs : List Nat} {e : Nat} (h : vE bs = e) (he : e ≠ 0) : tN bs = 0 ∧ tW bs = 0 ∧ tE bs = e := by
  obtain ⟨h1, h2, h3⟩ := tk_vE (bs := bs) (by rw [h]; exact he)
  exact ⟨h2, h3, by rw [h1, h]⟩
section
variable {w : World}
set_option maxRecDepth 100000 in
theorem rtake_any (A : Option Addr) (k cap : Nat) (bs : List Nat) (h : Rd w A k cap bs) :
    Calls Try.prog 39 #[.slice A k cap] w fun e w' => e = .returned (.tuple #[.int .u64 (tN bs : Nat), .int .i64 (tW bs : Nat), .int .i64 (tE bs : Nat)]) ∧ w = w' := by
  have hle := h.le
  have hmx := h.max
  have HL := Lib.hid h.len
  have HB := Lib.hid h.byt
  have HR := Lib.hid h
  clear h
  go_enter Try.func39, Try.ntmps39
  go_wp2_with fail
  go_loop [5] (fun i => ∃ j : Nat, j ≤ k ∧ j ≤ 10 ∧ i = .int .i64 j ∧ Hid (∀ t, t < j → 128 ≤ bs.getD t 0)) (fun i => 10 - (intOf i).toNat)
  case atStart => exact ⟨0, Nat.zero_le _, Nat.zero_le _, rfl, fun t ht => absurd ht (by omega)⟩
  case round =>
    obtain ⟨j, hj, hj10, rfl, HJ⟩ := hrel
    by_cases h10 : j = 10
    · subst h10
      obtain ⟨_, e⟩ := v_form (bs := bs) (by rw [HL.out]; omega) HJ.out
      obtain ⟨e1, e2, e3⟩ := v_err e (by decide)
      have HX := Lib.hid (And.intro e1 (And.intro e2 e3))
      clear e e1 e2 e3
      by_cases hlt : 10 < k
      all_goals
        go_wp2_with fail
        go_ret3
        rw [HX.out.1, HX.out.2.1, HX.out.2.2]
        exact ⟨rfl, rfl⟩
    have hj10' : j < 10 := by omega
    have q10 : ((j : Int) == 10) = false := by simp; omega
    by_cases hlt : j < k
    · have qk : ((j : Int) == k) = false := by simp; omega
      obtain ⟨b, o, c, rfl, hc, HC, hcell⟩ := HR.out.byteAt j hlt
      by_cases hcl : c < 128
      · obtain ⟨v1, v2⟩ := v_at (by rw [HL.out]; exact hlt) hj10' HJ.out HC.out hcl
        obtain ⟨m, e1, hm, hml, hlast, e2, e3, e4⟩ := tk_vW v2
        obtain rfl : m = j := by omega
        rw [HC.out] at e2
        have H3 := Lib.hid e3
        have H4 := Lib.hid e4
        clear v1 v2 e1 e3 e4 hlast hml
        by_cases c1 : c = 0 ∧ 0 < m
        · obtain ⟨e5, e6⟩ := H3.out (by rw [e2, if_pos c1]; decide)
          have HX := Lib.hid (And.intro e5 (And.intro e6 (e2.trans (if_pos c1))))
          clear e2 e5 e6
          obtain ⟨rfl, hm0⟩ := c1
          go_wp2_with fail
          go_ret3
          rw [HX.out.1, HX.out.2.1, HX.out.2.2]
          exact ⟨rfl, rfl⟩
        rw [if_neg c1] at e2
        by_cases c2 : m = 9 ∧ 1 < c
        · obtain ⟨e5, e6⟩ := H3.out (by rw [e2, if_pos c2]; decide)
          have HX := Lib.hid (And.intro e5 (And.intro e6 (e2.trans (if_pos c2))))
          clear e2 e5 e6
          have hc0 : ((c : Int) == 0) = false := by simp; omega
          obtain ⟨rfl, hm0⟩ := c2
          go_wp2_with fail
          go_ret3
          rw [HX.out.1, HX.out.2.1, HX.out.2.2]
          exact ⟨rfl, rfl⟩
        rw [if_neg c2] at e2
        obtain ⟨e5, e6⟩ := H4.out e2
        have HS := Lib.hid fun i => val_small HB.out (i := i) e6 e5
        have HX := Lib.hid (And.intro e5 (And.intro e6 e2))
        clear e2 e5 e6
        rcases (by omega : (c = 0 ∧ m = 0) ∨ (c ≠ 0 ∧ m ≠ 9) ∨ (c ≠ 0 ∧ m = 9 ∧ c ≤ 1)) with ⟨rfl, q2⟩ | ⟨q1, q2⟩ | ⟨q1, q2, q3⟩
        case' inl =>
          have q4 : ¬ (0 : Int) < (m : Int) := by omega
          have hm9 : ((m : Int) == 9) = false := by simp; omega
          have q := Lib.hid q2
          clear c1 c2 q2
          go_wp2_with fail
        case' inr.inl =>
          have hc0 : ((c : Int) == 0) = false := by simp; omega
          have hm9 : ((m : Int) == 9) = false := by simp; omega
          clear c1 c2
          go_wp2_with fail
        case' inr.inr =>
          have hc0 : ((c : Int) == 0) = false := by simp; omega
          have hm9 : ((m : Int) == 9) = true := by simp; omega
          have q := Lib.hid q2
          clear c1 c2 q2
          go_wp2_with fail
        all_goals
          clear hcell
          go_loop [6, 7] (fun v i => (∃ t V : Nat, t ≤ m ∧ i = .int .i64 t ∧ v = .int .u64 V ∧ Hid (V = val ((bs.take (m + 1)).drop (t + 1)))) ∨ (i = .int .i64 (-1) ∧ ∃ V : Nat, v = .int .u64 V ∧ Hid (V = val (bs.take (m + 1))))) (fun _ i => (intOf i + 1).toNat)
          case atStart => exact .inl ⟨m, 0, Nat.le_refl _, by go_num, rfl, by rw [List.drop_eq_nil_of_le (by rw [List.length_take]; omega)]; rfl⟩
          case round =>
            rcases hrel with ⟨t, V, ht, rfl, rfl, HVV⟩ | ⟨rfl, V, rfl, HVV⟩
            · obtain ⟨d, hd, HD, hcd⟩ := HR.out.at t (by omega)
              have hst := val_step ht (show m < bs.length by rw [HL.out]; exact hlt)
              rw [HD.out, ← HVV.out] at hst
              have hsm := HS.out t
              rw [hst] at hsm
              have HST := Lib.hid hst
              clear hst
              go_wp2_with fail
              go_round
              case rel =>
                have hv2 : val ((bs.take (m + 1)).drop t) = d % 128 + 128 * V := HST.out
                cases t with
                | zero => exact .inr ⟨by go_num, d % 128 + 128 * V, by go_num, by rw [List.drop_zero] at hv2; exact hv2.symm⟩
                | succ t => exact .inl ⟨t, d % 128 + 128 * V, by omega, by go_num, by go_num, hv2.symm⟩
              case measure => simp [intOf]
            · go_wp2_with fail
              go_ret3
              rw [HX.out.1, HX.out.2.1, HX.out.2.2, HVV.out]
              exact ⟨by simp, rfl⟩
      · go_wp2_with fail
        go_round
        case rel => exact ⟨j + 1, by omega, by omega, by go_num, v_next HJ.out HC.out hcl⟩
        case measure => simp [intOf]; omega
    · obtain rfl : j = k := by omega
      obtain ⟨_, e⟩ := v_short (bs := bs) (by rw [HL.out]; exact hj10') (by rw [HL.out]; exact HJ.out)
      obtain ⟨e1, e2, e3⟩ := v_err e (by decide)
      have HX := Lib.hid (And.intro e1 (And.intro e2 e3))
      clear e e1 e2 e3
      go_wp2_with fail
      go_ret3
      rw [HX.out.1, HX.out.2.1, HX.out.2.2]
      exact ⟨rfl, rfl⟩
end
end Go.Proofs.Ytnkjlocjfljjlaa
