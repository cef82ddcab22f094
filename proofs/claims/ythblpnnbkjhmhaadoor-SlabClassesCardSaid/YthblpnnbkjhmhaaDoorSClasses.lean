/- The walk of SlabClasses: it returns true, and nothing that was there has turned. Condition: the tables lie in their blocks. -/
import Derived.Test.YthblpnnbkjhmhaaDoorSLaw
namespace Go.Proofs.YthblpnnbkjhmhaaDoor
open Go.RowKit

set_option maxRecDepth 100000 in
set_option maxHeartbeats 1000000 in
theorem classes_walk (A : Option Addr) (len cap : Nat) (w : World) (hD : Sizes w A len ∧ len ≤ 9223372036854775807) (hT : Tbs w) (_hB : True) :
    Calls Tryd.prog 7 #[.slice A len cap] w fun e w' => e = .returned (.bool true) ∧ Below w.heap.size w w' := by
  obtain ⟨hD, hlen⟩ := hD
  have HT := Lib.hid hT
  have HD := Lib.hid hD
  clear hT hD
  go_enter Tryd.func7, Tryd.ntmps7
  go_wp2_with fail
  refine (shownS_any HT.out).mono ?_
  rintro e w1 ⟨rfl, hb⟩
  have H1 := Lib.hid (HT.out.below hb)
  have B1 := Lib.hid hb
  clear hb
  go_wp2_with fail
  refine (sb_new (w0 := w) 64 (by decide) (by decide) H1.out B1.out).mono ?_
  rintro e w2 ⟨L, rfl, h2⟩
  have H2 := Lib.hid h2
  clear h2
  go_wp2_with fail
  go_loopw [6] (fun v wr => ∃ (k : Nat) (s : St) (f : Nat → Int), k ≤ len ∧ k ≤ 100 ∧ v = .int .i64 k ∧ Hid (Sb w wr L 64 s f)) (fun v _ => 100 - (intOf v).toNat)
  case atStart => exact ⟨0, _, _, Nat.zero_le _, Nat.zero_le _, rfl, H2⟩
  case round =>
    obtain ⟨k, s, f, hk, hk2, rfl, hS⟩ := hrel
    by_cases h1 : k < len
    · have d1 : decide ((k : Int) < len) = true := decide_eq_true (by omega)
      by_cases h2 : k < 100
      · have d2 : decide ((k : Int) < 100) = true := decide_eq_true (by omega)
        obtain ⟨b, o, z, rfl, hblt, hc, hz⟩ := HD.out k h1
        have hc' := (hS.out.bl.cell (p := ⟨b, o + k, none⟩) hblt).trans hc
        have hm : (z : Int).tmod 256 = ((z % 256 : Nat) : Int) := by rw [Int.tmod_eq_emod_of_nonneg (by omega)]; omega
        have hm2 : z % 256 < 256 := Nat.mod_lt _ (by decide)
        generalize z % 256 = m at hm hm2
        go_wp2_with fail
        refine (sb_alloc (1 + (m : Int)) hS.out).mono ?_
        rintro e w3 ⟨rfl, f3, h3, -, -, -⟩
        have H3 := Lib.hid h3
        rcases al_err (n := 64) (s := s) (alOk_mk hm2) with he | ⟨he, -⟩
        · obtain ⟨p, a, l, s1, hg⟩ := al_got hS.out.inv he
          have hv := hg.val
          rw [he, hv]
          have hbk := isB_tkn h3.inv.toInv0 hg.tkn
          rw [hg.after] at hbk
          obtain ⟨q1, q2, q3, q4⟩ := hg.page
          have hC := (clsOf_isC (1 + (m : Int))).bd
          have hle := clsOf_le (x := 1 + (m : Int)) (by omega)
          have h2c := clsOf_two hm2
          have hp := hg.lt
          have BK := Lib.hid hbk.1
          have BV := Lib.hid hbk.2.1
          clear he hv hbk h3 hg
          generalize alS 64 s (1 + (m : Int)) = s' at *
          generalize hcc : clsOf (1 + (m : Int)) = c at *
          have t1 : (a : Int).tdiv 512 = ((p : Nat) : Int) := by rw [Int.tdiv_eq_ediv_of_nonneg (by omega)]; omega
          have t2 : ((a : Int) + c - 1).tdiv 512 = ((p : Nat) : Int) := by rw [Int.tdiv_eq_ediv_of_nonneg (by omega)]; omega
          have t3 : (a : Int).tmod c = 0 := by rw [Int.tmod_eq_emod_of_nonneg (by omega)]; omega
          have g1 : decide (((c : Nat) : Int) < 1 + m) = false := decide_eq_false (by omega)
          clear q1 q2
          go_wp2_with fail
          refine (sb_block a H3.out).mono ?_
          rw [BK.out, BV.out]
          rintro e w4 ⟨rfl, h4, -⟩
          have H4 := Lib.hid h4
          clear h4
          by_cases h16 : 16 < c
          · have g2 : decide ((16 : Int) < c) = true := decide_eq_true (by omega)
            have g3 : decide (2 * (1 + (m : Int)) ≤ c) = false := decide_eq_false (by omega)
            go_wp2
            go_roundw
            case rel => exact ⟨k + 1, s', f3, h1, h2, by go_num, H4⟩
            case measure => simp [intOf]; omega
          · have g2 : decide ((16 : Int) < c) = false := decide_eq_false (by omega)
            go_wp2
            go_roundw
            case rel => exact ⟨k + 1, s', f3, h1, h2, by go_num, H4⟩
            case measure => simp [intOf]; omega
        · rw [he]
          clear he h3
          generalize alV 64 s (1 + (m : Int)) = av
          go_wp2
          go_ret
          exact ⟨rfl, H3.out.bl⟩
      · have d2 : decide ((k : Int) < 100) = false := decide_eq_false (by omega)
        go_wp2
        go_ret
        exact ⟨rfl, hS.out.bl⟩
    · have d1 : decide ((k : Int) < len) = false := decide_eq_false (by omega)
      go_wp2
      go_ret
      exact ⟨rfl, hS.out.bl⟩
end Go.Proofs.YthblpnnbkjhmhaaDoor
