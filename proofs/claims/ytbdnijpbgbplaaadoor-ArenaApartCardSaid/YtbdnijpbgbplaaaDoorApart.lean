/- The walk of ArenaApart: it returns true, and nothing that was there has turned. Condition: the table of widths lies in its block. -/
import Derived.Test.YtbdnijpbgbplaaaDoorAny
import Derived.OpenShut
namespace Go.Proofs.YtbdnijpbgbplaaaDoor
open Go.RowKit

theorem stF_ok {n : Nat} {f : Nat → Int} {at_ v : Int} (h : accE n at_ 8 = 0) : stF n f at_ v 8 = st f at_.toNat v 8 := by
  unfold stF; rw [if_pos h]; rfl
theorem ld8 {n : Nat} {f : Nat → Int} {at_ v : Int} (h : accE n at_ 8 = 0) (h0 : 0 ≤ v) (h1 : v ≤ 18446744073709551615) : ldV n (stF n f at_ v 8) at_ 8 = v := by
  rw [stF_ok h]
  unfold ldV
  rw [if_pos h]
  show ld _ _ 8 = _
  rw [ld_st _ _ _ _ _ (Nat.le_refl _)]
  exact Int.emod_eq_of_lt h0 (by omega)
theorem st_swap {n : Nat} {f : Nat → Int} {at_ to v w : Int} (h : accE n at_ 8 = 0) (h' : accE n to 8 = 0) (hd : 8 ≤ at_ - to ∨ 8 ≤ to - at_) : stF n (stF n f at_ v 8) to w 8 = stF n (stF n f to w 8) at_ v 8 := by
  rw [stF_ok h, stF_ok h', stF_ok h, stF_ok h']
  obtain ⟨_, a, _⟩ := accE_ok h
  obtain ⟨_, b, _⟩ := accE_ok h'
  funext j
  unfold st
  by_cases c1 : at_.toNat ≤ j ∧ j < at_.toNat + 8
  · have c2 : ¬ (to.toNat ≤ j ∧ j < to.toNat + 8) := by omega
    simp only [if_pos c1, if_neg c2]
  · simp only [if_neg c1]

set_option maxHeartbeats 400000 in
set_option maxRecDepth 100000 in
theorem apart_walk (n at_ to v u : Int) (w : World) (h0 : (Lit.int .u16 n).wf = true) (h1 : (Lit.int .i64 at_).wf = true) (h2 : (Lit.int .i64 to).wf = true) (h3 : (Lit.int .u64 v).wf = true) (h4 : (Lit.int .u64 u).wf = true)
    (hT : Tab w) (hB : 0 < w.heap.size) :
    Calls Tryd.prog 7 #[.int .u16 n, .int .i64 at_, .int .i64 to, .int .u64 v, .int .u64 u] w fun e w' => e = .returned (.bool true) ∧ Below w.heap.size w w' := by
  have b0 := bounds_u16 h0
  have b1 := bounds_i64 h1
  have b2 := bounds_i64 h2
  have b3 := bounds_u64 h3
  have b4 := bounds_u64 h4
  clear h0 h1 h2 h3 h4
  obtain ⟨N, rfl⟩ := Int.eq_ofNat_of_zero_le b0.1
  have hN : N ≤ 65535 := by omega
  clear b0
  have HT := Lib.hid hT
  clear hT
  go_enter Tryd.func7, Tryd.ntmps7
  go_wp2_with fail
  refine (shown_any HT.out hB).mono ?_
  rintro e w1 ⟨rfl, hb⟩
  have HB1 := Lib.hid hb
  clear hb
  go_wp2_with fail
  refine (new_ok N (by omega)).mono ?_
  rintro e w2 ⟨rfl, hA, hz, hb⟩
  have HA := Lib.hid hA
  have HB2 := Lib.hid (HB1.out.trans (hb.mono HB1.out.size))
  clear hA hz hb
  go_wp2_with fail
  refine (new_ok N (by omega)).mono ?_
  rintro e w3 ⟨rfl, hA, hz, hb⟩
  have HC := Lib.hid hA
  have HA3 := Lib.hid (HA.out.below hb HA.out.head.lt HA.out.body.lt)
  have HB3 := Lib.hid (HB2.out.trans (hb.mono HB2.out.size))
  have T3 := Lib.hid (HT.out.below HB3.out hB)
  have LT := Lib.hid (show w1.heap.size < w2.heap.size ∧ w1.heap.size + 1 < w2.heap.size from ⟨HA.out.body.lt, HA.out.head.lt⟩)
  clear hA hz hb HA
  go_wp2_with fail
  refine (store_any _ _ _ _ _ _ _ T3.out HA3.out b3.1).mono ?_
  rintro e w4 ⟨rfl, hA, ho⟩
  have HA4 := Lib.hid hA
  have HC4 := Lib.hid (HC.out.only ho (by have := LT.out; omega) (by have := LT.out; omega))
  have HB4 := Lib.hid (HB3.out.trans (ho.below HB1.out.size))
  have T4 := Lib.hid (HT.out.below HB4.out hB)
  clear hA ho
  go_wp2_with fail
  refine (store_any _ _ _ _ _ _ _ T4.out HA4.out b4.1).mono ?_
  rintro e w5 ⟨rfl, hA, ho⟩
  have HA5 := Lib.hid hA
  have HC5 := Lib.hid (HC4.out.only ho (by have := LT.out; omega) (by have := LT.out; omega))
  have HB5 := Lib.hid (HB4.out.trans (ho.below HB1.out.size))
  have T5 := Lib.hid (HT.out.below HB5.out hB)
  clear hA ho
  go_wp2_with fail
  refine (store_any _ _ _ _ _ _ _ T5.out HC5.out b4.1).mono ?_
  rintro e w6 ⟨rfl, hA, ho⟩
  have HC6 := Lib.hid hA
  have HA6 := Lib.hid (HA5.out.only ho (by have := LT.out; omega) (by have := LT.out; omega))
  have HB6 := Lib.hid (HB5.out.trans (ho.below HB2.out.size))
  have T6 := Lib.hid (HT.out.below HB6.out hB)
  clear hA ho
  go_wp2_with fail
  refine (store_any _ _ _ _ _ _ _ T6.out HC6.out b3.1).mono ?_
  rintro e w7 ⟨rfl, hA, ho⟩
  have HC7 := Lib.hid hA
  have HA7 := Lib.hid (HA6.out.only ho (by have := LT.out; omega) (by have := LT.out; omega))
  have HB7 := Lib.hid (HB6.out.trans (ho.below HB2.out.size))
  have T7 := Lib.hid (HT.out.below HB7.out hB)
  clear hA ho
  clear HA3 HA4 HA5 HA6 HC HC4 HC5 HC6 HB2 HB3 HB4 HB5 HB6 T3 T4 T5 T6
  by_cases e1 : accE N at_ 8 = 0
  · by_cases e2 : accE N to 8 = 0
    · rw [e1, e2]
      have E1 := Lib.hid e1
      have E2 := Lib.hid e2
      have c1 := (accE_ok e1).2
      have c2 := (accE_ok e2).2
      have L1 := Lib.hid (ld8 (f := stF N (fun _ => 0) at_ v 8) e2 b4.1 b4.2)
      have L2 := Lib.hid (ld8 (f := stF N (fun _ => 0) to u 8) e1 b3.1 b3.2)
      clear e1 e2
      go_wp2_with fail
      refine (load_any _ _ _ _ _ _ T7.out HA7.out).mono ?_
      rintro e w' ⟨rfl, rfl⟩
      rw [E2.out, L1.out]
      go_wp2_with fail
      refine (load_any _ _ _ _ _ _ T7.out HC7.out).mono ?_
      rintro e w' ⟨rfl, rfl⟩
      rw [E1.out, L2.out]
      by_cases hd : 8 ≤ at_ - to ∨ 8 ≤ to - at_
      · have SW := Lib.hid (st_swap (f := fun _ => 0) (v := v) (w := u) E1.out E2.out hd)
        clear L1 L2 E1 E2
        rcases hd with hd | hd
        all_goals
          go_wp2_with fail
          refine (bytes_all _ _ _ _ HA7.out).mono ?_
          rintro e w8 ⟨rfl, hk, hb⟩
          have HK := Lib.hid hk
          have HC8 := Lib.hid (HC7.out.below hb HC7.out.head.lt HC7.out.body.lt)
          have HB8 := Lib.hid (HB7.out.trans (hb.mono HB7.out.size))
          clear hk hb
          go_wp2_with fail
          refine (bytes_all _ _ _ _ HC8.out).mono ?_
          rintro e w9 ⟨rfl, hk, hb⟩
          have hs1 := run_string_all (w := w9) _ N N _ HA7.out.byte (HK.out.below hb HK.out.lt)
          have hs2 := run_string_all (w := w9) _ N N _ HC8.out.byte hk
          have HB9 := Lib.hid (HB8.out.trans (hb.mono HB8.out.size))
          rw [SW.out] at hs1
          clear hk hb
          go_wp2
          go_ret
          exact ⟨rfl, HB9.out⟩
      · have d1 : ¬ 8 ≤ at_ - to := fun h => hd (.inl h)
        have d2 : ¬ 8 ≤ to - at_ := fun h => hd (.inr h)
        clear hd
        go_wp2
        go_ret
        exact ⟨rfl, HB7.out⟩
    · rw [e1]
      have hq' : (accE N to 8 != 0) = true := by simpa using e2
      clear e1 e2
      go_wp2
      go_ret
      exact ⟨rfl, HB7.out⟩
  · have hq' : (accE N at_ 8 != 0) = true := by simpa using e1
    clear e1
    go_wp2
    go_ret
    exact ⟨rfl, HB7.out⟩
end Go.Proofs.YtbdnijpbgbplaaaDoor
