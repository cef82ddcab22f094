/- The walk of ArenaHalves: it returns true, and nothing that was there has turned. Condition: the table of widths lies in its block. -/
import Derived.Test.YtbdnijpbgbplaaaDoorAny
import Derived.OpenShut
namespace Go.Proofs.YtbdnijpbgbplaaaDoor
open Go.RowKit

/-- A number, its halves, and their bounds. -/
theorem halves_eq {n : Nat} {f : Nat → Int} {at_ : Int} (hf : Bytes f) (k : Nat) (hk : isW k = true) (h : accE n at_ (2 * k : Nat) = 0) :
    accE n at_ k = 0 ∧ accE n (at_ + k) k = 0 ∧ ∃ lo hi : Int, ldV n f at_ k = lo ∧ ldV n f (at_ + k) k = hi ∧ ldV n f at_ (2 * k : Nat) = lo + hi * 256 ^ k ∧ 0 ≤ lo ∧ lo < 256 ^ k ∧ 0 ≤ hi ∧ hi < 256 ^ k := by
  obtain ⟨_, h0, h1⟩ := accE_ok h
  obtain ⟨a, rfl⟩ := Int.eq_ofNat_of_zero_le h0
  have e1 : accE n (a : Int) k = 0 := accE_mk hk h0 (by omega)
  have e2 : accE n ((a : Int) + k) k = 0 := accE_mk hk (by omega) (by omega)
  refine ⟨e1, e2, ld f a k, ld f (a + k) k, ?_, ?_, ?_, (ld_bound hf _ _).1, (ld_bound hf _ _).2, (ld_bound hf _ _).1, (ld_bound hf _ _).2⟩
  · unfold ldV; rw [if_pos e1]; rfl
  · unfold ldV; rw [if_pos e2]; rfl
  · unfold ldV; rw [if_pos h]
    show ld f a (2 * k) = _
    rw [Nat.two_mul, ld_add]

set_option maxRecDepth 100000 in
theorem halves_walk (n at_ v wide : Int) (w : World) (h0 : (Lit.int .u16 n).wf = true) (h1 : (Lit.int .i64 at_).wf = true) (h2 : (Lit.int .u64 v).wf = true) (h3 : (Lit.int .u8 wide).wf = true)
    (hT : Tab w) (hB : 0 < w.heap.size) :
    Calls Tryd.prog 5 #[.int .u16 n, .int .i64 at_, .int .u64 v, .int .u8 wide] w fun e w' => e = .returned (.bool true) ∧ Below w.heap.size w w' := by
  have b0 := bounds_u16 h0
  have b1 := bounds_i64 h1
  have b2 := bounds_u64 h2
  have b3 := bounds_u8 h3
  clear h0 h1 h2 h3
  obtain ⟨N, rfl⟩ := Int.eq_ofNat_of_zero_le b0.1
  have hN : N ≤ 65535 := by omega
  clear b0
  have HT := Lib.hid hT
  clear hT
  obtain ⟨r, hr, hr2⟩ : ∃ r : Nat, wide % 3 = r ∧ r ≤ 2 := ⟨(wide % 3).toNat, by omega, by omega⟩
  go_enter Tryd.func5, Tryd.ntmps5
  go_wp2_with fail
  refine (shown_any HT.out hB).mono ?_
  rintro e w1 ⟨rfl, hb⟩
  have HB := Lib.hid hb
  clear hb
  go_wp2_with fail
  refine (new_ok N (by omega)).mono ?_
  rintro e w2 ⟨rfl, hA, hz, hb⟩
  have HA := Lib.hid hA
  have HB2 := Lib.hid (HB.out.trans (hb.mono HB.out.size))
  have T2 := Lib.hid (HT.out.below HB2.out hB)
  clear hA hz hb
  go_wp2_with fail
  go_loop [12, 13] (fun h i => ∃ k : Nat, k ≤ r ∧ i = .int .i64 k ∧ h = .int .i64 (2 ^ k : Nat)) (fun _ i => r - (intOf i).toNat)
  case atStart => exact ⟨0, by omega, rfl, rfl⟩
  case round =>
    obtain ⟨k, hk, rfl, rfl⟩ := hrel
    by_cases hlt : k < r
    · have hk3 : k = 0 ∨ k = 1 := by omega
      rcases hk3 with rfl | rfl
      · go_wp2
        go_round
        case rel => exact ⟨1, by omega, rfl, rfl⟩
        case measure => simp [intOf]; omega
      · go_wp2
        go_round
        case rel => exact ⟨2, by omega, rfl, rfl⟩
        case measure => simp [intOf]; omega
    · obtain rfl : k = r := by omega
      have hk3 : k = 0 ∨ k = 1 ∨ k = 2 := by omega
      rcases hk3 with rfl | rfl | rfl
      · go_wp2_with fail
        refine (store_any _ _ _ _ _ _ _ T2.out HA.out b2.1).mono ?_
        rintro e w3 ⟨rfl, hA, ho⟩
        have HA3 := Lib.hid hA
        have HB3 := Lib.hid (HB2.out.trans (ho.below HB.out.size))
        have T3 := Lib.hid (HT.out.below HB3.out hB)
        clear hA ho
        by_cases her : accE N at_ 2 = 0
        · rw [her]
          obtain ⟨a1, a2, lo, hi, l1, l2, l3, m1, m2, m3, m4⟩ := halves_eq HA3.out.byte 1 rfl her
          have at0 := (accE_ok her).2.1
          have at1 := (accE_ok her).2.2
          have A0 := Lib.hid her
          have A1 := Lib.hid (show accE N at_ 1 = 0 from a1)
          have A2 := Lib.hid (show accE N (at_ + 1) 1 = 0 from a2)
          have L1 := Lib.hid (show ldV N (stF N (fun _ => 0) at_ v 2) at_ 1 = lo from l1)
          have L2 := Lib.hid (show ldV N (stF N (fun _ => 0) at_ v 2) (at_ + 1) 1 = hi from l2)
          have L3 := Lib.hid (show ldV N (stF N (fun _ => 0) at_ v 2) at_ 2 = lo + hi * 256 from l3)
          have m2 : lo < 256 := m2
          have m4 : hi < 256 := m4
          clear her a1 a2 l1 l2 l3
          go_wp2_with fail
          refine (load_any _ _ _ _ _ _ T3.out HA3.out).mono ?_
          rintro e w' ⟨rfl, rfl⟩
          rw [A0.out, L3.out]
          go_wp2_with fail
          refine (load_any _ _ _ _ _ _ T3.out HA3.out).mono ?_
          rintro e w' ⟨rfl, rfl⟩
          rw [A1.out, L1.out]
          go_wp2_with fail
          refine (load_any _ _ _ _ _ _ T3.out HA3.out).mono ?_
          rintro e w' ⟨rfl, rfl⟩
          rw [A2.out, L2.out]
          go_wp2
          go_ret
          exact ⟨rfl, HB3.out⟩
        · have hq' : (accE N at_ 2 != 0) = true := by simpa using her
          clear her
          go_wp2
          go_ret
          exact ⟨rfl, HB3.out⟩
      · go_wp2_with fail
        refine (store_any _ _ _ _ _ _ _ T2.out HA.out b2.1).mono ?_
        rintro e w3 ⟨rfl, hA, ho⟩
        have HA3 := Lib.hid hA
        have HB3 := Lib.hid (HB2.out.trans (ho.below HB.out.size))
        have T3 := Lib.hid (HT.out.below HB3.out hB)
        clear hA ho
        by_cases her : accE N at_ 4 = 0
        · rw [her]
          obtain ⟨a1, a2, lo, hi, l1, l2, l3, m1, m2, m3, m4⟩ := halves_eq HA3.out.byte 2 rfl her
          have at0 := (accE_ok her).2.1
          have at1 := (accE_ok her).2.2
          have A0 := Lib.hid her
          have A1 := Lib.hid (show accE N at_ 2 = 0 from a1)
          have A2 := Lib.hid (show accE N (at_ + 2) 2 = 0 from a2)
          have L1 := Lib.hid (show ldV N (stF N (fun _ => 0) at_ v 4) at_ 2 = lo from l1)
          have L2 := Lib.hid (show ldV N (stF N (fun _ => 0) at_ v 4) (at_ + 2) 2 = hi from l2)
          have L3 := Lib.hid (show ldV N (stF N (fun _ => 0) at_ v 4) at_ 4 = lo + hi * 65536 from l3)
          have m2 : lo < 65536 := m2
          have m4 : hi < 65536 := m4
          clear her a1 a2 l1 l2 l3
          go_wp2_with fail
          refine (load_any _ _ _ _ _ _ T3.out HA3.out).mono ?_
          rintro e w' ⟨rfl, rfl⟩
          rw [A0.out, L3.out]
          go_wp2_with fail
          refine (load_any _ _ _ _ _ _ T3.out HA3.out).mono ?_
          rintro e w' ⟨rfl, rfl⟩
          rw [A1.out, L1.out]
          go_wp2_with fail
          refine (load_any _ _ _ _ _ _ T3.out HA3.out).mono ?_
          rintro e w' ⟨rfl, rfl⟩
          rw [A2.out, L2.out]
          go_wp2
          go_ret
          exact ⟨rfl, HB3.out⟩
        · have hq' : (accE N at_ 4 != 0) = true := by simpa using her
          clear her
          go_wp2
          go_ret
          exact ⟨rfl, HB3.out⟩
      · go_wp2_with fail
        refine (store_any _ _ _ _ _ _ _ T2.out HA.out b2.1).mono ?_
        rintro e w3 ⟨rfl, hA, ho⟩
        have HA3 := Lib.hid hA
        have HB3 := Lib.hid (HB2.out.trans (ho.below HB.out.size))
        have T3 := Lib.hid (HT.out.below HB3.out hB)
        clear hA ho
        by_cases her : accE N at_ 8 = 0
        · rw [her]
          obtain ⟨a1, a2, lo, hi, l1, l2, l3, m1, m2, m3, m4⟩ := halves_eq HA3.out.byte 4 rfl her
          have at0 := (accE_ok her).2.1
          have at1 := (accE_ok her).2.2
          have A0 := Lib.hid her
          have A1 := Lib.hid (show accE N at_ 4 = 0 from a1)
          have A2 := Lib.hid (show accE N (at_ + 4) 4 = 0 from a2)
          have L1 := Lib.hid (show ldV N (stF N (fun _ => 0) at_ v 8) at_ 4 = lo from l1)
          have L2 := Lib.hid (show ldV N (stF N (fun _ => 0) at_ v 8) (at_ + 4) 4 = hi from l2)
          have L3 := Lib.hid (show ldV N (stF N (fun _ => 0) at_ v 8) at_ 8 = lo + hi * 4294967296 from l3)
          have m2 : lo < 4294967296 := m2
          have m4 : hi < 4294967296 := m4
          clear her a1 a2 l1 l2 l3
          go_wp2_with fail
          refine (load_any _ _ _ _ _ _ T3.out HA3.out).mono ?_
          rintro e w' ⟨rfl, rfl⟩
          rw [A0.out, L3.out]
          go_wp2_with fail
          refine (load_any _ _ _ _ _ _ T3.out HA3.out).mono ?_
          rintro e w' ⟨rfl, rfl⟩
          rw [A1.out, L1.out]
          go_wp2_with fail
          refine (load_any _ _ _ _ _ _ T3.out HA3.out).mono ?_
          rintro e w' ⟨rfl, rfl⟩
          rw [A2.out, L2.out]
          go_wp2
          go_ret
          exact ⟨rfl, HB3.out⟩
        · have hq' : (accE N at_ 8 != 0) = true := by simpa using her
          clear her
          go_wp2
          go_ret
          exact ⟨rfl, HB3.out⟩
end Go.Proofs.YtbdnijpbgbplaaaDoor
