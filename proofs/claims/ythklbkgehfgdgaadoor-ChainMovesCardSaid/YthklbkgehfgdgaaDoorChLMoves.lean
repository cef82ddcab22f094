/- The walk of ChainMoves: it returns true, and nothing that was there has turned. Condition: the table of widths lies in its block. -/
import Derived.Test.YthklbkgehfgdgaaDoorChMovesM
namespace Go.Proofs.YthklbkgehfgdgaaDoor
open Go.RowKit

set_option maxRecDepth 100000 in
set_option maxHeartbeats 8000000 in
theorem moves_walk (n q : Nat) (d : Bool) (w : World) (hn : n ≤ 255) (hq : q ≤ 255) (hT : Tab w) (hB : 0 < w.heap.size) :
    Calls Tryd.prog 7 #[.int .u8 n, .int .u8 q, .bool d] w fun e w' => e = .returned (.bool true) ∧ Below w.heap.size w w' := by
  obtain ⟨m, hm⟩ : ∃ m, m = n % 14 := ⟨_, rfl⟩
  obtain ⟨c, hc⟩ : ∃ c, c = q % (m + 1) := ⟨_, rfl⟩
  have hm14 : m < 14 := by omega
  have hcm : c < m + 1 := by rw [hc]; exact Nat.mod_lt _ (by omega)
  have hmi : 1 + (n : Int) % 14 = (m : Int) + 1 := by omega
  have P : ∀ (p g k : Nat), k < 14 → ∀ w' f, Cs w w' p g (EL false k) f → Calls Tryd.prog 14 #[.pointer (some ⟨p, 0, none⟩), .int .i64 8, .int .i64 (ndN k : Nat), .bool false] w' (Ct w w' p g (EL false (k + 1)) (.int .i64 0)) := fun p g k hk w' f c => by
    have := cs_push c false (h := 8) (by decide) (ndN_in k)
    rw [(EL_push false hk).1, (EL_push false hk).2] at this
    exact this
  have R : ∀ (p g : Nat) w' f, Cs w w' p g (EL false (m + 1)) f → Calls Tryd.prog 18 #[.pointer (some ⟨p, 0, none⟩), .int .i64 8, .int .i64 (ndN c : Nat)] w' (Ct w w' p g (M1 (m + 1) c) (.int .i64 0)) := fun p g w' f c' => by
    have := cs_remove c' (h := 8) (by decide) (ndN_in c)
    rw [(M1_cut (by omega) hcm).1, (M1_cut (by omega) hcm).2] at this
    exact this
  have U : ∀ (p g : Nat) w' f, Cs w w' p g (M1 (m + 1) c) f → Calls Tryd.prog 14 #[.pointer (some ⟨p, 0, none⟩), .int .i64 16, .int .i64 (ndN c : Nat), .bool d] w' (Ct w w' p g (M2 (m + 1) c) (.int .i64 0)) := fun p g w' f c' => by
    have := cs_push c' d (h := 16) (by decide) (ndN_in c)
    rw [(M2_push (by omega) hcm d).1, (M2_push (by omega) hcm d).2] at this
    exact this
  have A8 : ∀ (p g : Nat) w' f, Cs w w' p g (M2 (m + 1) c) f → Calls Tryd.prog 25 #[.pointer (some ⟨p, 0, none⟩), .int .i64 8] w' fun e w'' => ∃ A cap, e = .returned (.tuple #[.slice A m cap, .int .i64 0]) ∧ Sx w'' ⟨w.heap.size, g⟩ A (mv (m + 1) c) ∧ Below w'.heap.size w' w'' := fun p g w' f c' => by
    have := cs_all c' (h := 8) (by decide)
    rw [M2_8, mv_len hcm] at this
    exact this
  have A16 : ∀ (p g : Nat) w' f, Cs w w' p g (M2 (m + 1) c) f → Calls Tryd.prog 25 #[.pointer (some ⟨p, 0, none⟩), .int .i64 16] w' fun e w'' => ∃ A cap, e = .returned (.tuple #[.slice A 1 cap, .int .i64 0]) ∧ Sx w'' ⟨w.heap.size, g⟩ A [ndN c] ∧ Below w'.heap.size w' w'' := fun p g w' f c' => by
    have := cs_all c' (h := 16) (by decide)
    rw [M2_16] at this
    exact this
  have R2 : ∀ (p g : Nat) w' f, Cs w w' p g (M2 (m + 1) c) f → Calls Tryd.prog 18 #[.pointer (some ⟨p, 0, none⟩), .int .i64 8, .int .i64 (ndN c : Nat)] w' (Ct w w' p g (M2 (m + 1) c) (.int .i64 8)) := fun p g w' f c' => by
    have := cs_remove c' (h := 8) (by decide) (ndN_in c)
    rw [(M2_not (by omega) hcm).1, (M2_not (by omega) hcm).2] at this
    exact this
  have MA : ∀ k, k < m + 1 → k ≠ c → (mv (m + 1) c)[if k ≤ c then k else k - 1]? = some (ndN k) := fun k h1 h2 => mv_at h1 h2
  have ND : ∀ k, k < m + 1 → k ≠ c → ¬ ((ndN k : Nat) : Int) = (ndN c : Nat) := fun k h1 h2 => by rw [ndN_of (by omega), ndN_of (by omega)]; omega
  have hz0 := EL_zero false
  generalize EL false = el at P R hz0
  generalize M1 (m + 1) c = e1 at R U
  generalize M2 (m + 1) c = e2 at U A8 A16 R2
  generalize mv (m + 1) c = l at A8 MA
  replace P := Lib.hid P
  replace R := Lib.hid R
  replace U := Lib.hid U
  replace A8 := Lib.hid A8
  replace A16 := Lib.hid A16
  replace R2 := Lib.hid R2
  replace MA := Lib.hid MA
  replace ND := Lib.hid ND
  replace hz0 := Lib.hid hz0
  replace hm := Lib.hid hm
  have hci : (q : Int) % ((m : Int) + 1) = (c : Int) := by rw [hc, Int.natCast_emod]; rfl
  have hcw : IntKind.u8.wrap (c : Int) = c := by rw [IntKind.wrap_u8]; omega
  have hmw : IntKind.u8.wrap ((m : Int) + 1) = (m : Int) + 1 := by rw [IntKind.wrap_u8]; omega
  replace hc := Lib.hid hc
  have hci := Lib.hid hci
  have hcw := Lib.hid hcw
  have hmw := Lib.hid hmw
  have SH := Lib.hid (shown_any10 hT hB)
  have HT := Lib.hid hT
  clear hT
  go_enter Tryd.func7, Tryd.ntmps7
  go_wp2_with fail
  refine SH.out.mono ?_
  rintro e wa ⟨rfl, hb⟩
  have NW := Lib.hid (cs_new (HT.out.below hb hB) (Nat.lt_of_lt_of_le hB hb.size) hb)
  clear hb
  go_wp2_with fail
  refine NW.out.mono ?_
  rintro e wc ⟨p, g, rfl, hc, hb⟩
  have CC := Lib.hid hc
  clear hc hb
  replace CC : Hid (Cs w wc p g (el 0) (fun _ => 0)) := Lib.hid (by rw [hz0.out]; exact CC.out)
  go_wp2_with fail
  clear hmi
  go_loopw [10] (fun v wr => ∃ (k : Nat) (f : Nat → Int), k ≤ m + 1 ∧ v = .int .i64 k ∧ Hid (Cs w wr p g (el k) f)) (fun v _ => m + 1 - (intOf v).toNat)
  case atStart => exact ⟨0, _, Nat.zero_le _, rfl, CC⟩
  case round =>
    clear CC
    obtain ⟨k, f, hk, rfl, CC⟩ := hrel
    by_cases hlt : k < m + 1
    · have hk14 : k < 14 := by omega
      have hw8 : IntKind.u8.wrap (k : Int) = k := by rw [IntKind.wrap_u8]; omega
      go_wp2_with (first
        | (go_at_call 13; (with_reducible refine (node_any k (by omega) _).mono ?_); rintro e wd ⟨rfl, rfl⟩)
        | (go_at_call 14; (with_reducible refine (P.out p g k hk14 _ f CC.out).mono ?_); rintro e wd ⟨rfl, f', hc, hf⟩; have CC := Lib.hid hc; clear hc hf))
      go_roundw
      case rel => exact ⟨k + 1, f', hlt, by go_num, CC⟩
      case measure => simp [intOf]; omega
    · obtain rfl : k = m + 1 := by omega
      have hci := hci.out
      have hcw := hcw.out
      have hmw := hmw.out
      go_wp2_with (first
        | (go_at_call 13; (with_reducible refine (node_any c (by omega) _).mono ?_); rintro e wd ⟨rfl, rfl⟩)
        | (go_at_call 18; (with_reducible refine (R.out p g _ f CC.out).mono ?_); rintro e wd ⟨rfl, f1, hc, hf⟩; have CC := Lib.hid hc; clear hc hf)
        | (go_at_call 14; (with_reducible refine (U.out p g _ f1 CC.out).mono ?_); rintro e wd ⟨rfl, f2, hc, hf⟩; have CC := Lib.hid hc; clear hc hf)
        | (go_at_call 25; (with_reducible refine (A8.out p g _ f2 CC.out).mono ?_); rintro e wd ⟨A, cap, rfl, hs, hb⟩; have CC := Lib.hid (CC.out.below hb); have S8 := Lib.hid hs; clear hs hb)
        | (go_at_call 25; (with_reducible refine (A16.out p g _ f2 CC.out).mono ?_); rintro e wd ⟨A', cap', rfl, hs, hb⟩; have CC := Lib.hid (CC.out.below hb); have S8 := Lib.hid (S8.out.keep (Kx.below hb)); obtain ⟨bb, oo, rfl, _, _, hcc⟩ := hs 0 (ndN c) rfl; rw [Nat.add_zero] at hcc; clear hs hb))
      clear hci hcw hmw hcc
      go_loopw [18, 19] (fun v18 v19 wr => ∃ (k i : Nat), k ≤ m + 1 ∧ v19 = .int .i64 k ∧ v18 = .int .i64 i ∧ Hid (i = if k ≤ c then k else k - 1) ∧ Hid (Cs w wr p g e2 f2) ∧ Hid (Sx wr ⟨w.heap.size, g⟩ A l)) (fun _ v _ => m + 1 - (intOf v).toNat)
      case atStart => exact ⟨0, 0, Nat.zero_le _, rfl, rfl, Lib.hid (by simp), CC, S8⟩
      case round =>
        clear CC S8
        obtain ⟨k, i, hk, rfl, rfl, hi, CC, S8⟩ := hrel
        by_cases hlt2 : k < m + 1
        · have hw8 : IntKind.u8.wrap (k : Int) = k := by rw [IntKind.wrap_u8]; omega
          by_cases hkc : k = c
          · have hi2 : Hid (i = if k + 1 ≤ c then k + 1 else k + 1 - 1) := Lib.hid (by rw [hi.out, hkc]; simp)
            subst hkc
            go_wp2_with (go_at_call 13; (with_reducible refine (node_any k (by omega) _).mono ?_); rintro e wd ⟨rfl, rfl⟩)
            go_roundw
            case rel => exact ⟨k + 1, i, hlt2, by go_num, rfl, hi2, CC, S8⟩
            case measure => simp [intOf]; omega
          · have him : i < m := by have := hi.out; split at this <;> omega
            have hi2 : Hid (i + 1 = if k + 1 ≤ c then k + 1 else k + 1 - 1) := Lib.hid (by have := hi.out; split at this <;> split <;> omega)
            have hla := MA.out k hlt2 hkc
            rw [← hi.out] at hla
            obtain ⟨b', o', rfl, _, _, hcell⟩ := S8.out i _ hla
            have hne := ND.out k hlt2 hkc
            have himi : (i : Int) < (m : Int) := by omega
            have HK := Lib.hid hkc
            clear hla hkc
            go_wp2_with (go_at_call 13; (with_reducible refine (node_any k (by omega) _).mono ?_); rintro e wd ⟨rfl, rfl⟩)
            go_quiet ((go_at_call 13; exact quiet_sm (node_any k (by omega) _)))
            go_wp2_with fail
            go_roundw
            case rel => exact ⟨k + 1, i + 1, hlt2, by go_num, by go_num, hi2, Lib.hid (CC.out.drewN _), Lib.hid (S8.out.keep (Kx.drewN _ _))⟩
            case measure => simp [intOf]; omega
        · obtain rfl : k = m + 1 := by omega
          go_wp2_with (go_at_call 18; (with_reducible refine (R2.out p g _ f2 CC.out).mono ?_); rintro e wd ⟨rfl, f3, hc, hf⟩; have CC := Lib.hid hc; clear hc hf)
          go_ret
          exact ⟨rfl, CC.out.bl⟩
end Go.Proofs.YthklbkgehfgdgaaDoor
