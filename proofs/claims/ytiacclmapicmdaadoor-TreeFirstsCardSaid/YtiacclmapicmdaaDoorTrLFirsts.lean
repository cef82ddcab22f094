/- The walk of TreeFirsts: it returns true, and nothing that was there has turned. Condition: the table of widths lies in its block. -/
import Derived.Test.YtiacclmapicmdaaDoorTrOpen
import Derived.Deep.LoopGhost
namespace Go.Proofs.YtiacclmapicmdaaDoor
open Go.RowKit

set_option maxRecDepth 100000 in
set_option maxHeartbeats 8000000 in
theorem firsts_walk11 (A : Option Addr) (len cap : Nat) (w : World) (hD : Keys w A len cap ∧ len ≤ 9223372036854775807) (hT : Tab w) (hB : 0 < w.heap.size) :
    Calls Tryd.prog 7 #[.slice A len cap] w fun e w' => e = .returned (.bool true) ∧ Below w.heap.size w w' := by
  obtain ⟨⟨⟨ys, hys, hkz⟩, hlc⟩, _⟩ := hD
  obtain ⟨m, hm⟩ : ∃ m, m = min len 40 := ⟨_, rfl⟩
  obtain ⟨xs, hxs⟩ : ∃ xs, xs = ys.take m := ⟨_, rfl⟩
  have hxl : xs.length = m := by rw [hxs, List.length_take, hys]; omega
  have hkx : Kz w A xs := by rw [hxs]; exact hkz.take m
  have h40 : m ≤ 40 := by omega
  have FW : Hid (∀ w, Calls Tryd.prog 10 #[.slice A len cap] w fun e w' => (∃ cap', e = .returned (.slice A m cap') ∧ m ≤ cap') ∧ w = w') := Lib.hid fun w => by rw [hm]; exact few_any A len cap hlc w
  have SH := Lib.hid (shown_any11 hT hB)
  have HT := Lib.hid hT
  have HKX := Lib.hid hkx
  have HXL := Lib.hid hxl
  have HWB := Lib.hid hB
  have KYS : Hid (∀ p g, Ky (mkC p g (kf xs m)) (-8) (keyOf xs)) := Lib.hid fun p g => by
    have := ky40 p g xs hkx.lt
    rwa [hxl] at this
  have FRS : Hid (∀ w1 cap', Below w.heap.size w w1 → m ≤ cap' → Calls Tryd.prog 11 #[.slice A m cap'] w1 fun e w' => ∃ p g, e = .returned (.pointer (some ⟨p, 0, none⟩)) ∧ Lx w w' p g (kf xs m) s0 (fun _ => false) .e ∧ Below w1.heap.size w1 w') := Lib.hid fun w1 cap' h1 h2 =>
    fresh_any (HT.out.below h1 HWB.out) (Nat.lt_of_lt_of_le HWB.out h1.size) h1 (HKX.out.below h1) HXL.out h2 h40
  clear hxs hys hkz hkx hxl hlc hT hB hm
  go_enter Tryd.func7, Tryd.ntmps7
  go_wp2_with (first
    | (go_at_call 9; (with_reducible refine SH.out.mono ?_); rintro e wa ⟨rfl, hba⟩; have BA := Lib.hid hba; clear hba)
    | (go_at_call 10; (with_reducible refine (FW.out _).mono ?_); rintro e wf ⟨⟨cap', rfl, hcap⟩, rfl⟩; have HCAP := Lib.hid hcap; clear hcap)
    | (go_at_call 11; (with_reducible refine (FRS.out _ _ BA.out HCAP.out).mono ?_); rintro e wb ⟨p, g, rfl, hL, hbb⟩; have L0 : Hid (Lw w wb p g (kf xs m) .e) := Lib.hid ⟨_, _, hL⟩; have KY := Lib.hid (KYS.out p g); clear hL hbb))
  go_loopg [5] m (fun gk v5 wr => ∃ i : Nat, i + gk = m ∧ v5 = .int .i64 (i : Nat) ∧ Hid (Lw w wr p g (kf xs m) (bld (keyOf xs) i)))
  case atStart => exact ⟨0, by omega, rfl, L0⟩
  case round =>
    obtain ⟨i, hi, rfl, hL⟩ := hrel
    cases gk with
    | succ gk =>
      have him : i < m := by omega
      have ix2 : ((i : Nat) : Int) < (m : Nat) := by omega
      have hw1 : IntKind.i64.wrap ((i : Int) + 1) = (i : Int) + 1 := IntWalk.i64_in _ (by omega)
      have LF : Hid (∀ w, Calls Tryd.prog 14 #[.int .i64 ((i : Int) + 1)] w fun e w' => e = .returned (.int .i64 (32 * ((i : Int) + 1))) ∧ w = w') := Lib.hid fun w => leaf_int _ _ (by omega) rfl w
      have hn40 : Hid (N40 (i + 1)) := Lib.hid ⟨by omega, by omega⟩
      have AD := Lib.hid (hL.out.add_ok KY.out (k := i + 1) (a := 32 * ((i : Int) + 1)) hn40.out (fun h => by have := (bld_mem _ _ _).1 h; omega) (by omega))
      clear him
      go_wp2_with (first
        | (go_at_call 14; (with_reducible refine (LF.out _).mono ?_); rintro e wl ⟨rfl, rfl⟩)
        | (go_at_call 16; (with_reducible refine (AD.out).mono ?_); rintro e wd ⟨rfl, hL, hf⟩; have L1 := Lib.hid hL; clear hL hf; skip))
      go_roundg gk
      case measure => omega
      case rel => exact ⟨i + 1, by omega, by go_num, L1⟩
    | zero =>
      obtain rfl : i = m := by omega
      have LM := hL
      clear hi hL
      obtain ⟨T0, hT0⟩ : ∃ T0, T0 = bld (keyOf xs) i := ⟨_, rfl⟩
      have hlen : T0.ns.length = i := by rw [hT0]; exact bld_len _ _
      rw [← hT0] at LM
      clear hT0
      obtain ⟨s, I, hX⟩ := LM.out
      have LX := Lib.hid hX
      have HL := Lib.hid hlen
      obtain ⟨N, hN⟩ : ∃ N, N = T0.ns := ⟨_, rfl⟩
      have AL : Hid (∀ w', Lx w w' p g (kf xs i) s I T0 → Calls Tryd.prog 21 #[.pointer (some ⟨p, 0, none⟩), .int .i64 8] w' fun e w'' => ∃ A cap, e = .returned (.tuple #[.slice A i cap, .int .i64 0]) ∧ Rx w'' w'.heap.size A cap (N.map (32 * ·)) ∧ Below w'.heap.size w' w'') := Lib.hid fun w' L => by
        have := L.all
        rwa [hlen, ← hN] at this
      have HN := Lib.hid hN
      clear hX hlen hN
      go_wp2_with (go_at_call 21; (with_reducible refine (AL.out _ LX.out).mono ?_); rintro e wx ⟨A2, cap2, rfl, hrx, hb1⟩; have GB : Hid (g < wr.heap.size) := Lib.hid LX.out.tx.td.gb; have SX : Hid (Sx wx ⟨0, g⟩ A2 (N.map (32 * ·))) := Lib.hid (hrx.sx (fun k hk => ⟨Nat.zero_le _, by have := GB.out; show k ≠ g; omega⟩)); have LX := Lib.hid (LX.out.below hb1); clear hb1 hrx)
      have LW : Hid (Lw w wx p g (kf xs i) T0) := Lib.hid ⟨_, _, LX.out⟩
      have ND : Hid (N.Nodup) := Lib.hid (by rw [HN.out]; exact LX.out.tx.al.nt)
      have NL : Hid (N.length = i) := Lib.hid (by rw [HN.out]; exact HL.out)
      go_loopg [8] i (fun gk v8 wr => ∃ (k : Nat) (T1 : T), k + gk = i ∧ v8 = .int .i64 (k : Nat) ∧ Hid (T1.ns = N.drop k) ∧ Hid (Lw w wr p g (kf xs i) T1) ∧ Hid (Sx wr ⟨0, g⟩ A2 (N.map (32 * ·))))
      case atStart => exact ⟨0, T0, by omega, rfl, Lib.hid (by rw [HN.out]; rfl), LW, SX⟩
      case round =>
        obtain ⟨k, T1, hk, rfl, hns, hL, hS⟩ := hrel
        obtain ⟨s1, I1, hX1⟩ := hL.out
        have LX := Lib.hid hX1
        cases gk with
        | zero =>
          obtain rfl : k = i := by omega
          have he : T1 = .e := empty_of (by rw [hns.out, List.length_drop, NL.out]; omega)
          subst he
          have FI := Lib.hid (hX1.first (a := 0) (by decide))
          clear hX1 hk
          go_wp2_with (go_at_call 19; (with_reducible refine FI.out.mono ?_); rintro e wy ⟨rfl, hb1⟩; have LX := Lib.hid (LX.out.below hb1); clear hb1)
          go_ret
          exact ⟨rfl, LX.out.bl⟩
        | succ gk =>
          have hki : k < i := by omega
          have ix2 : ((k : Nat) : Int) < (i : Nat) := by omega
          have ix1 : (0 : Int) ≤ (k : Nat) := by omega
          have hkl : k < N.length := by rw [NL.out]; exact hki
          obtain ⟨x, hx⟩ : ∃ x, N[k]? = some x := ⟨_, List.getElem?_eq_getElem hkl⟩
          have hd : T1.ns = x :: N.drop (k + 1) := by
            rw [hns.out, List.drop_eq_getElem_cons hkl]
            have := List.getElem?_eq_getElem hkl
            rw [hx] at this
            rw [← Option.some.inj this]
          have hf := fst_of hd
          obtain ⟨y, hy⟩ : ∃ y, y = 32 * x := ⟨_, rfl⟩
          have SY : Hid ((N.map (32 * ·))[k]? = some y) := Lib.hid (by rw [List.getElem?_map, hx, hy]; rfl)
          obtain ⟨bb, oo, rfl, _, _, hcell⟩ := hS.out k y SY.out
          have FI := Lib.hid (hX1.first (a := (y : Nat)) (by rw [hf, hy]))
          have DEL : Hid (∀ w', Lx w w' p g (kf xs i) s1 I1 T1 → Calls Tryd.prog 13 #[.pointer (some ⟨p, 0, none⟩), .int .i64 8, .int .i64 (y : Nat)] w' fun e w'' => e = .returned (.int .i64 0) ∧ (∃ T2, Lw w w'' p g (kf xs i) T2 ∧ T2.ns = N.drop (k + 1)) ∧ Fg g w' w'') := Lib.hid fun w' L => by
            have h1 := Lw.del_ok (L := ⟨s1, I1, L⟩) (k := x) (a := (y : Nat)) (by rw [hd]; simp) (by rw [hy])
            rw [hd, List.erase_cons_head] at h1
            exact h1
          have HC := Lib.hid hcell
          have HK := Lib.hid hk
          clear hX1 hki hkl hx hd hf hy hk hcell
          go_wp2_with (go_at_call 19; (with_reducible refine FI.out.mono ?_); rintro e wy ⟨rfl, hb1⟩; have LX := Lib.hid (LX.out.below hb1); have S1 := Lib.hid (hS.out.keep (Kx.below hb1)); have hc1 : wy.cell? ⟨bb, oo + k, none⟩ = some (.int .i64 (y : Nat)) := (by obtain ⟨b', o', e1, _, _, h3⟩ := S1.out k y SY.out; cases e1; exact h3); clear hb1)
          go_wp2_with (go_at_call 13; (with_reducible refine (DEL.out _ LX.out).mono ?_); rintro e wz ⟨rfl, ⟨T2, hL2, hn2⟩, hf2⟩; have L2 := Lib.hid hL2; have N2 := Lib.hid hn2; have S2 := Lib.hid (S1.out.keep hf2.kx); clear hL2 hn2 hf2)
          have hk := HK.out
          go_roundg gk
          case measure => omega
          case rel => exact ⟨k + 1, T2, by omega, by go_num, N2, L2, S2⟩
end Go.Proofs.YtiacclmapicmdaaDoor
