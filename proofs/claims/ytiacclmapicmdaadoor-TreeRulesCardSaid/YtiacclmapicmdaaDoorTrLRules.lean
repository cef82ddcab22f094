/- The walk of TreeRules: it returns true, and nothing that was there has turned. Condition: the table of widths lies in its block. -/
import Derived.Test.YtiacclmapicmdaaDoorTrDeeds
import Derived.Deep.LoopGhost
import Derived.Deep.CutRange
namespace Go.Proofs.YtiacclmapicmdaaDoor
open Go.RowKit

theorem asc_at {key : Nat → Nat} {L : List Nat} (h : Asc key L) {k x y : Nat} (hx : L[k]? = some x) (hy : L[k + 1]? = some y) : key x ≤ key y := by
  obtain ⟨h1, e1⟩ := List.getElem?_eq_some_iff.1 hx
  obtain ⟨h2, e2⟩ := List.getElem?_eq_some_iff.1 hy
  have := List.pairwise_iff_getElem.1 h k (k + 1) h1 h2 (by omega)
  rw [e1, e2] at this
  exact this
theorem asc_erase {key : Nat → Nat} {L : List Nat} (h : Asc key L) (x : Nat) : Asc key (L.erase x) := List.Pairwise.sublist List.erase_sublist h
theorem Lw.load {w0 w : World} {p g : Nat} {f0 : Nat → Int} {T0 : T} {key : Nat → Nat} (L : Lw w0 w p g f0 T0) (hk : Ky (mkC p g f0) (-8) key) {k : Nat} {a : Int} (hN : N40 k) (ha : a = ((32 * k : Nat) : Int) - 8) :
    Calls Tryd.prog 26 #[.pointer (some ⟨p, 0, none⟩), .int .i64 a, .int .i64 8] w fun e w' => e = .returned (.tuple #[.int .u64 (key k : Nat), .int .i64 0]) ∧ w = w' := by
  obtain ⟨s, I, L⟩ := L
  obtain ⟨b, hb, h2, h3⟩ := hk.at_ k hN
  have e : a = (b : Nat) := by
    rw [ha, ← hb]
    show ((32 * k : Nat) : Int) - 8 = ((32 * k : Nat) : Int) + -8
    omega
  rw [e]
  exact L.tx.td.load h2 h3
set_option maxRecDepth 100000 in
set_option maxHeartbeats 8000000 in
theorem rules_walk11 (A : Option Addr) (len cap : Nat) (E : Option Addr) (elen ecap : Nat) (w : World) (hD : Keys w A len cap ∧ len ≤ 9223372036854775807) (hE : Deeds11 w E elen ∧ elen ≤ 9223372036854775807) (hT : Tab w) (hB : 0 < w.heap.size) :
    Calls Tryd.prog 4 #[.slice A len cap, .slice E elen ecap] w fun e w' => e = .returned (.bool true) ∧ Below w.heap.size w w' := by
  obtain ⟨⟨⟨ys, hys, hkz⟩, hlc⟩, _⟩ := hD
  obtain ⟨m, hm⟩ : ∃ m, m = min len 40 := ⟨_, rfl⟩
  obtain ⟨xs, hxs⟩ : ∃ xs, xs = ys.take m := ⟨_, rfl⟩
  have hxl : xs.length = m := by rw [hxs, List.length_take, hys]; omega
  have hkx : Kz w A xs := by rw [hxs]; exact hkz.take m
  have h40 : m ≤ 40 := by omega
  have FW : Hid (∀ w, Calls Tryd.prog 10 #[.slice A len cap] w fun e w' => (∃ cap', e = .returned (.slice A m cap') ∧ m ≤ cap') ∧ w = w') := Lib.hid fun w => by rw [hm]; exact few_any A len cap hlc w
  have SH := Lib.hid (shown_any11 hT hB)
  have HT := Lib.hid hT
  have HKX := Lib.hid hkx
  have HXL := Lib.hid hxl
  have HWB := Lib.hid hB
  have KYS : Hid (∀ p g, Ky (mkC p g (kf xs m)) (-8) (keyOf xs)) := Lib.hid fun p g => by
    have := ky40 p g xs hkx.lt
    rwa [hxl] at this
  have FRS : Hid (∀ w1 cap', Below w.heap.size w w1 → m ≤ cap' → Calls Tryd.prog 11 #[.slice A m cap'] w1 fun e w' => ∃ p g, e = .returned (.pointer (some ⟨p, 0, none⟩)) ∧ Lx w w' p g (kf xs m) s0 (fun _ => false) .e ∧ Below w1.heap.size w1 w') := Lib.hid fun w1 cap' h1 h2 =>
    fresh_any (HT.out.below h1 HWB.out) (Nat.lt_of_lt_of_le HWB.out h1.size) h1 (HKX.out.below h1) HXL.out h2 h40
  clear hxs hys hkz hkx hxl hlc hT hB hm
  obtain ⟨hE, helen⟩ := hE
  have HE := Lib.hid hE
  clear hE
  by_cases hm0 : m = 0
  · subst hm0
    go_enter Tryd.func4, Tryd.ntmps4
    go_wp2_with (first
      | (go_at_call 9; (with_reducible refine SH.out.mono ?_); rintro e wa ⟨rfl, hba⟩; have BA := Lib.hid hba; clear hba)
      | (go_at_call 10; (with_reducible refine (FW.out _).mono ?_); rintro e wf ⟨⟨cap', rfl, hcap⟩, rfl⟩; have HCAP := Lib.hid hcap; clear hcap)
      | (go_at_call 11; (with_reducible refine (FRS.out _ _ BA.out HCAP.out).mono ?_); rintro e wb ⟨p, g, rfl, hL, hbb⟩; have L0 : Hid (Lw w wb p g (kf xs m) .e) := Lib.hid ⟨_, _, hL⟩; have KY := Lib.hid (KYS.out p g); clear hL hbb))
    go_ret
    exact ⟨rfl, BA.out⟩
  · go_enter Tryd.func4, Tryd.ntmps4
    go_wp2_with (first
      | (go_at_call 9; (with_reducible refine SH.out.mono ?_); rintro e wa ⟨rfl, hba⟩; have BA := Lib.hid hba; clear hba)
      | (go_at_call 10; (with_reducible refine (FW.out _).mono ?_); rintro e wf ⟨⟨cap', rfl, hcap⟩, rfl⟩; have HCAP := Lib.hid hcap; clear hcap)
      | (go_at_call 11; (with_reducible refine (FRS.out _ _ BA.out HCAP.out).mono ?_); rintro e wb ⟨p, g, rfl, hL, hbb⟩; have L0 : Hid (Lw w wb p g (kf xs m) .e) := Lib.hid ⟨_, _, hL⟩; have KY := Lib.hid (KYS.out p g); clear hL hbb))
    have hm1 : 1 ≤ m := by omega
    go_loopg [7, 8] (elen + 1) (fun gk v7 v8 wr => ∃ (i : Nat) (T1 : T), i + gk = elen + 1 ∧ v8 = .int .i64 (i : Nat) ∧ v7 = .int .i64 (T1.ns.length : Nat) ∧ i ≤ 80 ∧ T1.ns.length ≤ 40 ∧ Hid (Asc (keyOf xs) T1.ns) ∧ Hid (Lw w wr p g (kf xs m) T1))
    case atStart => exact ⟨0, .e, by omega, rfl, rfl, by omega, by decide, Lib.hid List.Pairwise.nil, L0⟩
    case round =>
      obtain ⟨i, T1, hi, rfl, rfl, hi80, hl40, hA, hL⟩ := hrel
      have HI := Lib.hid hi
      by_cases hil : i < elen
      · by_cases hi8 : i < 80
        · have hiI : (i : Int) < (elen : Nat) := by omega
          have hi8I : (i : Int) < 80 := by omega
          have ix0 : (0 : Int) ≤ (i : Nat) := by omega
          obtain ⟨b, o, aw, n8, rfl, hblt, hc1, hc2, hn8⟩ := (HE.out.below hL.out.bl) i hil
          obtain ⟨kk, hkk⟩ : ∃ kk, kk = 1 + n8 % m := ⟨_, rfl⟩
          have hmod : n8 % m < m := Nat.mod_lt _ (by omega)
          have KN : Hid (N40 kk) := Lib.hid ⟨by omega, by omega⟩
          have hkI : Hid (32 * (1 + (n8 : Int) % (m : Int)) = ((32 * kk : Nat) : Int)) := Lib.hid (by rw [hkk]; omega)
          have hmz : ¬ m = 0 := hm0
          have hwk : IntKind.i64.wrap (1 + (n8 : Int) % (m : Int)) = 1 + (n8 : Int) % (m : Int) := IntWalk.i64_in _ (by omega)
          have hmI : ((n8 : Int) % (m : Int)) < m ∧ 0 ≤ ((n8 : Int) % (m : Int)) := ⟨Int.emod_lt_of_pos _ (by omega), Int.emod_nonneg _ (by omega)⟩
          obtain ⟨hmI1, hmI2⟩ := hmI
          have LF : Hid (∀ w, Calls Tryd.prog 14 #[.int .i64 (1 + (n8 : Int) % (m : Int))] w fun e w' => e = .returned (.int .i64 (32 * kk : Nat)) ∧ w = w') := Lib.hid fun w => leaf_int _ _ (by omega) hkI.out.symm w
          have HC1 := Lib.hid hc1
          clear hblt hkk hmod hi hil hi8 hkI
          go_upto_if 55 with (go_at_call 14; (with_reducible refine (LF.out _).mono ?_); rintro e wl ⟨rfl, rfl⟩)
          go_cut [7] from 56 to 67 (fun v7 wx => ∃ T2 : T, v7 = .int .i64 (T2.ns.length : Nat) ∧ T2.ns.length ≤ 40 ∧ Hid (Asc (keyOf xs) T2.ns) ∧ Hid (Lw w wx p g (kf xs m) T2))
          case first =>
            by_cases hin : kk ∈ T1.ns
            · cases aw with
              | true =>
                have DEL := Lib.hid (hL.out.del_ok (a := 32 * (kk : Int)) hin (by omega))
                have hlen : Hid ((T1.ns.erase kk).length = T1.ns.length - 1 ∧ 1 ≤ T1.ns.length) := Lib.hid ⟨List.length_erase_of_mem hin, List.length_pos_of_mem hin⟩
                have hlw : IntKind.i64.wrap ((T1.ns.length : Int) - 1) = (T1.ns.length : Int) - 1 := IntWalk.i64_in _ (by omega)
                clear hin
                go_wp2_with (go_at_call 13; (with_reducible refine DEL.out.mono ?_); rintro e wd ⟨rfl, ⟨T2, hL2, hn2⟩, hf2⟩; have L2 := Lib.hid hL2; have N2 := Lib.hid hn2; clear hL2 hn2 hf2)
                go_meet
                have h9 := hlen.out
                refine ⟨T2, ?_, ?_, Lib.hid (by rw [N2.out]; exact asc_erase hA.out kk), L2⟩
                · rw [N2.out, h9.1]
                  congr 1
                  omega
                · rw [N2.out, h9.1]; omega
              | false =>
                have AD := Lib.hid (hL.out.add_in (KY.out) (k := kk) (a := 32 * (kk : Int)) KN.out hin (by omega))
                clear hin
                go_wp2_with (go_at_call 16; (with_reducible refine AD.out.mono ?_); rintro e wd ⟨rfl, hb⟩; have L2 := Lib.hid (hL.out.below hb); clear hb)
                go_meet
                exact ⟨T1, rfl, hl40, hA, L2⟩
            · cases aw with
              | true =>
                have DEL := Lib.hid (hL.out.del_no (a := 32 * (kk : Int)) KN.out hin (by omega))
                clear hin
                go_wp2_with (go_at_call 13; (with_reducible refine DEL.out.mono ?_); rintro e wd ⟨rfl, hb⟩; have L2 := Lib.hid (hL.out.below hb); clear hb)
                go_meet
                exact ⟨T1, rfl, hl40, hA, L2⟩
              | false =>
                have AD := Lib.hid (hL.out.add_ok (KY.out) (k := kk) (a := 32 * (kk : Int)) KN.out hin (by omega))
                have hlw : IntKind.i64.wrap ((T1.ns.length : Int) + 1) = (T1.ns.length : Int) + 1 := IntWalk.i64_in _ (by omega)
                clear hin
                go_wp2_with (go_at_call 16; (with_reducible refine AD.out.mono ?_); rintro e wd ⟨rfl, hL2, hf2⟩; have L2 := Lib.hid hL2; clear hL2 hf2)
                go_meet
                refine ⟨addT (keyOf xs) kk T1, ?_, L2.out.len.1, Lib.hid (addT_asc hA.out), L2⟩
                rw [addT_len]
                congr 1
          case rest =>
          obtain ⟨T2, rfl, hl2, hA2, hL2⟩ := hcut
          obtain ⟨s, I, hX⟩ := hL2.out
          have LX := Lib.hid hX
          have hrb := hX.tx.rb
          have hdeep : deep T2 ≤ 14 := by
            have := deep_rb hrb (b := 6) (by have : 2 ^ (6 + 1) = 128 := rfl; omega)
            omega
          obtain ⟨⟨nb, hbal⟩, hblack⟩ := hrb
          have hat : At s T2 T2.root 0 := by have := hX.tx.al.at_; rwa [this.root] at this
          have GB : Hid (g < wc.heap.size) := Lib.hid hX.tx.td.gb
          cases hT2 : T2.isE with
          | true =>
            obtain rfl := isE_eq hT2
            have AL : Hid (∀ w', Lx w w' p g (kf xs m) s I .e → Calls Tryd.prog 21 #[.pointer (some ⟨p, 0, none⟩), .int .i64 8] w' fun e w'' => (∃ A cap, e = .returned (.tuple #[.slice A 0 cap, .int .i64 0])) ∧ Below w'.heap.size w' w'') := Lib.hid fun w' L => L.all.mono fun e w'' ⟨A, cap, h1, _, h3⟩ => ⟨⟨A, cap, h1⟩, h3⟩
            have RT : Hid (∀ w', Lx w w' p g (kf xs m) s I .e → Calls Tryd.prog 23 #[.pointer (some ⟨p, 0, none⟩), .int .i64 8] w' fun e w'' => e = .returned (.tuple #[.int .i64 0, .int .i64 0]) ∧ Below w'.heap.size w' w'') := Lib.hid fun w' L => L.root (a := 0) (by decide)
            have BK : Hid (∀ w', Lx w w' p g (kf xs m) s I .e → Calls Tryd.prog 24 #[.pointer (some ⟨p, 0, none⟩), .int .i64 0, .int .i64 14] w' fun e w'' => e = .returned (.int .i64 0) ∧ Below w'.heap.size w' w'') := Lib.hid fun w' L => blacks_ok (d := 14) .e (x := 0) (q := 0) (n := 0) rfl (fun j hj => by cases hj) rfl (by decide) (by decide) L
            clear hbal hblack hat hX hT2 hdeep hl2
            simp only [T.ns, List.length_nil]
            go_wp2_with (first
              | (go_at_call 21; (with_reducible refine (AL.out _ LX.out).mono ?_); rintro e wx ⟨⟨A5, cap5, rfl⟩, hb⟩; have LX := Lib.hid (LX.out.below hb); clear hb)
              | (go_at_call 23; (with_reducible refine (RT.out _ LX.out).mono ?_); rintro e wx ⟨rfl, hb⟩; have LX := Lib.hid (LX.out.below hb); clear hb)
              | (go_at_call 24; (with_reducible refine (BK.out _ LX.out).mono ?_); rintro e wx ⟨rfl, hb⟩; have LX := Lib.hid (LX.out.below hb); clear hb))
            go_loopg [16] 1 (fun gk v16 wr => gk = 1 ∧ v16 = .int .i64 1 ∧ Hid (Lx w wr p g (kf xs m) s I .e))
            case atStart => exact ⟨rfl, rfl, LX⟩
            case round =>
              obtain ⟨_, rfl, hX2⟩ := hrel
              go_wp2_with fail
              have hi := HI.out
              go_roundg (elen - i)
              case measure => omega
              case rel => exact ⟨i + 1, .e, by omega, by go_num, rfl, by omega, by decide, hA2, Lib.hid ⟨s, I, hX2.out⟩⟩
          | false =>
            obtain ⟨cN, hcN⟩ : ∃ cN, cN = T2.ns.length := ⟨_, rfl⟩
            have hc1 : 1 ≤ cN := by
              rw [hcN]
              cases T2 with
              | e => cases hT2
              | n => rw [ns_len]; omega
            rw [← hcN] at hl2
            obtain ⟨N, hN⟩ : ∃ N, N = T2.ns := ⟨_, rfl⟩
            have HN := Lib.hid hN
            have NL : Hid (N.length = cN) := Lib.hid (by rw [hN, hcN])
            have hroot : N40 T2.root := by
              rcases root_mem T2 with h | h
              · exact hX.tx.nN _ h
              · rw [isE_root hat] at hT2; simp [h] at hT2
            obtain ⟨rt, hrt⟩ : ∃ rt, rt = T2.root := ⟨_, rfl⟩
            rw [← hrt] at hroot hat
            have AL : Hid (∀ w', Lx w w' p g (kf xs m) s I T2 → Calls Tryd.prog 21 #[.pointer (some ⟨p, 0, none⟩), .int .i64 8] w' fun e w'' => ∃ A cap, e = .returned (.tuple #[.slice A cN cap, .int .i64 0]) ∧ Rx w'' w'.heap.size A cap (N.map (32 * ·)) ∧ Below w'.heap.size w' w'') := Lib.hid fun w' L => by
              have := L.all
              rwa [← hcN, ← hN] at this
            have RT : Hid (∀ w', Lx w w' p g (kf xs m) s I T2 → Calls Tryd.prog 23 #[.pointer (some ⟨p, 0, none⟩), .int .i64 8] w' fun e w'' => e = .returned (.tuple #[.int .i64 (32 * (rt : Nat)), .int .i64 0]) ∧ Below w'.heap.size w' w'') := Lib.hid fun w' L => L.root (a := 32 * (rt : Nat)) (by rw [hrt]; omega)
            have BK : Hid (∀ w', Lx w w' p g (kf xs m) s I T2 → Calls Tryd.prog 24 #[.pointer (some ⟨p, 0, none⟩), .int .i64 (32 * (rt : Nat)), .int .i64 14] w' fun e w'' => e = .returned (.int .i64 (nb : Nat)) ∧ Below w'.heap.size w' w'') := Lib.hid fun w' L => blacks_ok (d := 14) T2 hat hX.tx.nN hbal hdeep (by decide) L
            have hrc : s.red rt = false := by rw [hat.col hX.tx.td.zn]; exact hblack
            have RD : Hid (∀ w', Lx w w' p g (kf xs m) s I T2 → Calls Tryd.prog 25 #[.pointer (some ⟨p, 0, none⟩), .int .i64 (32 * (rt : Nat))] w' fun e w'' => e = .returned (.tuple #[.bool false, .int .i64 0]) ∧ Below w'.heap.size w' w'') := Lib.hid fun w' L => L.red hroot hrc (by omega)
            have rt1 : ¬ rt = 0 := by have := hroot.1; omega
            have rtq : (((rt : Nat) : Int) == 0) = false := beq_eq_false_iff_ne.2 (by omega)
            have rtr : ((32 * ((rt : Nat) : Int)) == 0) = false := beq_eq_false_iff_ne.2 (by omega)
            have cq : (((cN : Nat) : Int) == 0) = false := beq_eq_false_iff_ne.2 (by omega)
            have cq1 : ¬ cN = 0 := by omega
            have nbq : ¬ ((nb : Nat) : Int) < 0 := by omega
            have HCN := Lib.hid hcN
            rw [← hcN]
            clear hbal hblack hat hX hT2 hdeep hcN hN hroot hrt hrc
            go_upto_region 25 with (first
              | (go_at_call 21; (with_reducible refine (AL.out _ LX.out).mono ?_); rintro e wx ⟨A5, cap5, rfl, hrx, hb⟩; have SX : Hid (Sx wx ⟨0, g⟩ A5 (N.map (32 * ·))) := Lib.hid (hrx.sx (fun k hk => ⟨Nat.zero_le _, by have := GB.out; show k ≠ g; omega⟩)); have LX := Lib.hid (LX.out.below hb); clear hb hrx)
              | (go_at_call 23; (with_reducible refine (RT.out _ LX.out).mono ?_); rintro e wx ⟨rfl, hb⟩; have LX := Lib.hid (LX.out.below hb); have SX := Lib.hid (SX.out.keep (Kx.below hb)); clear hb)
              | (go_at_call 24; (with_reducible refine (BK.out _ LX.out).mono ?_); rintro e wx ⟨rfl, hb⟩; have LX := Lib.hid (LX.out.below hb); have SX := Lib.hid (SX.out.keep (Kx.below hb)); clear hb)
              | (go_at_call 25; (with_reducible refine (RD.out _ LX.out).mono ?_); rintro e wx ⟨rfl, hb⟩; have LX := Lib.hid (LX.out.below hb); have SX := Lib.hid (SX.out.keep (Kx.below hb)); clear hb))
            go_loopg [16] (cN - 1) (fun gk v16 wr => ∃ k : Nat, 1 ≤ k ∧ k + gk = cN ∧ v16 = .int .i64 (k : Nat) ∧ Hid (Lx w wr p g (kf xs m) s I T2) ∧ Hid (Sx wr ⟨0, g⟩ A5 (N.map (32 * ·))))
            case atStart => exact ⟨1, by omega, by omega, rfl, LX, SX⟩
            case round =>
              obtain ⟨k, hk1, hkg, rfl, hX2, hS2⟩ := hrel
              cases gk with
              | zero =>
                obtain rfl : k = cN := by omega
                go_wp2_with fail
                have hi := HI.out
                go_roundg (elen - i)
                case measure => omega
                case rel => exact ⟨i + 1, T2, by omega, by go_num, by rw [← HCN.out], by omega, by rw [← HCN.out]; omega, hA2, Lib.hid ⟨s, I, hX2.out⟩⟩
              | succ gk =>
                have hkc : k < cN := by omega
                have kI2 : ((k : Nat) : Int) < (cN : Nat) := by omega
                have kI1 : (0 : Int) ≤ (k : Nat) - 1 := by omega
                have kI0 : (0 : Int) ≤ (k : Nat) := by omega
                have kI3 : ((k : Nat) : Int) - 1 < (cN : Nat) := by omega
                have hkt : ((k : Int) - 1).toNat = k - 1 := by omega
                obtain ⟨k1, rfl⟩ : ∃ k1, k = k1 + 1 := ⟨k - 1, by omega⟩
                obtain ⟨x, hx⟩ : ∃ x, N[k1]? = some x := ⟨_, List.getElem?_eq_getElem (by rw [NL.out]; omega)⟩
                obtain ⟨y, hy⟩ : ∃ y, N[k1 + 1]? = some y := ⟨_, List.getElem?_eq_getElem (by rw [NL.out]; omega)⟩
                have hxN : N40 x := hX2.out.tx.nN x (by rw [← HN.out]; exact List.mem_of_getElem? hx)
                have hyN : N40 y := hX2.out.tx.nN y (by rw [← HN.out]; exact List.mem_of_getElem? hy)
                have hle := asc_at (by have := hA2.out; rwa [← HN.out] at this) hx hy
                obtain ⟨bb, oo, rfl, _, _, hc3⟩ := hS2.out k1 (32 * x) (by rw [List.getElem?_map, hx]; rfl)
                obtain ⟨_, _, e9, _, _, hc4⟩ := hS2.out (k1 + 1) (32 * y) (by rw [List.getElem?_map, hy]; rfl)
                cases e9
                obtain ⟨kx, hkx⟩ : ∃ kx, kx = keyOf xs x := ⟨_, rfl⟩
                obtain ⟨ky, hky⟩ : ∃ ky, ky = keyOf xs y := ⟨_, rfl⟩
                obtain ⟨px, hpx⟩ : ∃ px, px = 32 * x := ⟨_, rfl⟩
                obtain ⟨py, hpy⟩ : ∃ py, py = 32 * y := ⟨_, rfl⟩
                have LDX : Hid (Calls Tryd.prog 26 #[.pointer (some ⟨p, 0, none⟩), .int .i64 ((px : Int) - 8), .int .i64 8] wr fun e w' => e = .returned (.tuple #[.int .u64 (kx : Nat), .int .i64 0]) ∧ wr = w') := Lib.hid (by
                  rw [hkx]; exact Lw.load ⟨s, I, hX2.out⟩ KY.out hxN (by rw [hpx]))
                have LDY : Hid (Calls Tryd.prog 26 #[.pointer (some ⟨p, 0, none⟩), .int .i64 ((py : Int) - 8), .int .i64 8] wr fun e w' => e = .returned (.tuple #[.int .u64 (ky : Nat), .int .i64 0]) ∧ wr = w') := Lib.hid (by
                  rw [hky]; exact Lw.load ⟨s, I, hX2.out⟩ KY.out hyN (by rw [hpy]))
                have hpxb : 32 ≤ px ∧ px ≤ 1280 := by have := hxN.1; have := hxN.2; omega
                have hpyb : 32 ≤ py ∧ py ≤ 1280 := by have := hyN.1; have := hyN.2; omega
                have hwx : IntKind.i64.wrap ((px : Int) - 8) = (px : Int) - 8 := IntWalk.i64_in _ (by omega)
                have hwy : IntKind.i64.wrap ((py : Int) - 8) = (py : Int) - 8 := IntWalk.i64_in _ (by omega)
                rw [← hkx, ← hky] at hle
                rw [← hpx] at hc3
                rw [← hpy] at hc4
                have hkk2 : ¬ ky < kx := by omega
                clear hx hy hxN hyN hle hkx hky hpx hpy hpxb hpyb hkc
                go_wp2_with (first
                  | (go_at_call 26; (with_reducible refine LDX.out.mono ?_); rintro e wx ⟨rfl, rfl⟩)
                  | (go_at_call 26; (with_reducible refine LDY.out.mono ?_); rintro e wx ⟨rfl, rfl⟩))
                go_roundg gk
                case measure => omega
                case rel => exact ⟨k1 + 1 + 1, by omega, by omega, by go_num, hX2, hS2⟩
        · have hiI : (i : Int) < (elen : Nat) := by omega
          have hi8N : ¬ i < 80 := hi8
          clear hi HI
          go_wp2_with fail
          go_ret
          exact ⟨rfl, hL.out.bl⟩
      · have hilN : ¬ i < elen := hil
        clear hi HI
        go_wp2_with fail
        go_ret
        exact ⟨rfl, hL.out.bl⟩
end Go.Proofs.YtiacclmapicmdaaDoor
