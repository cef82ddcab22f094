/- The walk of ChainBothWays: it returns true, and nothing that was there has turned. Condition: the table of widths lies in its block. -/
import Derived.Test.YthklbkgehfgdgaaDoorChBothM
import Derived.Deep.LoopGhost
namespace Go.Proofs.YthklbkgehfgdgaaDoor
open Go.RowKit

set_option maxRecDepth 100000 in
set_option maxHeartbeats 8000000 in
theorem both_walk (A : Option Addr) (len cap : Nat) (w : World) (hD : Deeds10 w A len ∧ len ≤ 9223372036854775807) (hT : Tab w) (hB : 0 < w.heap.size) :
    Calls Tryd.prog 6 #[.slice A len cap] w fun e w' => e = .returned (.bool true) ∧ Below w.heap.size w w' := by
  obtain ⟨hD, hlen⟩ := hD
  have HD := Lib.hid hD
  clear hD
  have SH := Lib.hid (shown_any10 hT hB)
  have HT := Lib.hid hT
  clear hT
  go_enter Tryd.func6, Tryd.ntmps6
  go_wp2_with fail
  refine SH.out.mono ?_
  rintro e wa ⟨rfl, hb⟩
  have NW := Lib.hid (cs_new (HT.out.below hb hB) (Nat.lt_of_lt_of_le hB hb.size) hb)
  clear hb
  go_wp2_with fail
  refine NW.out.mono ?_
  rintro e wc ⟨p, g, rfl, hc, hb⟩
  have CC := Lib.hid hc
  clear hc hb
  go_wp2_with fail
  go_loopw [5] (fun v wr => ∃ (k : Nat) (L : Nat → List Nat) (f : Nat → Int), k ≤ len ∧ k ≤ 80 ∧ v = .int .i64 k ∧ Hid (Cs w wr p g L f)) (fun v _ => 80 - (intOf v).toNat)
  case atStart => exact ⟨0, _, _, Nat.zero_le _, Nat.zero_le _, rfl, CC⟩
  case round =>
    clear CC
    obtain ⟨k, L, f, hk, hk2, rfl, CC⟩ := hrel
    by_cases hc1 : k < len ∧ k < 80
    · obtain ⟨g1, g2⟩ := hc1
      have e1 : decide ((k : Int) < len) = true := decide_eq_true (by omega)
      have e2 : decide ((k : Int) < 80) = true := decide_eq_true (by omega)
      obtain ⟨b, o, kd, h', x', rfl, hblt, q0, q1, q2, hh', hx'⟩ := HD.out k g1
      have DK : Hid (∀ w', Below w.heap.size w w' → D3 w' b o k kd h' x') := Lib.hid fun w' hl => d3_keep ⟨q0, q1, q2⟩ hblt hl
      clear q0 q1 q2
      obtain ⟨q0, q1, q2⟩ := DK.out _ CC.out.bl
      have hkd : kd = 0 ∨ kd = 1 ∨ kd = 2 ∨ kd = 3 ∨ (¬ kd = 0 ∧ ¬ kd = 1 ∧ ¬ kd = 2 ∧ ¬ kd = 3) := by omega
      rcases hkd with rfl | rfl | rfl | rfl | ⟨k0, k1, k2, k3⟩
      all_goals
        go_wp2_with (first
          | (go_at_call 12; (with_reducible refine (head_any h' (by omega) _).mono ?_); rintro e wd ⟨rfl, rfl⟩)
          | (go_at_call 13; (with_reducible refine (node_any x' (by omega) _).mono ?_); rintro e wd ⟨rfl, rfl⟩)
          | (go_at_call 14; (with_reducible refine (cs_push CC.out _ (hdN_in h') (ndN_in x')).mono ?_); rintro e wd ⟨rfl, f', hc, hf⟩; have CE := Lib.hid hc; clear hc hf)
          | (go_at_call 16; (with_reducible refine (cs_pop CC.out _ (hdN_in h')).mono ?_); rintro e wd ⟨rfl, f', hc, hf⟩; have CE := Lib.hid hc; clear hc hf)
          | (go_at_call 18; (with_reducible refine (cs_remove CC.out (hdN_in h') (ndN_in x')).mono ?_); rintro e wd ⟨rfl, f', hc, hf⟩; have CE := Lib.hid hc; clear hc hf))
        go_roundw
        case rel => exact ⟨k + 1, _, f', by omega, by omega, by go_num, CE⟩
        case measure => simp [intOf]; omega
    · have hcases : ¬ k < len ∨ (k < len ∧ ¬ k < 80) := by
        rcases Nat.lt_or_ge k len with h | h
        · exact .inr ⟨h, by omega⟩
        · exact .inl (by omega)
      clear hc1
      rcases hcases with e1 | ⟨e1, e2⟩
      all_goals
        go_wp2_with fail
        go_loopw [8, 9] (fun v8 v9 wr2 => ∃ h : Nat, h ≤ 3 ∧ v9 = .int .i64 h ∧ v8 = .int .i64 (cl L h : Nat) ∧ Hid (Cs w wr2 p g L f)) (fun _ v _ => 3 - (intOf v).toNat)
        case atStart => exact ⟨0, Nat.zero_le _, rfl, rfl, CC⟩
        case round =>
          clear CC
          obtain ⟨h, hh, rfl, rfl, CC⟩ := hrel
          have hcl := cl_le CC.out.ch hh
          by_cases hlt : h < 3
          · have hw8 : IntKind.u8.wrap (h : Int) = h := by rw [IntKind.wrap_u8]; omega
            obtain ⟨hv, hve⟩ : ∃ v, v = hdN h := ⟨_, rfl⟩
            have hvin : Hid (hv ∈ H3) := Lib.hid (hve ▸ hdN_in h)
            have HDh : Hid (∀ w, Calls Tryd.prog 12 #[.int .u8 (h : Int)] w fun e w' => e = .returned (.int .i64 (hv : Nat)) ∧ w = w') := Lib.hid fun w => by rw [hve]; exact head_any h (by omega) w
            obtain ⟨l, hle⟩ : ∃ l, l = L hv := ⟨_, rfl⟩
            obtain ⟨n1, hn1⟩ : ∃ n, n = l.length := ⟨_, rfl⟩
            have hn14 : n1 ≤ 14 := by rw [hn1, hle]; exact CC.out.ch.len hvin.out
            have HCL : Hid (cl L (h + 1) = cl L h + n1) := Lib.hid (by rw [hn1, hle, hve]; rfl)
            have A1 : Hid (∀ w', Cs w w' p g L f → Calls Tryd.prog 25 #[.pointer (some ⟨p, 0, none⟩), .int .i64 hv] w' fun e w'' => ∃ A cap, e = .returned (.tuple #[.slice A n1 cap, .int .i64 0]) ∧ Sx w'' ⟨w.heap.size, g⟩ A l ∧ Below w'.heap.size w' w'') := Lib.hid fun w' c' => by
              have := cs_all c' hvin.out
              rw [← hle, ← hn1] at this
              exact this
            have E1 : Hid (∀ w', Cs w w' p g L f → Calls Tryd.prog 21 #[.pointer (some ⟨p, 0, none⟩), .int .i64 hv, .bool false] w' fun e w'' => e = .returned (.tuple #[.int .i64 (bkv l n1 : Nat), .int .i64 0]) ∧ Below w'.heap.size w' w'') := Lib.hid fun w' c' => by
              have := cs_end c' false hvin.out
              rw [en_bkv, ← hle, ← hn1] at this
              exact this
            have BK : Hid (∀ j, j < n1 → ∃ x, l[j]? = some x ∧ N14 x ∧ ow L x = hv ∧ nx L x false = bkv l j ∧ bkv l (j + 1) = x) := Lib.hid fun j hj => by
              have := bk_at CC.out.ch hvin.out (j := j) (by rw [← hle, ← hn1]; exact hj)
              rw [← hle] at this
              exact this
            have HVE := Lib.hid hve
            clear hle hn1 hve
            go_wp2_with (first
              | (go_at_call 12; (with_reducible refine (HDh.out _).mono ?_); rintro e wd ⟨rfl, rfl⟩)
              | (go_at_call 25; (with_reducible refine (A1.out _ CC.out).mono ?_); rintro e wd ⟨A', cap', rfl, hs, hbc⟩; have CC := Lib.hid (CC.out.below hbc); have SL := Lib.hid hs; clear hs hbc)
              | (go_at_call 21; (with_reducible refine (E1.out _ CC.out).mono ?_); rintro e wd ⟨rfl, hbc⟩; have CC := Lib.hid (CC.out.below hbc); have SL := Lib.hid (SL.out.keep (Kx.below hbc)); clear hbc))
            go_loopg [12, 14] n1 (fun gk v12 v14 wr3 => gk ≤ n1 ∧ v14 = .int .i64 ((gk : Int) - 1) ∧ v12 = .int .i64 (bkv l gk : Nat) ∧ Hid (Cs w wr3 p g L f) ∧ Hid (Sx wr3 ⟨w.heap.size, g⟩ A' l))
            case atStart => exact ⟨Nat.le_refl _, rfl, rfl, CC, SL⟩
            case round =>
              clear CC SL
              obtain ⟨hgk, rfl, rfl, CC, SL⟩ := hrel
              cases gk with
              | zero =>
                rw [show (((0 : Nat) : Int) - 1) = -1 from rfl, bkv_zero]
                go_wp2_with fail
                go_roundw
                case rel => exact ⟨h + 1, by omega, by go_num, by rw [HCL.out]; go_num, CC⟩
                case measure => simp [intOf]; omega
              | succ gk =>
                obtain ⟨x, hx1, hx2, hx3, hx4, hx5⟩ := BK.out gk (by omega)
                rw [show (((gk + 1 : Nat) : Int) - 1) = (gk : Int) by omega, hx5]
                have OWx : Hid (∀ w', Cs w w' p g L f → Calls Tryd.prog 22 #[.pointer (some ⟨p, 0, none⟩), .int .i64 x] w' fun e w'' => e = .returned (.tuple #[.int .i64 (hv : Nat), .int .i64 0]) ∧ Below w'.heap.size w' w'') := Lib.hid fun w' c' => by
                  have := cs_owner c' hx2
                  rw [hx3] at this
                  exact this
                have NXx : Hid (∀ w', Cs w w' p g L f → Calls Tryd.prog 23 #[.pointer (some ⟨p, 0, none⟩), .int .i64 x, .bool false] w' fun e w'' => e = .returned (.tuple #[.int .i64 (bkv l gk : Nat), .int .i64 0]) ∧ Below w'.heap.size w' w'') := Lib.hid fun w' c' => by
                  have := cs_next c' false hx2
                  rw [hx4] at this
                  exact this
                obtain ⟨bb, oo, rfl, _, hlt3, c1⟩ := SL.out gk x hx1
                have hgi : (gk : Int) < (n1 : Int) := by omega
                have HL3 := Lib.hid hlt3
                clear hx1 hx2 hx3 hx4 hx5 hlt3
                go_wp2_with (first
                  | (go_at_call 12; (with_reducible refine (HDh.out _).mono ?_); rintro e wd ⟨rfl, rfl⟩)
                  | (go_at_call 22; (with_reducible refine (OWx.out _ CC.out).mono ?_); rintro e wd ⟨rfl, hbc⟩; have CC := Lib.hid (CC.out.below hbc); have SL := Lib.hid (SL.out.keep (Kx.below hbc)); have c2 := (hbc.cell (p := ⟨bb, oo + gk, none⟩) HL3.out).trans c1; clear hbc)
                  | (go_at_call 23; (with_reducible refine (NXx.out _ CC.out).mono ?_); rintro e wd ⟨rfl, hbc⟩; have CC := Lib.hid (CC.out.below hbc); have SL := Lib.hid (SL.out.keep (Kx.below hbc)); clear hbc))
                go_roundg gk
                case measure => omega
                case rel => exact ⟨by omega, by go_num, rfl, CC, SL⟩
          · obtain rfl : h = 3 := by omega
            have hca := cl_all CC.out.ch
            rw [hca, show ((3 : Nat) : Int) = (3 : Int) from rfl]
            have hc14 := ct_le L 14
            clear hcl hca
            go_wp2_with fail
            go_loopw [8, 17] (fun v8 v17 wr4 => ∃ (k : Nat) (r : Int), k ≤ 14 ∧ v17 = .int .i64 k ∧ v8 = .int .i64 r ∧ (-100 ≤ r ∧ r ≤ 100) ∧ Hid (r = (ct L 14 : Int) - (ct L k : Int)) ∧ Hid (Cs w wr4 p g L f)) (fun _ v _ => 14 - (intOf v).toNat)
            case atStart => exact ⟨0, _, Nat.zero_le _, rfl, rfl, by omega, Lib.hid (by rw [show ct L 0 = 0 from rfl]; simp), CC⟩
            case round =>
              clear CC
              obtain ⟨j, r, hj, rfl, rfl, hrb, hr, CC⟩ := hrel
              by_cases hlt4 : j < 14
              · have hw8 : IntKind.u8.wrap (j : Int) = j := by rw [IntKind.wrap_u8]; omega
                have hcs := Lib.hid (ct_succ L j)
                have hct1 := ct_le L (j + 1)
                by_cases ho : ow L (ndN j) = 0
                · have hr2 : Hid (r = (ct L 14 : Int) - (ct L (j + 1) : Int)) := Lib.hid (by rw [hcs.out, if_pos ho, hr.out]; simp)
                  have OWn : Hid (∀ w', Cs w w' p g L f → Calls Tryd.prog 22 #[.pointer (some ⟨p, 0, none⟩), .int .i64 (ndN j : Nat)] w' fun e w'' => e = .returned (.tuple #[.int .i64 0, .int .i64 0]) ∧ Below w'.heap.size w' w'') := Lib.hid fun w' c' => by
                    have := cs_owner c' (ndN_in j)
                    rw [ho] at this
                    exact this
                  have NXn : Hid (∀ d w', Cs w w' p g L f → Calls Tryd.prog 23 #[.pointer (some ⟨p, 0, none⟩), .int .i64 (ndN j : Nat), .bool d] w' fun e w'' => e = .returned (.tuple #[.int .i64 0, .int .i64 0]) ∧ Below w'.heap.size w' w'') := Lib.hid fun d w' c' => by
                    have := cs_next c' d (ndN_in j)
                    rw [nx_free L d ho] at this
                    exact this
                  clear ho
                  go_wp2_with (first
                    | (go_at_call 13; (with_reducible refine (node_any j (by omega) _).mono ?_); rintro e wd ⟨rfl, rfl⟩)
                    | (go_at_call 22; (with_reducible refine (OWn.out _ CC.out).mono ?_); rintro e wd ⟨rfl, hbc⟩; have CC := Lib.hid (CC.out.below hbc); clear hbc)
                    | (go_at_call 23; (with_reducible refine (NXn.out _ _ CC.out).mono ?_); rintro e wd ⟨rfl, hbc⟩; have CC := Lib.hid (CC.out.below hbc); clear hbc))
                  go_roundw
                  case rel => exact ⟨j + 1, r, by omega, by go_num, rfl, hrb, hr2, CC⟩
                  case measure => simp [intOf]; omega
                · have hr2 : Hid (r - 1 = (ct L 14 : Int) - (ct L (j + 1) : Int)) := Lib.hid (by rw [hcs.out, if_neg ho, hr.out]; omega)
                  have hrb2 : -100 ≤ r - 1 ∧ r - 1 ≤ 100 := by have := hr2.out; omega
                  obtain ⟨ov, hov⟩ : ∃ v, v = ow L (ndN j) := ⟨_, rfl⟩
                  have hov0 : ¬ (ov : Int) = 0 := by omega
                  have OWn : Hid (∀ w', Cs w w' p g L f → Calls Tryd.prog 22 #[.pointer (some ⟨p, 0, none⟩), .int .i64 (ndN j : Nat)] w' fun e w'' => e = .returned (.tuple #[.int .i64 (ov : Nat), .int .i64 0]) ∧ Below w'.heap.size w' w'') := Lib.hid fun w' c' => by
                    rw [hov]
                    exact cs_owner c' (ndN_in j)
                  clear ho hov
                  go_wp2_with (first
                    | (go_at_call 13; (with_reducible refine (node_any j (by omega) _).mono ?_); rintro e wd ⟨rfl, rfl⟩)
                    | (go_at_call 22; (with_reducible refine (OWn.out _ CC.out).mono ?_); rintro e wd ⟨rfl, hbc⟩; have CC := Lib.hid (CC.out.below hbc); clear hbc)
                    | (go_at_call 23; (with_reducible refine (cs_next CC.out _ (ndN_in j)).mono ?_); rintro e wd ⟨rfl, hbc⟩; have CC := Lib.hid (CC.out.below hbc); clear hbc))
                  go_roundw
                  case rel => exact ⟨j + 1, r - 1, by omega, by go_num, rfl, hrb2, hr2, CC⟩
                  case measure => simp [intOf]; omega
              · obtain rfl : j = 14 := by omega
                obtain rfl : r = 0 := by have := hr.out; omega
                go_wp2
                go_ret
                exact ⟨rfl, CC.out.bl⟩
end Go.Proofs.YthklbkgehfgdgaaDoor
