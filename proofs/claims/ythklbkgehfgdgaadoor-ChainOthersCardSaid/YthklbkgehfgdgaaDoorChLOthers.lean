/- The walk of ChainOthers: it returns true, and nothing that was there has turned. Condition: the table of widths lies in its block. -/
import Derived.Test.YthklbkgehfgdgaaDoorChOthersM
import Derived.Deep.RegionHeld3
import Derived.Deep.RegionWith
namespace Go.Proofs.YthklbkgehfgdgaaDoor
open Go.RowKit

set_option maxRecDepth 100000 in
set_option maxHeartbeats 8000000 in
theorem others_walk (A : Option Addr) (len cap : Nat) (s : Dd) (w : World) (hD : Deeds10 w A len ∧ len ≤ 9223372036854775807) (hs : s.ok) (hT : Tab w) (hB : 0 < w.heap.size) :
    Calls Tryd.prog 8 #[.slice A len cap, s.v] w fun e w' => e = .returned (.bool true) ∧ Below w.heap.size w w' := by
  obtain ⟨hD, hlen⟩ := hD
  obtain ⟨kd, H, X⟩ := s
  obtain ⟨hH, hX⟩ := hs
  dsimp only at hH hX
  unfold Dd.v
  dsimp only
  obtain ⟨w1, hw1⟩ : ∃ w1, w1 = w.alloc (.cells #[.int .i64 kd, .int .u8 (H : Nat), .int .u8 (X : Nat)] 33) := ⟨_, rfl⟩
  obtain ⟨b0, hb0e⟩ : ∃ b, b = w.heap.size := ⟨_, rfl⟩
  have FR0 : Hid (Below w.heap.size w w1) := Lib.hid (by rw [hw1]; exact below_one w _)
  have bx : Blk w1 b0 33 #[.int .i64 kd, .int .u8 (H : Nat), .int .u8 (X : Nat)] := by rw [hw1, hb0e]; exact Blk.new _ _ _
  have hb0 : Hid (b0 < w1.heap.size) := Lib.hid bx.lt
  have C0 : Hid (w1.cell? ⟨b0, 0, none⟩ = some (.int .i64 kd)) := Lib.hid (bx.cell 0)
  have C1 : Hid (w1.cell? ⟨b0, 1, none⟩ = some (.int .u8 (H : Nat))) := Lib.hid (bx.cell 1)
  have C2 : Hid (w1.cell? ⟨b0, 2, none⟩ = some (.int .u8 (X : Nat))) := Lib.hid (bx.cell 2)
  have hB1 : 0 < w1.heap.size := Nat.lt_of_lt_of_le hB FR0.out.size
  obtain ⟨hh, hhe⟩ : ∃ h, h = hdN H := ⟨_, rfl⟩
  obtain ⟨h1, h1e⟩ : ∃ h, h = hdN (H % 3 + 1) := ⟨_, rfl⟩
  obtain ⟨h2, h2e⟩ : ∃ h, h = hdN (H % 3 + 2) := ⟨_, rfl⟩
  obtain ⟨n, hne⟩ : ∃ n, n = ndN X := ⟨_, rfl⟩
  have hhh : Hid (hh ∈ H3) := Lib.hid (hhe ▸ hdN_in H)
  have hh1 : Hid (h1 ∈ H3) := Lib.hid (h1e ▸ hdN_in _)
  have hh2 : Hid (h2 ∈ H3) := Lib.hid (h2e ▸ hdN_in _)
  have hnn : Hid (N14 n) := Lib.hid (hne ▸ ndN_in X)
  have hn1 : Hid (h1 ≠ hh) := Lib.hid (by rw [h1e, hhe]; unfold hdN; omega)
  have hn2 : Hid (h2 ≠ hh) := Lib.hid (by rw [h2e, hhe]; unfold hdN; omega)
  have HD0 : Hid (∀ w, Calls Tryd.prog 12 #[.int .u8 (H : Int)] w fun e w' => e = .returned (.int .i64 (hh : Nat)) ∧ w = w') := Lib.hid fun w => by rw [hhe]; exact head_any H hH w
  have HD1 : Hid (∀ w, Calls Tryd.prog 12 #[.int .u8 ((H : Int) % 3 + 1)] w fun e w' => e = .returned (.int .i64 (h1 : Nat)) ∧ w = w') := Lib.hid fun w => by rw [h1e]; exact head_any (H % 3 + 1) (by omega) w
  have HD2 : Hid (∀ w, Calls Tryd.prog 12 #[.int .u8 ((H : Int) % 3 + 2)] w fun e w' => e = .returned (.int .i64 (h2 : Nat)) ∧ w = w') := Lib.hid fun w => by rw [h2e]; exact head_any (H % 3 + 2) (by omega) w
  have ND0 : Hid (∀ w, Calls Tryd.prog 13 #[.int .u8 (X : Int)] w fun e w' => e = .returned (.int .i64 (n : Nat)) ∧ w = w') := Lib.hid fun w => by rw [hne]; exact node_any X hX w
  have SH := Lib.hid (shown_any10 (hT.below FR0.out hB) hB1)
  have HT := Lib.hid (hT.below FR0.out hB)
  have HD := Lib.hid hD
  have HW := Lib.hid hw1
  have HB0 := Lib.hid hb0e
  clear hT hD hw1 hb0e bx hhe h1e h2e hne
  go_enter Tryd.func8, Tryd.ntmps8
  go_wp2_with fail
  rw [← HB0.out, ← HW.out]
  refine SH.out.mono ?_
  rintro e wa ⟨rfl, hb⟩
  have NW := Lib.hid (cs_new (HT.out.below hb hB1) (Nat.lt_of_lt_of_le hB1 hb.size) hb)
  clear hb
  go_wp2_with fail
  refine NW.out.mono ?_
  rintro e wc ⟨p, g, rfl, hc, hb⟩
  have CC := Lib.hid hc
  clear hc hb
  go_wp2_with fail
  go_loopw [7] (fun v wr => ∃ (k : Nat) (L : Nat → List Nat) (f : Nat → Int), k ≤ len ∧ k ≤ 60 ∧ v = .int .i64 k ∧ Hid (Cs w1 wr p g L f)) (fun v _ => 60 - (intOf v).toNat)
  case atStart => exact ⟨0, _, _, Nat.zero_le _, Nat.zero_le _, rfl, CC⟩
  case round =>
    clear CC
    obtain ⟨k, L, f, hk, hk2, rfl, CC⟩ := hrel
    by_cases hc1 : k < len ∧ k < 60
    · obtain ⟨g1, g2⟩ := hc1
      have e1 : decide ((k : Int) < len) = true := decide_eq_true (by omega)
      have e2 : decide ((k : Int) < 60) = true := decide_eq_true (by omega)
      obtain ⟨b, o, kd', h', x', rfl, hblt, q0, q1, q2, hh', hx'⟩ := HD.out k g1
      have DK : Hid (∀ w', Below w.heap.size w w' → D3 w' b o k kd' h' x') := Lib.hid fun w' hl => d3_keep ⟨q0, q1, q2⟩ hblt hl
      have SC := Lib.hid (DK.out _ (FR0.out.trans (CC.out.bl.mono FR0.out.size)))
      clear q0 q1 q2
      obtain ⟨q0, q1, q2⟩ := SC.out
      have CD := Lib.hid CC.out.drew
      have SE : Hid (D3 wr.drew b o k kd' h' x') := SC
      go_wp2_with fail
      go_region_held3 (fun w' => D3 w' b o k kd' h' x') (first | (with_reducible exact SC.out) | (with_reducible exact SD.out) | (with_reducible exact SE.out) | go_keep) (first
        | (go_at_call 12; (with_reducible refine (head_any h' (by omega) _).mono ?_); rintro e wd ⟨rfl, rfl⟩)
        | (go_at_call 13; (with_reducible refine (node_any x' (by omega) _).mono ?_); rintro e wd ⟨rfl, rfl⟩)
        | (go_at_call 14; (with_reducible refine (cs_push CD.out _ (hdN_in h') (ndN_in x')).mono ?_); rintro e wd ⟨rfl, f', hc, hf⟩; have SD := Lib.hid (DK.out _ (FR0.out.trans (hc.bl.mono FR0.out.size))); have CE := Lib.hid hc; clear hc hf))
      all_goals
        go_wp2_with fail
        go_roundw
        case rel => exact ⟨k + 1, _, f', by omega, by omega, by go_num, CE⟩
        case measure => simp [intOf]; omega
    · have hcases : ¬ k < len ∨ (k < len ∧ ¬ k < 60) := by
        rcases Nat.lt_or_ge k len with h | h
        · exact .inr ⟨h, by omega⟩
        · exact .inl (by omega)
      have HC1 := Lib.hid hc1
      clear hc1
      by_cases hcase : ow L n = hh
      · rcases hcases with e1 | ⟨e1, e2⟩
        all_goals
          have hL : Hid (Cs w1 wr p g L f) := CC
          have ho : ow L n = hh := hcase
          obtain ⟨l1, hl1⟩ : ∃ l, l = L h1 := ⟨_, rfl⟩
          obtain ⟨l2, hl2⟩ : ∃ l, l = L h2 := ⟨_, rfl⟩
          obtain ⟨k1, hk1⟩ : ∃ k, k = l1.length := ⟨_, rfl⟩
          obtain ⟨k2, hk2⟩ : ∃ k, k = l2.length := ⟨_, rfl⟩
          have kb1 : k1 ≤ 14 := by rw [hk1, hl1]; exact CC.out.ch.len hh1.out
          have kb2 : k2 ≤ 14 := by rw [hk2, hl2]; exact CC.out.ch.len hh2.out
          have A1 : ∀ w' f', Cs w1 w' p g L f' → Calls Tryd.prog 25 #[.pointer (some ⟨p, 0, none⟩), .int .i64 h1] w' fun e w'' => ∃ A cap, e = .returned (.tuple #[.slice A k1 cap, .int .i64 0]) ∧ Sx w'' ⟨w1.heap.size, g⟩ A l1 ∧ Below w'.heap.size w' w'' := fun w' f' c' => by
            have := cs_all c' hh1.out
            rw [← hl1, ← hk1] at this
            exact this
          have A2 : ∀ w' f', Cs w1 w' p g L f' → Calls Tryd.prog 25 #[.pointer (some ⟨p, 0, none⟩), .int .i64 h2] w' fun e w'' => ∃ A cap, e = .returned (.tuple #[.slice A k2 cap, .int .i64 0]) ∧ Sx w'' ⟨w1.heap.size, g⟩ A l2 ∧ Below w'.heap.size w' w'' := fun w' f' c' => by
            have := cs_all c' hh2.out
            rw [← hl2, ← hk2] at this
            exact this
          have RM : ∀ w' f', Cs w1 w' p g L f' → Calls Tryd.prog 18 #[.pointer (some ⟨p, 0, none⟩), .int .i64 hh, .int .i64 n] w' (Ct w1 w' p g (gR L hh n) (.int .i64 0)) := fun w' f' c' => by
            have := cs_remove c' hhh.out hnn.out
            rw [(oth_in c'.ch hhh.out ho).1, Int.natCast_zero] at this
            exact this
          have OW : ∀ w' f', Cs w1 w' p g L f' → Calls Tryd.prog 22 #[.pointer (some ⟨p, 0, none⟩), .int .i64 n] w' fun e w'' => e = .returned (.tuple #[.int .i64 (hh : Nat), .int .i64 0]) ∧ Below w'.heap.size w' w'' := fun w' f' c' => by
            have := cs_owner c' hnn.out
            rw [ho] at this
            exact this
          have PU : ∀ d w' f', Cs w1 w' p g (gR L hh n) f' → Calls Tryd.prog 14 #[.pointer (some ⟨p, 0, none⟩), .int .i64 hh, .int .i64 n, .bool d] w' (Ct w1 w' p g (gP (gR L hh n) hh n d) (.int .i64 0)) := fun d w' f' c' => by
            have := cs_push c' d hhh.out hnn.out
            rw [show gPe (gR L hh n) n = 0 from (oth_in CC.out.ch hhh.out ho).2, Int.natCast_zero] at this
            exact this
          have B1 : ∀ d w' f', Cs w1 w' p g (gP (gR L hh n) hh n d) f' → Calls Tryd.prog 25 #[.pointer (some ⟨p, 0, none⟩), .int .i64 h1] w' fun e w'' => ∃ A cap, e = .returned (.tuple #[.slice A k1 cap, .int .i64 0]) ∧ Sx w'' ⟨w1.heap.size, g⟩ A l1 ∧ Below w'.heap.size w' w'' := fun d w' f' c' => by
            have := cs_all c' hh1.out
            rw [gP_other _ d hn1.out, gR_other _ hn1.out, ← hl1, ← hk1] at this
            exact this
          have B2 : ∀ d w' f', Cs w1 w' p g (gP (gR L hh n) hh n d) f' → Calls Tryd.prog 25 #[.pointer (some ⟨p, 0, none⟩), .int .i64 h2] w' fun e w'' => ∃ A cap, e = .returned (.tuple #[.slice A k2 cap, .int .i64 0]) ∧ Sx w'' ⟨w1.heap.size, g⟩ A l2 ∧ Below w'.heap.size w' w'' := fun d w' f' c' => by
            have := cs_all c' hh2.out
            rw [gP_other _ d hn2.out, gR_other _ hn2.out, ← hl2, ← hk2] at this
            exact this
          
          replace A1 := Lib.hid A1
          replace A2 := Lib.hid A2
          replace B1 := Lib.hid B1
          replace B2 := Lib.hid B2
          replace RM := Lib.hid RM
          replace PU := Lib.hid PU
          replace OW := Lib.hid OW
          have HK1 := Lib.hid hk1
          have HK2 := Lib.hid hk2
          clear hl1 hl2 hk1 hk2 ho
          (try clear c0 c1 c2); have c0 := (CC.out.bl.cell (p := ⟨b0, 0, none⟩) hb0.out).trans C0.out; have c1 := (CC.out.bl.cell (p := ⟨b0, 1, none⟩) hb0.out).trans C1.out; have c2 := (CC.out.bl.cell (p := ⟨b0, 2, none⟩) hb0.out).trans C2.out
          go_wp2_with (first
            | (go_at_call 12; (with_reducible refine (HD0.out _).mono ?_); rintro e wd ⟨rfl, rfl⟩)
            | (go_at_call 12; (with_reducible refine (HD1.out _).mono ?_); rintro e wd ⟨rfl, rfl⟩)
            | (go_at_call 12; (with_reducible refine (HD2.out _).mono ?_); rintro e wd ⟨rfl, rfl⟩)
            | (go_at_call 13; (with_reducible refine (ND0.out _).mono ?_); rintro e wd ⟨rfl, rfl⟩)
            | (go_at_call 22; (with_reducible refine (OW.out _ f CC.out).mono ?_); rintro e wd ⟨rfl, hbc⟩; have CC := Lib.hid (CC.out.below hbc); clear hbc; (try clear c0 c1 c2); have c0 := (CC.out.bl.cell (p := ⟨b0, 0, none⟩) hb0.out).trans C0.out; have c1 := (CC.out.bl.cell (p := ⟨b0, 1, none⟩) hb0.out).trans C1.out; have c2 := (CC.out.bl.cell (p := ⟨b0, 2, none⟩) hb0.out).trans C2.out)
            | (go_at_call 25; (with_reducible refine (A1.out _ f CC.out).mono ?_); rintro e wd ⟨Ap, cp, rfl, hs, hbc⟩; have CC := Lib.hid (CC.out.below hbc); have SP := Lib.hid hs; clear hs hbc; (try clear c0 c1 c2); have c0 := (CC.out.bl.cell (p := ⟨b0, 0, none⟩) hb0.out).trans C0.out; have c1 := (CC.out.bl.cell (p := ⟨b0, 1, none⟩) hb0.out).trans C1.out; have c2 := (CC.out.bl.cell (p := ⟨b0, 2, none⟩) hb0.out).trans C2.out)
            | (go_at_call 25; (with_reducible refine (A2.out _ f CC.out).mono ?_); rintro e wd ⟨Aq, cq, rfl, hs, hbc⟩; have CC := Lib.hid (CC.out.below hbc); have SP := Lib.hid (SP.out.keep (Kx.below hbc)); have SQ := Lib.hid hs; clear hs hbc; (try clear c0 c1 c2); have c0 := (CC.out.bl.cell (p := ⟨b0, 0, none⟩) hb0.out).trans C0.out; have c1 := (CC.out.bl.cell (p := ⟨b0, 1, none⟩) hb0.out).trans C1.out; have c2 := (CC.out.bl.cell (p := ⟨b0, 2, none⟩) hb0.out).trans C2.out)
            | (go_at_call 18; (with_reducible refine (RM.out _ f CC.out).mono ?_); rintro e wd ⟨rfl, f1, hc, hf⟩; have CC := Lib.hid hc; have SP := Lib.hid (SP.out.keep hf.kx); have SQ := Lib.hid (SQ.out.keep hf.kx); clear hc hf; (try clear c0 c1 c2); have c0 := (CC.out.bl.cell (p := ⟨b0, 0, none⟩) hb0.out).trans C0.out; have c1 := (CC.out.bl.cell (p := ⟨b0, 1, none⟩) hb0.out).trans C1.out; have c2 := (CC.out.bl.cell (p := ⟨b0, 2, none⟩) hb0.out).trans C2.out)
            | (go_at_call 14; (with_reducible refine (PU.out _ _ f1 CC.out).mono ?_); rintro e wd ⟨rfl, f2, hc, hf⟩; have CC := Lib.hid hc; have SP := Lib.hid (SP.out.keep hf.kx); have SQ := Lib.hid (SQ.out.keep hf.kx); clear hc hf; (try clear c0 c1 c2); have c0 := (CC.out.bl.cell (p := ⟨b0, 0, none⟩) hb0.out).trans C0.out; have c1 := (CC.out.bl.cell (p := ⟨b0, 1, none⟩) hb0.out).trans C1.out; have c2 := (CC.out.bl.cell (p := ⟨b0, 2, none⟩) hb0.out).trans C2.out)
            | (go_at_call 25; (with_reducible refine (B1.out _ _ f2 CC.out).mono ?_); rintro e wd ⟨Ar, cr, rfl, hs, hbc⟩; have CC := Lib.hid (CC.out.below hbc); have SP := Lib.hid (SP.out.keep (Kx.below hbc)); have SQ := Lib.hid (SQ.out.keep (Kx.below hbc)); have SR := Lib.hid hs; clear hs hbc; (try clear c0 c1 c2); have c0 := (CC.out.bl.cell (p := ⟨b0, 0, none⟩) hb0.out).trans C0.out; have c1 := (CC.out.bl.cell (p := ⟨b0, 1, none⟩) hb0.out).trans C1.out; have c2 := (CC.out.bl.cell (p := ⟨b0, 2, none⟩) hb0.out).trans C2.out)
            | (go_at_call 25; (with_reducible refine (B2.out _ _ f2 CC.out).mono ?_); rintro e wd ⟨As, cs, rfl, hs, hbc⟩; have CC := Lib.hid (CC.out.below hbc); have SP := Lib.hid (SP.out.keep (Kx.below hbc)); have SQ := Lib.hid (SQ.out.keep (Kx.below hbc)); have SR := Lib.hid (SR.out.keep (Kx.below hbc)); have SS := Lib.hid hs; clear hs hbc; (try clear c0 c1 c2); have c0 := (CC.out.bl.cell (p := ⟨b0, 0, none⟩) hb0.out).trans C0.out; have c1 := (CC.out.bl.cell (p := ⟨b0, 1, none⟩) hb0.out).trans C1.out; have c2 := (CC.out.bl.cell (p := ⟨b0, 2, none⟩) hb0.out).trans C2.out)
            | (go_at_call 26; (with_reducible refine (same_sx _ _ _ SP.out SR.out HK1.out.symm (by omega)).mono ?_); rintro e wd ⟨rfl, hbc⟩; have CC := Lib.hid (CC.out.below hbc); have SQ := Lib.hid (SQ.out.keep (Kx.below hbc)); have SS := Lib.hid (SS.out.keep (Kx.below hbc)); clear hbc)
            | (go_at_call 26; (with_reducible refine (same_sx _ _ _ SQ.out SS.out HK2.out.symm (by omega)).mono ?_); rintro e wd ⟨rfl, hbc⟩; have CC := Lib.hid (CC.out.below hbc); clear hbc))
          all_goals first
            | (go_ret; exact ⟨rfl, FR0.out.trans (CC.out.bl.mono FR0.out.size)⟩)
            | exact absurd ‹((oo : Int) == (hh : Int)) = true ∨ ((oo : Int) == 0) = true› (by simp; omega)
      · by_cases hcase2 : ow L n = 0
        · have hcase := hcase2
          rcases hcases with e1 | ⟨e1, e2⟩
          all_goals
            have hL : Hid (Cs w1 wr p g L f) := CC
            have ho : ow L n = 0 := hcase
            have ho2 : ow L n ≠ hh := fun e => h3_ne hhh.out (e.symm.trans ho)
            obtain ⟨l1, hl1⟩ : ∃ l, l = L h1 := ⟨_, rfl⟩
            obtain ⟨l2, hl2⟩ : ∃ l, l = L h2 := ⟨_, rfl⟩
            obtain ⟨k1, hk1⟩ : ∃ k, k = l1.length := ⟨_, rfl⟩
            obtain ⟨k2, hk2⟩ : ∃ k, k = l2.length := ⟨_, rfl⟩
            have kb1 : k1 ≤ 14 := by rw [hk1, hl1]; exact CC.out.ch.len hh1.out
            have kb2 : k2 ≤ 14 := by rw [hk2, hl2]; exact CC.out.ch.len hh2.out
            have A1 : ∀ w' f', Cs w1 w' p g L f' → Calls Tryd.prog 25 #[.pointer (some ⟨p, 0, none⟩), .int .i64 h1] w' fun e w'' => ∃ A cap, e = .returned (.tuple #[.slice A k1 cap, .int .i64 0]) ∧ Sx w'' ⟨w1.heap.size, g⟩ A l1 ∧ Below w'.heap.size w' w'' := fun w' f' c' => by
              have := cs_all c' hh1.out
              rw [← hl1, ← hk1] at this
              exact this
            have A2 : ∀ w' f', Cs w1 w' p g L f' → Calls Tryd.prog 25 #[.pointer (some ⟨p, 0, none⟩), .int .i64 h2] w' fun e w'' => ∃ A cap, e = .returned (.tuple #[.slice A k2 cap, .int .i64 0]) ∧ Sx w'' ⟨w1.heap.size, g⟩ A l2 ∧ Below w'.heap.size w' w'' := fun w' f' c' => by
              have := cs_all c' hh2.out
              rw [← hl2, ← hk2] at this
              exact this
            have RM : ∀ w' f', Cs w1 w' p g L f' → Calls Tryd.prog 18 #[.pointer (some ⟨p, 0, none⟩), .int .i64 hh, .int .i64 n] w' (Ct w1 w' p g (gR L hh n) (.int .i64 8)) := fun w' f' c' => by
              have := cs_remove c' hhh.out hnn.out
              rw [(oth_out c'.ch hhh.out ho2).1, show ((8 : Nat) : Int) = 8 from rfl] at this
              exact this
            have OW : ∀ w' f', Cs w1 w' p g L f' → Calls Tryd.prog 22 #[.pointer (some ⟨p, 0, none⟩), .int .i64 n] w' fun e w'' => e = .returned (.tuple #[.int .i64 0, .int .i64 0]) ∧ Below w'.heap.size w' w'' := fun w' f' c' => by
              have := cs_owner c' hnn.out
              rw [ho, Int.natCast_zero] at this
              exact this
            have PU : ∀ d w' f', Cs w1 w' p g (gR L hh n) f' → Calls Tryd.prog 14 #[.pointer (some ⟨p, 0, none⟩), .int .i64 hh, .int .i64 n, .bool d] w' (Ct w1 w' p g (gP (gR L hh n) hh n d) (.int .i64 0)) := fun d w' f' c' => by
              have := cs_push c' d hhh.out hnn.out
              rw [show gPe (gR L hh n) n = 0 from (by rw [(oth_out CC.out.ch hhh.out ho2).2]; unfold gPe; rw [if_pos ho]), Int.natCast_zero] at this
              exact this
            have B1 : ∀ d w' f', Cs w1 w' p g (gP (gR L hh n) hh n d) f' → Calls Tryd.prog 25 #[.pointer (some ⟨p, 0, none⟩), .int .i64 h1] w' fun e w'' => ∃ A cap, e = .returned (.tuple #[.slice A k1 cap, .int .i64 0]) ∧ Sx w'' ⟨w1.heap.size, g⟩ A l1 ∧ Below w'.heap.size w' w'' := fun d w' f' c' => by
              have := cs_all c' hh1.out
              rw [gP_other _ d hn1.out, gR_other _ hn1.out, ← hl1, ← hk1] at this
              exact this
            have B2 : ∀ d w' f', Cs w1 w' p g (gP (gR L hh n) hh n d) f' → Calls Tryd.prog 25 #[.pointer (some ⟨p, 0, none⟩), .int .i64 h2] w' fun e w'' => ∃ A cap, e = .returned (.tuple #[.slice A k2 cap, .int .i64 0]) ∧ Sx w'' ⟨w1.heap.size, g⟩ A l2 ∧ Below w'.heap.size w' w'' := fun d w' f' c' => by
              have := cs_all c' hh2.out
              rw [gP_other _ d hn2.out, gR_other _ hn2.out, ← hl2, ← hk2] at this
              exact this
            have hz1 : ¬ hh = 0 := h3_ne hhh.out
            have hz2 : ¬ (0 : Int) = (hh : Int) := by omega
            clear ho2
            replace A1 := Lib.hid A1
            replace A2 := Lib.hid A2
            replace B1 := Lib.hid B1
            replace B2 := Lib.hid B2
            replace RM := Lib.hid RM
            replace PU := Lib.hid PU
            replace OW := Lib.hid OW
            have HK1 := Lib.hid hk1
            have HK2 := Lib.hid hk2
            clear hl1 hl2 hk1 hk2 ho
            (try clear c0 c1 c2); have c0 := (CC.out.bl.cell (p := ⟨b0, 0, none⟩) hb0.out).trans C0.out; have c1 := (CC.out.bl.cell (p := ⟨b0, 1, none⟩) hb0.out).trans C1.out; have c2 := (CC.out.bl.cell (p := ⟨b0, 2, none⟩) hb0.out).trans C2.out
            go_wp2_with (first
              | (go_at_call 12; (with_reducible refine (HD0.out _).mono ?_); rintro e wd ⟨rfl, rfl⟩)
              | (go_at_call 12; (with_reducible refine (HD1.out _).mono ?_); rintro e wd ⟨rfl, rfl⟩)
              | (go_at_call 12; (with_reducible refine (HD2.out _).mono ?_); rintro e wd ⟨rfl, rfl⟩)
              | (go_at_call 13; (with_reducible refine (ND0.out _).mono ?_); rintro e wd ⟨rfl, rfl⟩)
              | (go_at_call 22; (with_reducible refine (OW.out _ f CC.out).mono ?_); rintro e wd ⟨rfl, hbc⟩; have CC := Lib.hid (CC.out.below hbc); clear hbc; (try clear c0 c1 c2); have c0 := (CC.out.bl.cell (p := ⟨b0, 0, none⟩) hb0.out).trans C0.out; have c1 := (CC.out.bl.cell (p := ⟨b0, 1, none⟩) hb0.out).trans C1.out; have c2 := (CC.out.bl.cell (p := ⟨b0, 2, none⟩) hb0.out).trans C2.out)
              | (go_at_call 25; (with_reducible refine (A1.out _ f CC.out).mono ?_); rintro e wd ⟨Ap, cp, rfl, hs, hbc⟩; have CC := Lib.hid (CC.out.below hbc); have SP := Lib.hid hs; clear hs hbc; (try clear c0 c1 c2); have c0 := (CC.out.bl.cell (p := ⟨b0, 0, none⟩) hb0.out).trans C0.out; have c1 := (CC.out.bl.cell (p := ⟨b0, 1, none⟩) hb0.out).trans C1.out; have c2 := (CC.out.bl.cell (p := ⟨b0, 2, none⟩) hb0.out).trans C2.out)
              | (go_at_call 25; (with_reducible refine (A2.out _ f CC.out).mono ?_); rintro e wd ⟨Aq, cq, rfl, hs, hbc⟩; have CC := Lib.hid (CC.out.below hbc); have SP := Lib.hid (SP.out.keep (Kx.below hbc)); have SQ := Lib.hid hs; clear hs hbc; (try clear c0 c1 c2); have c0 := (CC.out.bl.cell (p := ⟨b0, 0, none⟩) hb0.out).trans C0.out; have c1 := (CC.out.bl.cell (p := ⟨b0, 1, none⟩) hb0.out).trans C1.out; have c2 := (CC.out.bl.cell (p := ⟨b0, 2, none⟩) hb0.out).trans C2.out)
              | (go_at_call 18; (with_reducible refine (RM.out _ f CC.out).mono ?_); rintro e wd ⟨rfl, f1, hc, hf⟩; have CC := Lib.hid hc; have SP := Lib.hid (SP.out.keep hf.kx); have SQ := Lib.hid (SQ.out.keep hf.kx); clear hc hf; (try clear c0 c1 c2); have c0 := (CC.out.bl.cell (p := ⟨b0, 0, none⟩) hb0.out).trans C0.out; have c1 := (CC.out.bl.cell (p := ⟨b0, 1, none⟩) hb0.out).trans C1.out; have c2 := (CC.out.bl.cell (p := ⟨b0, 2, none⟩) hb0.out).trans C2.out)
              | (go_at_call 14; (with_reducible refine (PU.out _ _ f1 CC.out).mono ?_); rintro e wd ⟨rfl, f2, hc, hf⟩; have CC := Lib.hid hc; have SP := Lib.hid (SP.out.keep hf.kx); have SQ := Lib.hid (SQ.out.keep hf.kx); clear hc hf; (try clear c0 c1 c2); have c0 := (CC.out.bl.cell (p := ⟨b0, 0, none⟩) hb0.out).trans C0.out; have c1 := (CC.out.bl.cell (p := ⟨b0, 1, none⟩) hb0.out).trans C1.out; have c2 := (CC.out.bl.cell (p := ⟨b0, 2, none⟩) hb0.out).trans C2.out)
              | (go_at_call 25; (with_reducible refine (B1.out _ _ f2 CC.out).mono ?_); rintro e wd ⟨Ar, cr, rfl, hs, hbc⟩; have CC := Lib.hid (CC.out.below hbc); have SP := Lib.hid (SP.out.keep (Kx.below hbc)); have SQ := Lib.hid (SQ.out.keep (Kx.below hbc)); have SR := Lib.hid hs; clear hs hbc; (try clear c0 c1 c2); have c0 := (CC.out.bl.cell (p := ⟨b0, 0, none⟩) hb0.out).trans C0.out; have c1 := (CC.out.bl.cell (p := ⟨b0, 1, none⟩) hb0.out).trans C1.out; have c2 := (CC.out.bl.cell (p := ⟨b0, 2, none⟩) hb0.out).trans C2.out)
              | (go_at_call 25; (with_reducible refine (B2.out _ _ f2 CC.out).mono ?_); rintro e wd ⟨As, cs, rfl, hs, hbc⟩; have CC := Lib.hid (CC.out.below hbc); have SP := Lib.hid (SP.out.keep (Kx.below hbc)); have SQ := Lib.hid (SQ.out.keep (Kx.below hbc)); have SR := Lib.hid (SR.out.keep (Kx.below hbc)); have SS := Lib.hid hs; clear hs hbc; (try clear c0 c1 c2); have c0 := (CC.out.bl.cell (p := ⟨b0, 0, none⟩) hb0.out).trans C0.out; have c1 := (CC.out.bl.cell (p := ⟨b0, 1, none⟩) hb0.out).trans C1.out; have c2 := (CC.out.bl.cell (p := ⟨b0, 2, none⟩) hb0.out).trans C2.out)
              | (go_at_call 26; (with_reducible refine (same_sx _ _ _ SP.out SR.out HK1.out.symm (by omega)).mono ?_); rintro e wd ⟨rfl, hbc⟩; have CC := Lib.hid (CC.out.below hbc); have SQ := Lib.hid (SQ.out.keep (Kx.below hbc)); have SS := Lib.hid (SS.out.keep (Kx.below hbc)); clear hbc)
              | (go_at_call 26; (with_reducible refine (same_sx _ _ _ SQ.out SS.out HK2.out.symm (by omega)).mono ?_); rintro e wd ⟨rfl, hbc⟩; have CC := Lib.hid (CC.out.below hbc); clear hbc))
            all_goals first
              | (go_ret; exact ⟨rfl, FR0.out.trans (CC.out.bl.mono FR0.out.size)⟩)
              | exact absurd ‹((oo : Int) == (hh : Int)) = true ∨ ((oo : Int) == 0) = true› (by simp; omega)
        · have hcase := And.intro hcase hcase2
          rcases hcases with e1 | ⟨e1, e2⟩
          all_goals
            have hL : Hid (Cs w1 wr p g L f) := CC
            have ho : ow L n ≠ hh := hcase.1
            have ho2 : ow L n ≠ 0 := hcase.2
            obtain ⟨oo, hoo⟩ : ∃ o, o = ow L n := ⟨_, rfl⟩
            obtain ⟨l1, hl1⟩ : ∃ l, l = L h1 := ⟨_, rfl⟩
            obtain ⟨l2, hl2⟩ : ∃ l, l = L h2 := ⟨_, rfl⟩
            obtain ⟨k1, hk1⟩ : ∃ k, k = l1.length := ⟨_, rfl⟩
            obtain ⟨k2, hk2⟩ : ∃ k, k = l2.length := ⟨_, rfl⟩
            have kb1 : k1 ≤ 14 := by rw [hk1, hl1]; exact CC.out.ch.len hh1.out
            have kb2 : k2 ≤ 14 := by rw [hk2, hl2]; exact CC.out.ch.len hh2.out
            have A1 : ∀ w' f', Cs w1 w' p g L f' → Calls Tryd.prog 25 #[.pointer (some ⟨p, 0, none⟩), .int .i64 h1] w' fun e w'' => ∃ A cap, e = .returned (.tuple #[.slice A k1 cap, .int .i64 0]) ∧ Sx w'' ⟨w1.heap.size, g⟩ A l1 ∧ Below w'.heap.size w' w'' := fun w' f' c' => by
              have := cs_all c' hh1.out
              rw [← hl1, ← hk1] at this
              exact this
            have A2 : ∀ w' f', Cs w1 w' p g L f' → Calls Tryd.prog 25 #[.pointer (some ⟨p, 0, none⟩), .int .i64 h2] w' fun e w'' => ∃ A cap, e = .returned (.tuple #[.slice A k2 cap, .int .i64 0]) ∧ Sx w'' ⟨w1.heap.size, g⟩ A l2 ∧ Below w'.heap.size w' w'' := fun w' f' c' => by
              have := cs_all c' hh2.out
              rw [← hl2, ← hk2] at this
              exact this
            have RM : ∀ w' f', Cs w1 w' p g L f' → Calls Tryd.prog 18 #[.pointer (some ⟨p, 0, none⟩), .int .i64 hh, .int .i64 n] w' (Ct w1 w' p g (gR L hh n) (.int .i64 8)) := fun w' f' c' => by
              have := cs_remove c' hhh.out hnn.out
              rw [(oth_out c'.ch hhh.out ho).1, show ((8 : Nat) : Int) = 8 from rfl] at this
              exact this
            have OW : ∀ w' f', Cs w1 w' p g L f' → Calls Tryd.prog 22 #[.pointer (some ⟨p, 0, none⟩), .int .i64 n] w' fun e w'' => e = .returned (.tuple #[.int .i64 (oo : Nat), .int .i64 0]) ∧ Below w'.heap.size w' w'' := fun w' f' c' => by
              have := cs_owner c' hnn.out
              rw [← hoo] at this
              exact this
            have PU : ∀ d w' f', Cs w1 w' p g (gR L hh n) f' → Calls Tryd.prog 14 #[.pointer (some ⟨p, 0, none⟩), .int .i64 hh, .int .i64 n, .bool d] w' (Ct w1 w' p g (gP (gR L hh n) hh n d) (.int .i64 8)) := fun d w' f' c' => by
              have := cs_push c' d hhh.out hnn.out
              rw [show gPe (gR L hh n) n = 8 from (by rw [(oth_out CC.out.ch hhh.out ho).2]; unfold gPe; rw [if_neg ho2]), show ((8 : Nat) : Int) = 8 from rfl] at this
              exact this
            have B1 : ∀ d w' f', Cs w1 w' p g (gP (gR L hh n) hh n d) f' → Calls Tryd.prog 25 #[.pointer (some ⟨p, 0, none⟩), .int .i64 h1] w' fun e w'' => ∃ A cap, e = .returned (.tuple #[.slice A k1 cap, .int .i64 0]) ∧ Sx w'' ⟨w1.heap.size, g⟩ A l1 ∧ Below w'.heap.size w' w'' := fun d w' f' c' => by
              have := cs_all c' hh1.out
              rw [gP_other _ d hn1.out, gR_other _ hn1.out, ← hl1, ← hk1] at this
              exact this
            have B2 : ∀ d w' f', Cs w1 w' p g (gP (gR L hh n) hh n d) f' → Calls Tryd.prog 25 #[.pointer (some ⟨p, 0, none⟩), .int .i64 h2] w' fun e w'' => ∃ A cap, e = .returned (.tuple #[.slice A k2 cap, .int .i64 0]) ∧ Sx w'' ⟨w1.heap.size, g⟩ A l2 ∧ Below w'.heap.size w' w'' := fun d w' f' c' => by
              have := cs_all c' hh2.out
              rw [gP_other _ d hn2.out, gR_other _ hn2.out, ← hl2, ← hk2] at this
              exact this
            have hz1 : ¬ (oo : Int) = (hh : Int) := by omega
            have hz2 : ¬ (oo : Int) = 0 := by omega
            clear ho2 hoo hcase
            replace A1 := Lib.hid A1
            replace A2 := Lib.hid A2
            replace B1 := Lib.hid B1
            replace B2 := Lib.hid B2
            replace RM := Lib.hid RM
            replace PU := Lib.hid PU
            replace OW := Lib.hid OW
            have HK1 := Lib.hid hk1
            have HK2 := Lib.hid hk2
            clear hl1 hl2 hk1 hk2 ho
            (try clear c0 c1 c2); have c0 := (CC.out.bl.cell (p := ⟨b0, 0, none⟩) hb0.out).trans C0.out; have c1 := (CC.out.bl.cell (p := ⟨b0, 1, none⟩) hb0.out).trans C1.out; have c2 := (CC.out.bl.cell (p := ⟨b0, 2, none⟩) hb0.out).trans C2.out
            go_wp2_with (first
              | (go_at_call 12; (with_reducible refine (HD0.out _).mono ?_); rintro e wd ⟨rfl, rfl⟩)
              | (go_at_call 12; (with_reducible refine (HD1.out _).mono ?_); rintro e wd ⟨rfl, rfl⟩)
              | (go_at_call 12; (with_reducible refine (HD2.out _).mono ?_); rintro e wd ⟨rfl, rfl⟩)
              | (go_at_call 13; (with_reducible refine (ND0.out _).mono ?_); rintro e wd ⟨rfl, rfl⟩)
              | (go_at_call 22; (with_reducible refine (OW.out _ f CC.out).mono ?_); rintro e wd ⟨rfl, hbc⟩; have CC := Lib.hid (CC.out.below hbc); clear hbc; (try clear c0 c1 c2); have c0 := (CC.out.bl.cell (p := ⟨b0, 0, none⟩) hb0.out).trans C0.out; have c1 := (CC.out.bl.cell (p := ⟨b0, 1, none⟩) hb0.out).trans C1.out; have c2 := (CC.out.bl.cell (p := ⟨b0, 2, none⟩) hb0.out).trans C2.out)
              | (go_at_call 25; (with_reducible refine (A1.out _ f CC.out).mono ?_); rintro e wd ⟨Ap, cp, rfl, hs, hbc⟩; have CC := Lib.hid (CC.out.below hbc); have SP := Lib.hid hs; clear hs hbc; (try clear c0 c1 c2); have c0 := (CC.out.bl.cell (p := ⟨b0, 0, none⟩) hb0.out).trans C0.out; have c1 := (CC.out.bl.cell (p := ⟨b0, 1, none⟩) hb0.out).trans C1.out; have c2 := (CC.out.bl.cell (p := ⟨b0, 2, none⟩) hb0.out).trans C2.out)
              | (go_at_call 25; (with_reducible refine (A2.out _ f CC.out).mono ?_); rintro e wd ⟨Aq, cq, rfl, hs, hbc⟩; have CC := Lib.hid (CC.out.below hbc); have SP := Lib.hid (SP.out.keep (Kx.below hbc)); have SQ := Lib.hid hs; clear hs hbc; (try clear c0 c1 c2); have c0 := (CC.out.bl.cell (p := ⟨b0, 0, none⟩) hb0.out).trans C0.out; have c1 := (CC.out.bl.cell (p := ⟨b0, 1, none⟩) hb0.out).trans C1.out; have c2 := (CC.out.bl.cell (p := ⟨b0, 2, none⟩) hb0.out).trans C2.out)
              | (go_at_call 18; (with_reducible refine (RM.out _ f CC.out).mono ?_); rintro e wd ⟨rfl, f1, hc, hf⟩; have CC := Lib.hid hc; have SP := Lib.hid (SP.out.keep hf.kx); have SQ := Lib.hid (SQ.out.keep hf.kx); clear hc hf; (try clear c0 c1 c2); have c0 := (CC.out.bl.cell (p := ⟨b0, 0, none⟩) hb0.out).trans C0.out; have c1 := (CC.out.bl.cell (p := ⟨b0, 1, none⟩) hb0.out).trans C1.out; have c2 := (CC.out.bl.cell (p := ⟨b0, 2, none⟩) hb0.out).trans C2.out)
              | (go_at_call 14; (with_reducible refine (PU.out _ _ f1 CC.out).mono ?_); rintro e wd ⟨rfl, f2, hc, hf⟩; have CC := Lib.hid hc; have SP := Lib.hid (SP.out.keep hf.kx); have SQ := Lib.hid (SQ.out.keep hf.kx); clear hc hf; (try clear c0 c1 c2); have c0 := (CC.out.bl.cell (p := ⟨b0, 0, none⟩) hb0.out).trans C0.out; have c1 := (CC.out.bl.cell (p := ⟨b0, 1, none⟩) hb0.out).trans C1.out; have c2 := (CC.out.bl.cell (p := ⟨b0, 2, none⟩) hb0.out).trans C2.out)
              | (go_at_call 25; (with_reducible refine (B1.out _ _ f2 CC.out).mono ?_); rintro e wd ⟨Ar, cr, rfl, hs, hbc⟩; have CC := Lib.hid (CC.out.below hbc); have SP := Lib.hid (SP.out.keep (Kx.below hbc)); have SQ := Lib.hid (SQ.out.keep (Kx.below hbc)); have SR := Lib.hid hs; clear hs hbc; (try clear c0 c1 c2); have c0 := (CC.out.bl.cell (p := ⟨b0, 0, none⟩) hb0.out).trans C0.out; have c1 := (CC.out.bl.cell (p := ⟨b0, 1, none⟩) hb0.out).trans C1.out; have c2 := (CC.out.bl.cell (p := ⟨b0, 2, none⟩) hb0.out).trans C2.out)
              | (go_at_call 25; (with_reducible refine (B2.out _ _ f2 CC.out).mono ?_); rintro e wd ⟨As, cs, rfl, hs, hbc⟩; have CC := Lib.hid (CC.out.below hbc); have SP := Lib.hid (SP.out.keep (Kx.below hbc)); have SQ := Lib.hid (SQ.out.keep (Kx.below hbc)); have SR := Lib.hid (SR.out.keep (Kx.below hbc)); have SS := Lib.hid hs; clear hs hbc; (try clear c0 c1 c2); have c0 := (CC.out.bl.cell (p := ⟨b0, 0, none⟩) hb0.out).trans C0.out; have c1 := (CC.out.bl.cell (p := ⟨b0, 1, none⟩) hb0.out).trans C1.out; have c2 := (CC.out.bl.cell (p := ⟨b0, 2, none⟩) hb0.out).trans C2.out)
              | (go_at_call 26; (with_reducible refine (same_sx _ _ _ SP.out SR.out HK1.out.symm (by omega)).mono ?_); rintro e wd ⟨rfl, hbc⟩; have CC := Lib.hid (CC.out.below hbc); have SQ := Lib.hid (SQ.out.keep (Kx.below hbc)); have SS := Lib.hid (SS.out.keep (Kx.below hbc)); clear hbc)
              | (go_at_call 26; (with_reducible refine (same_sx _ _ _ SQ.out SS.out HK2.out.symm (by omega)).mono ?_); rintro e wd ⟨rfl, hbc⟩; have CC := Lib.hid (CC.out.below hbc); clear hbc))
            all_goals first
              | (go_ret; exact ⟨rfl, FR0.out.trans (CC.out.bl.mono FR0.out.size)⟩)
              | exact absurd ‹((oo : Int) == (hh : Int)) = true ∨ ((oo : Int) == 0) = true› (by simp; omega)
end Go.Proofs.YthklbkgehfgdgaaDoor
