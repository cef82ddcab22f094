/- The document's answer for the slab: Alloc, walked. Condition: its blocks are known. -/
import Derived.Test.YthblpnnbkjhmhaaDoorSRAlloc
namespace Go.Proofs.YthblpnnbkjhmhaaDoor
open Go.RowKit

section
variable {w w' : World} {B : Bd} {g cp n : Nat} {s : St} {T : Nat → List Nat} {Q : Nat → Qg}
set_option maxRecDepth 100000 in
set_option maxHeartbeats 2000000 in
theorem ralloc_any (size : Int) (h : Rf w B g cp n s T Q) (hT : Tl s T) (hI : Inv n s) (hB : B.b ≤ w.heap.size ∧ B.t < w.heap.size) (hn1 : 1 ≤ n) :
    Calls Tryd.prog 15 #[.slice (some ⟨g, 0, none⟩) n cp, .int .i64 size] w fun e w' =>
      ∃ g' cp' T' Q', e = .returned (.tuple #[.slice (some ⟨g', 0, none⟩) n cp', .int .i64 (alV n s size), .int .i64 (alE n s size)]) ∧ Rf w' B g' cp' n (alS n s size) T' Q' ∧ Tl (alS n s size) T' ∧ Below w.heap.size w w' := by
  have hn := h.small
  have H := Lib.hid h
  have HT := Lib.hid hT
  have HI := Lib.hid hI
  clear h hT hI
  cases hok : alOk size with
  | false =>
    have e2 : alV n s size = 0 := by unfold alV; rw [hok]; rfl
    have e3 : alE n s size = 1 := by unfold alE; rw [hok]; rfl
    have e4 : alS n s size = s := by unfold alS; rw [hok]; rfl
    rw [e2, e3, e4]
    have hc : size < 1 ∨ 256 < size := by simp [alOk] at hok; omega
    clear e2 e3 e4 hok
    rcases hc with hc | hc
    · have hd : decide (size < 1) = true := decide_eq_true hc
      go_enter Tryd.func15, Tryd.ntmps15
      go_wp2
      go_ret3
      exact ⟨g, cp, T, Q, rfl, H.out, HT.out, Below.refl _ _⟩
    · have hd : decide (size < 1) = false := decide_eq_false (by omega)
      have hd2 : decide (256 < size) = true := decide_eq_true hc
      go_enter Tryd.func15, Tryd.ntmps15
      go_wp2
      go_ret3
      exact ⟨g, cp, T, Q, rfl, H.out, HT.out, Below.refl _ _⟩
  | true =>
    have hsz : 1 ≤ size ∧ size ≤ 256 := by simp [alOk] at hok; omega
    have hd : decide (size < 1) = false := decide_eq_false (by omega)
    have hd2 : decide (256 < size) = false := decide_eq_false (by omega)
    have HOK := Lib.hid hok
    have hC := clsOf_isC size
    have hbd := hC.bd
    have HC := Lib.hid hC
    obtain ⟨c, hcc⟩ : ∃ c, c = clsOf size := ⟨_, rfl⟩
    rw [← hcc] at hbd HC
    have HCC := Lib.hid hcc
    clear hok hC
    go_enter Tryd.func15, Tryd.ntmps15
    go_wp2_with fail
    refine (rclass_any size hsz.2).mono ?_
    rw [← hcc]
    rintro e w1 ⟨rfl, hb1⟩
    have R1 := Lib.hid (H.out.keep (Kb.below (B := B) hb1))
    have B1 := Lib.hid hb1
    clear hb1 hcc
    go_wp2_with fail
    go_loop [8, 9] (fun u v => ∃ i at_ : Nat, i < n ∧ v = .int .i64 i ∧ u = .int .i64 at_ ∧ Hid (Scan (has s c) n i at_)) (fun _ v => (intOf v).toNat)
    case atStart => exact ⟨n - 1, 0, by omega, by go_num, rfl, Lib.hid (Scan.start _ _)⟩
    case round =>
      obtain ⟨i, at1, hi, rfl, rfl, hSc⟩ := hrel
      by_cases hi0 : 0 < i
      · obtain ⟨e0, e1, _⟩ := R1.out.cells i hi
        unfold rc0 at e0
        unfold rc1 at e1
        have hhas : has s c i = (decide ((s i).1 = c) && !decide ((s i).2 = [])) := rfl
        generalize (s i).1 = c' at *
        generalize (s i).2 = l' at *
        have hll : l'.length = 0 ↔ l' = [] := by cases l' <;> simp
        have HHAS := Lib.hid hhas
        have HLL := Lib.hid hll
        clear hhas hll
        by_cases hcc : c' = c
        · subst hcc
          by_cases hl0 : l'.length = 0
          · have HL0 := Lib.hid (HLL.out.1 hl0)
            go_wp2
            go_round
            case rel => exact ⟨i - 1, at1, by omega, by go_num, rfl, Lib.hid (hSc.out.no' hi0 (by rw [HHAS.out]; simp [HL0.out]))⟩
            case measure => simp [intOf]; omega
          · have HL0 := Lib.hid (fun e => hl0 (HLL.out.2 e))
            have hpos : 0 < l'.length := by omega
            clear hl0
            go_wp2
            go_round
            case rel => exact ⟨i - 1, i, by omega, by go_num, rfl, Lib.hid (hSc.out.yes' hi0 hi (by rw [HHAS.out]; simp; exact HL0.out))⟩
            case measure => simp [intOf]; omega
        · have hcb : (((c' : Nat) : Int) == (c : Nat)) = false := by rw [beq_eq_false_iff_ne]; omega
          have HCX := Lib.hid hcc
          clear hcc
          go_wp2
          go_round
          case rel => exact ⟨i - 1, at1, by omega, by go_num, rfl, Lib.hid (hSc.out.no' hi0 (by rw [HHAS.out]; simp [HCX.out]))⟩
          case measure => simp [intOf]; omega
      · obtain rfl : i = 0 := by omega
        have hpo := Lib.hid (hSc.out.pgOf HI.out.toInv0 (show c ≠ 0 by omega))
        by_cases ha0 : at1 = 0
        · subst ha0
          have hpn : pgOf n s (clsOf size) = none := by rw [← HCC.out, hpo.out]; rfl
          have HPN := Lib.hid hpn
          clear hpo hSc hpn
          go_wp2_with fail
          go_loop [8, 10] (fun u v => ∃ i at_ : Nat, i < n ∧ v = .int .i64 i ∧ u = .int .i64 at_ ∧ Hid (Scan (fun i => decide ((s i).1 = 0)) n i at_)) (fun _ v => (intOf v).toNat)
          case atStart => exact ⟨n - 1, 0, by omega, by go_num, rfl, Lib.hid (Scan.start _ _)⟩
          case round =>
            obtain ⟨i, at1, hi, rfl, rfl, hSc⟩ := hrel
            by_cases hi0 : 0 < i
            · obtain ⟨e0, _, _⟩ := R1.out.cells i hi
              unfold rc0 at e0
              have hz : (decide ((s i).1 = 0)) = decide ((s i).1 = 0) := rfl
              generalize hci : (s i).1 = c' at e0 hz
              have HCI := Lib.hid hci
              clear hci hz
              by_cases hc0 : c' = 0
              · subst hc0
                go_wp2
                go_round
                case rel => exact ⟨i - 1, i, by omega, by go_num, rfl, Lib.hid (hSc.out.yes' hi0 hi (by simp [HCI.out]))⟩
                case measure => simp [intOf]; omega
              · have hcb : (((c' : Nat) : Int) == 0) = false := by rw [beq_eq_false_iff_ne]; omega
                have HCX := Lib.hid hc0
                clear hc0
                go_wp2
                go_round
                case rel => exact ⟨i - 1, at1, by omega, by go_num, rfl, Lib.hid (hSc.out.no' hi0 (by simp [HCI.out, HCX.out]))⟩
                case measure => simp [intOf]; omega
            · obtain rfl : i = 0 := by omega
              have hpw := Lib.hid hSc.out.pgNew
              by_cases ha0 : at1 = 0
              · subst ha0
                have hpn2 : pgNew n s = none := hpw.out
                have hal : alP n s size = none := by unfold alP; rw [HPN.out, hpn2]
                have HFV := Lib.hid (show alV n s size = 0 by unfold alV; rw [HOK.out, hal]; rfl)
                have HFE := Lib.hid (show alE n s size = 5 by unfold alE; rw [HOK.out, hal]; rfl)
                have HFS := Lib.hid (show alS n s size = s by unfold alS; rw [HOK.out, hal]; rfl)
                clear hal hpn2 hpw hSc
                go_wp2
                go_ret3
                rw [HFV.out, HFE.out, HFS.out]
                first | exact ⟨g, cp, T, Q, rfl, R1.out, HT.out, B1.out⟩ | exact ⟨g, cp, rfl, T, ⟨Q, R1.out⟩, HT.out, B1.out⟩
              · have hai : ((at1 : Nat) : Int) ≠ 0 := by omega
                have hab : (((at1 : Nat) : Int) == 0) = false := by simpa using hai
                have hpg : pgNew n s = some at1 := by rw [hpw.out, if_neg ha0]
                obtain ⟨hat, _, hs0⟩ := new_spec hpg
                have HAT0 := Lib.hid hs0
                have hal : alP n s size = some (at1, asg s at1 c) := by unfold alP; rw [HPN.out, hpg, ← HCC.out]
                obtain ⟨l, hbl⟩ := blks_cons at1 HC.out
                have hs : asg s at1 c at1 = (c, 512 * at1 :: l) := by rw [asg_at, hbl]
                obtain ⟨a, haa⟩ : ∃ a, a = 512 * at1 := ⟨_, rfl⟩
                rw [← haa] at hs
                have HFV := Lib.hid (show alV n s size = (a : Nat) by unfold alV; rw [HOK.out, hal]; dsimp only; rw [hs]; rfl)
                have HFE := Lib.hid (show alE n s size = 0 by unfold alE; rw [HOK.out, hal]; rfl)
                have HFS := Lib.hid (show alS n s size = popG (asg s at1 c) at1 by unfold alS; rw [HOK.out, hal]; rfl)
                obtain ⟨k', a', l', s1', hg⟩ := al_got HI.out HFE.out
                have hgk : k' = at1 ∧ a' = a := by
                  have h1 := hg.val
                  rw [HFV.out] at h1
                  have h2 : a' = a := by omega
                  have h3 := hg.page.1
                  refine ⟨?_, h2⟩
                  rw [← h3, h2, haa]
                  omega
                have HTK := Lib.hid (take_T HT.out HI.out hg)
                rw [hgk.1, hgk.2, HFS.out] at HTK
                have HTN := Lib.hid (T_nil HT.out hs0)
                have HS := Lib.hid hs
                clear hg hgk hal hpg hpw hSc hs0 haa hs
                have hm := HC.out.many
                have hmul := HC.out.mul
                have hblen : (blks at1 c).length = 512 / c := by simp [blks]
                have HBLEN := Lib.hid hblen
                obtain ⟨w2, hw2⟩ : ∃ w2, w2 = w1.alloc (.cells #[.int .i64 (c : Nat), .slice none 0 0, .slice none 0 0] 72) := ⟨_, rfl⟩
                have b2 : Blk w2 w1.heap.size 72 #[.int .i64 (c : Nat), .slice none 0 0, .slice none 0 0] := by rw [hw2]; exact Blk.new _ _ _
                have l2 : Below w1.heap.size w1 w2 := by rw [hw2]; exact (Below.refl _ _).alloc (Nat.le_refl _) _
                have s2 : w2.heap.size = w1.heap.size + 1 := by rw [hw2]; exact World.size_alloc _ _
                obtain ⟨bs, hbs⟩ : ∃ bs, bs = w2.heap.size := ⟨_, rfl⟩
                have hbs1 : w1.heap.size < bs := by omega
                have hbs2 : bs ≤ w2.heap.size := by omega
                have HW2 := Lib.hid hw2
                have B2 := Lib.hid b2
                have L2 := Lib.hid l2
                clear hw2 b2 l2 s2 hbs hblen hbl
                generalize hmm : 512 / c = m at *
                go_wp2_with fail
                rw [← HW2.out]
                go_loopw [12] (fun v wr => ∃ (k bv : Nat) (A : Option Addr) (cap1 : Nat), k ≤ m ∧ v = .int .i64 bv ∧ bv ≤ 512 ∧ bs ≤ wr.heap.size ∧ Hid (bv = k * c) ∧ Hid (Blk wr w1.heap.size 72 #[.int .i64 (c : Nat), .slice A k cap1, .slice none 0 0]) ∧ Hid (wr.ownsRow bs 3 1 (.slice A k cap1) k (ints ((blks at1 c).take k))) ∧ Hid (Below w1.heap.size w1 wr)) (fun v _ => 513 - (intOf v).toNat)
                case atStart => exact ⟨0, 0, none, 0, Nat.zero_le _, rfl, Nat.zero_le _, hbs2, Lib.hid (Nat.zero_mul _).symm, B2, Lib.hid (World.ownsRow_nil _ _ _ _), L2⟩
                case round =>
                  obtain ⟨k, bv, A, cap1, hk, rfl, hbv, hbw, hkb, hBk, hRw, hLw⟩ := hrel
                  have q0 : wr.cell? ⟨w1.heap.size, 0, none⟩ = some (.int .i64 (c : Nat)) := hBk.out.cell 0
                  have q1 : wr.cell? ⟨w1.heap.size, 1, none⟩ = some (.slice A k cap1) := hBk.out.cell 1
                  have q2 : wr.cell? ⟨w1.heap.size, 2, none⟩ = some (.slice none 0 0) := hBk.out.cell 2
                  by_cases hkm : k < m
                  · have hbc : bv + c ≤ 512 := by
                      have := Nat.mul_le_mul_right c hkm
                      rw [Nat.succ_mul, hmul, ← hkb.out] at this
                      exact this
                    obtain ⟨y, hy⟩ : ∃ y, y = blk at1 c k := ⟨_, rfl⟩
                    have hyi : 512 * ((at1 : Nat) : Int) + ((bv : Nat) : Int) = (y : Nat) := by
                      rw [hy]
                      unfold blk
                      rw [← hkb.out]
                      omega
                    have hyt : (blks at1 c).take (k + 1) = (blks at1 c).take k ++ [y] := by
                      rw [List.take_add_one]
                      congr 1
                      rw [hy]
                      unfold blks
                      rw [hmm]
                      simp [hkm]
                    have HYT := Lib.hid hyt
                    have hkb2 : Hid (bv + c = (k + 1) * c) := Lib.hid (by rw [Nat.succ_mul, hkb.out])
                    have hyb : y ≤ 65536 := by rw [hy]; have := mem_le HC.out (mem_blks.2 ⟨k, by rw [hmm]; exact hkm, rfl⟩ : blk at1 c k ∈ blks at1 c); omega
                    have RA := Lib.hid (World.ownsRow.alloc hRw.out (.cells #[.int .i64 (y : Nat)] 3))
                    have SG := Lib.hid (sg_one wr y)
                    have hd5 : ((bv : Nat) : Int) < 512 := by omega
                    clear hy hyt
                    go_wp2_with (at_builtin; refine wpList_app rfl (.tmp 75) (.tmp 80) rfl bs ⟨0, wr.heap.size + 1⟩ k 1 1 _ ((blks at1 c).take k) [y] (some ⟨wr.heap.size, 0, none⟩) rfl RA.out rfl SG.out rfl (fun h => by cases h) (by omega) (by simp; omega) ?_)
                    intro v5 w5 hown hgrow
                    have l5 := below_of_grown hgrow (B := bs) (by simp; omega) (fun r e => (World.ownsRow.lt RA.out r e).1)
                    have b5 := (hBk.out.alloc (.cells #[.int .i64 (y : Nat)] 3)).below l5 hbs1
                    have L5 := Lib.hid ((hLw.out.alloc (by omega) (.cells #[.int .i64 (y : Nat)] 3)).trans (l5.mono (by omega)))
                    have hs5 : bs ≤ w5.heap.size := Nat.le_trans (by simp; omega) l5.size
                    obtain ⟨A5, c5, hv5⟩ := row_form hown
                    subst hv5
                    rw [← HYT.out] at hown
                    have f1 : w5.cell? ⟨w1.heap.size, 1, none⟩ = some (.slice A k cap1) := b5.cell 1
                    have fz := b5.frozen 1
                    have O5 := Lib.hid hown
                    have B5 := Lib.hid b5
                    clear hown hgrow l5 b5
                    go_wp2
                    go_roundw
                    case rel =>
                      have o6 : Only w1.heap.size w5 (w5.setCell ⟨w1.heap.size, 1, none⟩ (.slice A5 (k + 1) c5)) := Only.setCellAt _ _ _ _
                      exact ⟨k + 1, bv + c, A5, c5, hkm, by go_num, hbc, Nat.le_trans hs5 (Nat.le_of_eq o6.size.symm), hkb2, Lib.hid (B5.out.put 1 _), Lib.hid (row_keep O5.out fun k h1 h2 => o6.block k (by omega)), Lib.hid (L5.out.trans (o6.below (Nat.le_refl _)))⟩
                    case measure => simp [intOf]; omega
                  · obtain rfl : k = m := by omega
                    have hb5 : bv = 512 := by rw [hkb.out, hmul]
                    have hrow := hRw.out
                    rw [List.take_of_length_le (by rw [HBLEN.out]; exact Nat.le_refl _)] at hrow
                    obtain ⟨sg1, sg2, sg3, sg4⟩ := sg_row (B := B) hrow (fun k hk => by have := B1.out.size; omega)
                    have hww := with_ok (R1.out.keep (Kb.below (B := B) hLw.out)) at1 hat (c, blks at1 c) [] ⟨A, cap1, none, 0⟩ ⟨sg1, Sg.nil _ _ _, by rw [sg2]; exact sg3, Nat.zero_le _, sg4, fun _ => rfl⟩ (by have := B1.out.size; omega)
                    rw [show (c, blks at1 c).2.length = k from sg2, updT_nil HTN.out] at hww
                    have HWW := Lib.hid hww
                    clear hrow sg1 sg2 sg3 sg4 hww
                    subst hb5
                    go_wp2_with fail
                    refine HWW.out.mono ?_
                    rintro e wX ⟨gX, cX, rfl, hRX, hBX⟩
                    have RX := Lib.hid (show Rf wX B gX cX n (asg s at1 c) T _ from hRX)
                    have BX := Lib.hid (B1.out.trans ((hLw.out.trans (hBX.mono hLw.out.size)).mono B1.out.size))
                    obtain ⟨QX, hQX⟩ : ∃ QX, QX = updQ Q at1 ⟨A, cap1, none, 0⟩ := ⟨_, rfl⟩
                    rw [← hQX] at RX
                    have hs := HS.out
                    clear hRX hBX hQX HWW q0 q1 q2 hkb hBk hRw
                    obtain ⟨e0, e1, e2⟩ := RX.out.cells at1 hat
                    unfold rc0 at e0
                    unfold rc1 at e1
                    unfold rc2 at e2
                    rw [hs] at e0 e1
                    dsimp only at e0 e1
                    have hPX := RX.out.ok at1 hat
                    rw [hs] at hPX
                    have hTt : (T) at1 = T at1 := rfl
                    rw [hTt] at hPX e2
                    have ht32 : (T at1).length ≤ 32 := by rw [HT.out.len]; exact Pool.cnt_le _ _
                    obtain ⟨fb, fo, hfa, hfB, hfl, hfc⟩ := hPX.free 0 a rfl
                    have hk1 := hPX.l1
                    have hk2 := hPX.l2
                    rw [hfa] at e1
                    rw [Nat.add_zero] at hfc
                    have HPX := Lib.hid hPX
                    have HSS := Lib.hid hs
                    clear hPX hs hTt
                    obtain ⟨qx, hqx⟩ : ∃ qx, qx = QX at1 := ⟨_, rfl⟩
                    rw [← hqx] at e1 e2 HPX hk1 hk2 hfa
                    replace hfa := Lib.hid hfa
                    clear hqx
                    obtain ⟨Tt, hTT⟩ : ∃ Tt, Tt = T at1 := ⟨_, rfl⟩
                    rw [← hTT] at e2 HPX hk2 ht32
                    have HTT := Lib.hid hTT.symm
                    clear hTT
                    generalize hk1e : qx.k1 = k1 at *
                    dsimp only [List.length_cons] at hk1
                    by_cases hk1b : k1 = 1
                    · obtain rfl : l = [] := List.eq_nil_of_length_eq_zero (by omega)
                      subst hk1b
                      have hfc2 := cell_al (.cells #[.int .i64 (c : Nat), .slice (some ⟨fb, fo, none⟩) 1 1, .slice qx.a2 Tt.length qx.k2] 72) hfc
                      obtain ⟨w2, hw2⟩ : ∃ w2, w2 = wX.alloc (.cells #[.int .i64 (c : Nat), .slice (some ⟨fb, fo, none⟩) 0 0, .slice qx.a2 Tt.length qx.k2] 72) := ⟨_, rfl⟩
                      have b2 : Blk w2 wX.heap.size 72 #[.int .i64 (c : Nat), .slice (some ⟨fb, fo, none⟩) 0 0, .slice qx.a2 Tt.length qx.k2] := by rw [hw2]; exact Blk.new _ _ _
                      have s2 : w2.heap.size = wX.heap.size + 1 := by rw [hw2]; exact World.size_alloc _ _
                      have l2 : Below wX.heap.size wX w2 := by rw [hw2]; exact (Below.refl _ _).alloc (Nat.le_refl _) _
                      obtain ⟨w3, hw3⟩ : ∃ w3, w3 = w2.alloc (.cells #[] 3) := ⟨_, rfl⟩
                      have s3 : w3.heap.size = wX.heap.size + 2 := by rw [hw3, World.size_alloc, s2]
                      have b3 := b2.alloc (.cells #[] 3)
                      rw [← hw3] at b3
                      have l3 : Below wX.heap.size wX w3 := by rw [hw3]; exact l2.alloc (by omega) _
                      have o3 := row_none1 w2 w2.heap.size (Nat.le_refl _)
                      rw [← hw3] at o3
                      obtain ⟨bs, hbs⟩ : ∃ bs, bs = w2.heap.size := ⟨_, rfl⟩
                      rw [← hbs] at o3
                      rw [show (Value.slice (some ⟨bs, 0, none⟩) 0 0) = Value.slice (some ⟨wX.heap.size + 1, 0, none⟩) 0 0 by rw [hbs, s2]] at o3
                      have hbs1 : wX.heap.size < bs := by omega
                      have hbs2 : bs ≤ w3.heap.size := by omega
                      have hbs3 : bs ≤ wX.heap.size + 1 := by omega
                      have SG3 := Lib.hid (HPX.out.taken.keep (Kb.below (B := B) l3))
                      have HW2 := Lib.hid hw2
                      have HW3 := Lib.hid hw3
                      have B3 := Lib.hid b3
                      have L3 := Lib.hid l3
                      have O3 := Lib.hid o3
                      clear hw2 hw3 b2 b3 l2 l3 o3 hbs s2
                      go_wp2_with (at_builtin; rw [← HW2.out, ← HW3.out]; refine wpList_app rfl (.tmp 99) (.tmp 101) rfl bs B 0 Tt.length qx.k2 (.slice (some ⟨wX.heap.size + 1, 0, none⟩) 0 0) [] Tt qx.a2 rfl O3.out rfl SG3.out rfl HPX.out.z2 (by omega) (by omega) ?_)
                      intro v4 w4 hown hgrow
                      have hown' : w4.ownsRow bs 3 1 v4 Tt.length (ints Tt) := hown
                      have l4 : Below bs w3 w4 := below_of_grown hgrow hbs2 (fun r e => by cases e; show bs ≤ wX.heap.size + 1; omega)
                      have hs4 : bs ≤ w4.heap.size := Nat.le_trans hbs2 l4.size
                      have B4 := Lib.hid (B3.out.below l4 hbs1)
                      have L4 := Lib.hid (L3.out.trans (l4.mono (by omega)))
                      have O4 := Lib.hid (World.ownsRow.alloc hown' (.cells #[.int .i64 (a : Nat)] 3))
                      have SG4 := Lib.hid (sg_one w4 a)
                      clear hown hown' hgrow l4 s3
                      go_wp2_with (at_builtin; refine wpList_app rfl (.tmp 102) (.tmp 104) rfl bs ⟨0, w4.heap.size + 1⟩ Tt.length 1 1 v4 Tt [a] (some ⟨w4.heap.size, 0, none⟩) rfl O4.out rfl SG4.out rfl (fun h => by cases h) (by omega) (by simp; omega) ?_)
                      intro v5 w5 hown hgrow
                      have l5 : Below bs (w4.alloc (.cells #[.int .i64 (a : Nat)] 3)) w5 := below_of_grown hgrow (by simp; omega) (fun r e => (World.ownsRow.lt O4.out r e).1)
                      have hs5 : bs ≤ w5.heap.size := Nat.le_trans (by simp; omega) l5.size
                      have b5 := (B4.out.alloc (.cells #[.int .i64 (a : Nat)] 3)).below l5 hbs1
                      have L5 := Lib.hid ((L4.out.alloc (by omega) (.cells #[.int .i64 (a : Nat)] 3)).trans (l5.mono (by omega)))
                      obtain ⟨A5, c5, hv5⟩ := row_form hown
                      subst hv5
                      have g0 : w5.cell? ⟨wX.heap.size, 0, none⟩ = some (.int .i64 (c : Nat)) := b5.cell 0
                      have g1' : w5.cell? ⟨wX.heap.size, 1, none⟩ = some (.slice (some ⟨fb, fo, none⟩) 0 0) := b5.cell 1
                      have g2 : w5.cell? ⟨wX.heap.size, 2, none⟩ = some (.slice qx.a2 Tt.length qx.k2) := b5.cell 2
                      have gz := b5.frozen 2
                      have O5 := Lib.hid hown
                      clear hown hgrow l5 b5
                      go_wp2_with fail
                      obtain ⟨w6, hw6⟩ : ∃ w6, w6 = w5.setCell ⟨wX.heap.size, 2, none⟩ (.slice A5 (Tt.length + 1) c5) := ⟨_, rfl⟩
                      rw [← hw6]
                      have o6 : Only wX.heap.size w5 w6 := by rw [hw6]; exact Only.setCellAt _ _ _ _
                      have bl6 : Below wX.heap.size wX w6 := L5.out.trans (o6.below (Nat.le_refl _))
                      have sgA := sg_row (B := B) (row_keep O5.out (w' := w6) fun k h1 h2 => o6.block k (by omega)) (fun k hk => by have := BX.out.size; omega)
                      have sgF : Sg w6 B (some ⟨fb, fo, none⟩) [] := Sg.nil _ _ _
                      have HP6 : Pok w6 B (c, []) (Tt ++ [a]) ⟨(some ⟨fb, fo, none⟩), 0, A5, c5⟩ := ⟨sgF, sgA.1, Nat.zero_le _, by rw [List.length_append]; exact sgA.2.2.1, (fun h => nomatch h), sgA.2.2.2⟩
                      have hsz6 : B.b ≤ w6.heap.size ∧ B.t < w6.heap.size := by have := bl6.size; have := BX.out.size; omega
                      have hww := with_ok (RX.out.keep (Kb.below (B := B) bl6)) at1 hat (c, []) (Tt ++ [a]) ⟨(some ⟨fb, fo, none⟩), 0, A5, c5⟩ HP6 hsz6
                      rw [List.length_append] at hww
                      refine hww.mono ?_
                      rintro e w7 ⟨g', cp', rfl, hR7, hB7⟩
                      have HR7 := Lib.hid hR7
                      have HB7 := Lib.hid (BX.out.trans ((bl6.trans (hB7.mono bl6.size)).mono BX.out.size))
                      clear hR7 hB7 hw6 o6 bl6 sgA sgF HP6 hww hsz6
                      go_wp2
                      go_ret3
                      rw [HFV.out, HFE.out, HFS.out]
                      have eP : popG (asg s at1 c) at1 = put (asg s at1 c) at1 (c, []) := by unfold popG; rw [HSS.out]; rfl
                      have hT3 := HTK.out
                      rw [eP, HTT.out] at hT3
                      rw [eP]
                      exact ⟨g', cp', _, _, rfl, HR7.out, hT3, HB7.out⟩
                    · have hfc2 := cell_al (.cells #[.int .i64 (c : Nat), .slice (some ⟨fb, fo, none⟩) (l.length + 1) k1, .slice qx.a2 Tt.length qx.k2] 72) hfc
                      obtain ⟨w2, hw2⟩ : ∃ w2, w2 = wX.alloc (.cells #[.int .i64 (c : Nat), .slice (some ⟨fb, fo + 1, none⟩) l.length (k1 - 1), .slice qx.a2 Tt.length qx.k2] 72) := ⟨_, rfl⟩
                      have b2 : Blk w2 wX.heap.size 72 #[.int .i64 (c : Nat), .slice (some ⟨fb, fo + 1, none⟩) l.length (k1 - 1), .slice qx.a2 Tt.length qx.k2] := by rw [hw2]; exact Blk.new _ _ _
                      have s2 : w2.heap.size = wX.heap.size + 1 := by rw [hw2]; exact World.size_alloc _ _
                      have l2 : Below wX.heap.size wX w2 := by rw [hw2]; exact (Below.refl _ _).alloc (Nat.le_refl _) _
                      obtain ⟨w3, hw3⟩ : ∃ w3, w3 = w2.alloc (.cells #[] 3) := ⟨_, rfl⟩
                      have s3 : w3.heap.size = wX.heap.size + 2 := by rw [hw3, World.size_alloc, s2]
                      have b3 := b2.alloc (.cells #[] 3)
                      rw [← hw3] at b3
                      have l3 : Below wX.heap.size wX w3 := by rw [hw3]; exact l2.alloc (by omega) _
                      have o3 := row_none1 w2 w2.heap.size (Nat.le_refl _)
                      rw [← hw3] at o3
                      obtain ⟨bs, hbs⟩ : ∃ bs, bs = w2.heap.size := ⟨_, rfl⟩
                      rw [← hbs] at o3
                      rw [show (Value.slice (some ⟨bs, 0, none⟩) 0 0) = Value.slice (some ⟨wX.heap.size + 1, 0, none⟩) 0 0 by rw [hbs, s2]] at o3
                      have hbs1 : wX.heap.size < bs := by omega
                      have hbs2 : bs ≤ w3.heap.size := by omega
                      have hbs3 : bs ≤ wX.heap.size + 1 := by omega
                      have SG3 := Lib.hid (HPX.out.taken.keep (Kb.below (B := B) l3))
                      have HW2 := Lib.hid hw2
                      have HW3 := Lib.hid hw3
                      have B3 := Lib.hid b3
                      have L3 := Lib.hid l3
                      have O3 := Lib.hid o3
                      clear hw2 hw3 b2 b3 l2 l3 o3 hbs s2
                      go_wp2_with (at_builtin; rw [← HW2.out, ← HW3.out]; refine wpList_app rfl (.tmp 99) (.tmp 101) rfl bs B 0 Tt.length qx.k2 (.slice (some ⟨wX.heap.size + 1, 0, none⟩) 0 0) [] Tt qx.a2 rfl O3.out rfl SG3.out rfl HPX.out.z2 (by omega) (by omega) ?_)
                      intro v4 w4 hown hgrow
                      have hown' : w4.ownsRow bs 3 1 v4 Tt.length (ints Tt) := hown
                      have l4 : Below bs w3 w4 := below_of_grown hgrow hbs2 (fun r e => by cases e; show bs ≤ wX.heap.size + 1; omega)
                      have hs4 : bs ≤ w4.heap.size := Nat.le_trans hbs2 l4.size
                      have B4 := Lib.hid (B3.out.below l4 hbs1)
                      have L4 := Lib.hid (L3.out.trans (l4.mono (by omega)))
                      have O4 := Lib.hid (World.ownsRow.alloc hown' (.cells #[.int .i64 (a : Nat)] 3))
                      have SG4 := Lib.hid (sg_one w4 a)
                      clear hown hown' hgrow l4 s3
                      go_wp2_with (at_builtin; refine wpList_app rfl (.tmp 102) (.tmp 104) rfl bs ⟨0, w4.heap.size + 1⟩ Tt.length 1 1 v4 Tt [a] (some ⟨w4.heap.size, 0, none⟩) rfl O4.out rfl SG4.out rfl (fun h => by cases h) (by omega) (by simp; omega) ?_)
                      intro v5 w5 hown hgrow
                      have l5 : Below bs (w4.alloc (.cells #[.int .i64 (a : Nat)] 3)) w5 := below_of_grown hgrow (by simp; omega) (fun r e => (World.ownsRow.lt O4.out r e).1)
                      have hs5 : bs ≤ w5.heap.size := Nat.le_trans (by simp; omega) l5.size
                      have b5 := (B4.out.alloc (.cells #[.int .i64 (a : Nat)] 3)).below l5 hbs1
                      have L5 := Lib.hid ((L4.out.alloc (by omega) (.cells #[.int .i64 (a : Nat)] 3)).trans (l5.mono (by omega)))
                      obtain ⟨A5, c5, hv5⟩ := row_form hown
                      subst hv5
                      have g0 : w5.cell? ⟨wX.heap.size, 0, none⟩ = some (.int .i64 (c : Nat)) := b5.cell 0
                      have g1' : w5.cell? ⟨wX.heap.size, 1, none⟩ = some (.slice (some ⟨fb, fo + 1, none⟩) l.length (k1 - 1)) := b5.cell 1
                      have g2 : w5.cell? ⟨wX.heap.size, 2, none⟩ = some (.slice qx.a2 Tt.length qx.k2) := b5.cell 2
                      have gz := b5.frozen 2
                      have O5 := Lib.hid hown
                      clear hown hgrow l5 b5
                      go_wp2_with fail
                      obtain ⟨w6, hw6⟩ : ∃ w6, w6 = w5.setCell ⟨wX.heap.size, 2, none⟩ (.slice A5 (Tt.length + 1) c5) := ⟨_, rfl⟩
                      rw [← hw6]
                      have o6 : Only wX.heap.size w5 w6 := by rw [hw6]; exact Only.setCellAt _ _ _ _
                      have bl6 : Below wX.heap.size wX w6 := L5.out.trans (o6.below (Nat.le_refl _))
                      have sgA := sg_row (B := B) (row_keep O5.out (w' := w6) fun k h1 h2 => o6.block k (by omega)) (fun k hk => by have := BX.out.size; omega)
                      have sgF : Sg w6 B (some ⟨fb, fo + 1, none⟩) l := fun j y hy => by
                        obtain ⟨b', o', e', h1', h2', h3'⟩ := (HPX.out.free.keep (Kb.below (B := B) bl6)) (j + 1) y (by rw [List.getElem?_cons_succ]; exact hy)
                        rw [hfa.out] at e'
                        cases e'
                        exact ⟨fb, fo + 1, rfl, h1', h2', by rw [show fo + 1 + j = fo + (j + 1) by omega]; exact h3'⟩
                      have HP6 : Pok w6 B (c, l) (Tt ++ [a]) ⟨(some ⟨fb, fo + 1, none⟩), (k1 - 1), A5, c5⟩ := ⟨sgF, sgA.1, (by show l.length ≤ k1 - 1; omega), by rw [List.length_append]; exact sgA.2.2.1, (fun h => nomatch h), sgA.2.2.2⟩
                      have hsz6 : B.b ≤ w6.heap.size ∧ B.t < w6.heap.size := by have := bl6.size; have := BX.out.size; omega
                      have hww := with_ok (RX.out.keep (Kb.below (B := B) bl6)) at1 hat (c, l) (Tt ++ [a]) ⟨(some ⟨fb, fo + 1, none⟩), (k1 - 1), A5, c5⟩ HP6 hsz6
                      rw [List.length_append] at hww
                      refine hww.mono ?_
                      rintro e w7 ⟨g', cp', rfl, hR7, hB7⟩
                      have HR7 := Lib.hid hR7
                      have HB7 := Lib.hid (BX.out.trans ((bl6.trans (hB7.mono bl6.size)).mono BX.out.size))
                      clear hR7 hB7 hw6 o6 bl6 sgA sgF HP6 hww hsz6
                      go_wp2
                      go_ret3
                      rw [HFV.out, HFE.out, HFS.out]
                      have eP : popG (asg s at1 c) at1 = put (asg s at1 c) at1 (c, l) := by unfold popG; rw [HSS.out]; rfl
                      have hT3 := HTK.out
                      rw [eP, HTT.out] at hT3
                      rw [eP]
                      exact ⟨g', cp', _, _, rfl, HR7.out, hT3, HB7.out⟩
        · have hai : ((at1 : Nat) : Int) ≠ 0 := by omega
          have hab : (((at1 : Nat) : Int) == 0) = false := by simpa using hai
          have hpg : pgOf n s (clsOf size) = some at1 := by rw [← HCC.out, hpo.out, if_neg ha0]
          obtain ⟨hat, a, l, hs⟩ := pgOf_spec hpg
          clear hpo hSc
          rw [← HCC.out] at hs
          have hal : alP n s size = some (at1, s) := by unfold alP; rw [hpg]
          have HFV := Lib.hid (show alV n s size = (a : Nat) by unfold alV; rw [HOK.out, hal]; dsimp only; rw [hs]; rfl)
          have HFE := Lib.hid (show alE n s size = 0 by unfold alE; rw [HOK.out, hal]; rfl)
          have HFS := Lib.hid (show alS n s size = popG s at1 by unfold alS; rw [HOK.out, hal]; rfl)
          obtain ⟨k', a', l', s1', hg⟩ := al_got HI.out HFE.out
          have hgk : k' = at1 ∧ a' = a := by
            have h1 := hg.val
            rw [HFV.out] at h1
            have h2 : a' = a := by omega
            have h3 := hg.page.1
            have ha : a ∈ blks at1 (s at1).1 := HI.out.free at1 a (by rw [hs]; simp)
            have h4 := mem_le (isC_of HI.out.toInv0 ha) ha
            have h5 := (isC_of HI.out.toInv0 ha).bd
            refine ⟨?_, h2⟩
            rw [← h3, h2]
            omega
          have HTK := Lib.hid (take_T HT.out HI.out hg)
          rw [hgk.1, hgk.2, HFS.out] at HTK
          clear hg hgk hal hpg
          obtain ⟨e0, e1, e2⟩ := R1.out.cells at1 hat
          unfold rc0 at e0
          unfold rc1 at e1
          unfold rc2 at e2
          rw [hs] at e0 e1
          dsimp only at e0 e1
          have hPX := R1.out.ok at1 hat
          rw [hs] at hPX
          have hTt : (T) at1 = T at1 := rfl
          rw [hTt] at hPX e2
          have ht32 : (T at1).length ≤ 32 := by rw [HT.out.len]; exact Pool.cnt_le _ _
          obtain ⟨fb, fo, hfa, hfB, hfl, hfc⟩ := hPX.free 0 a rfl
          have hk1 := hPX.l1
          have hk2 := hPX.l2
          rw [hfa] at e1
          rw [Nat.add_zero] at hfc
          have HPX := Lib.hid hPX
          have HSS := Lib.hid hs
          clear hPX hs hTt
          obtain ⟨qx, hqx⟩ : ∃ qx, qx = Q at1 := ⟨_, rfl⟩
          rw [← hqx] at e1 e2 HPX hk1 hk2 hfa
          replace hfa := Lib.hid hfa
          clear hqx
          obtain ⟨Tt, hTT⟩ : ∃ Tt, Tt = T at1 := ⟨_, rfl⟩
          rw [← hTT] at e2 HPX hk2 ht32
          have HTT := Lib.hid hTT.symm
          clear hTT
          generalize hk1e : qx.k1 = k1 at *
          dsimp only [List.length_cons] at hk1
          by_cases hk1b : k1 = 1
          · obtain rfl : l = [] := List.eq_nil_of_length_eq_zero (by omega)
            subst hk1b
            have hfc2 := cell_al (.cells #[.int .i64 (c : Nat), .slice (some ⟨fb, fo, none⟩) 1 1, .slice qx.a2 Tt.length qx.k2] 72) hfc
            obtain ⟨w2, hw2⟩ : ∃ w2, w2 = w1.alloc (.cells #[.int .i64 (c : Nat), .slice (some ⟨fb, fo, none⟩) 0 0, .slice qx.a2 Tt.length qx.k2] 72) := ⟨_, rfl⟩
            have b2 : Blk w2 w1.heap.size 72 #[.int .i64 (c : Nat), .slice (some ⟨fb, fo, none⟩) 0 0, .slice qx.a2 Tt.length qx.k2] := by rw [hw2]; exact Blk.new _ _ _
            have s2 : w2.heap.size = w1.heap.size + 1 := by rw [hw2]; exact World.size_alloc _ _
            have l2 : Below w1.heap.size w1 w2 := by rw [hw2]; exact (Below.refl _ _).alloc (Nat.le_refl _) _
            obtain ⟨w3, hw3⟩ : ∃ w3, w3 = w2.alloc (.cells #[] 3) := ⟨_, rfl⟩
            have s3 : w3.heap.size = w1.heap.size + 2 := by rw [hw3, World.size_alloc, s2]
            have b3 := b2.alloc (.cells #[] 3)
            rw [← hw3] at b3
            have l3 : Below w1.heap.size w1 w3 := by rw [hw3]; exact l2.alloc (by omega) _
            have o3 := row_none1 w2 w2.heap.size (Nat.le_refl _)
            rw [← hw3] at o3
            obtain ⟨bs, hbs⟩ : ∃ bs, bs = w2.heap.size := ⟨_, rfl⟩
            rw [← hbs] at o3
            rw [show (Value.slice (some ⟨bs, 0, none⟩) 0 0) = Value.slice (some ⟨w1.heap.size + 1, 0, none⟩) 0 0 by rw [hbs, s2]] at o3
            have hbs1 : w1.heap.size < bs := by omega
            have hbs2 : bs ≤ w3.heap.size := by omega
            have hbs3 : bs ≤ w1.heap.size + 1 := by omega
            have SG3 := Lib.hid (HPX.out.taken.keep (Kb.below (B := B) l3))
            have HW2 := Lib.hid hw2
            have HW3 := Lib.hid hw3
            have B3 := Lib.hid b3
            have L3 := Lib.hid l3
            have O3 := Lib.hid o3
            clear hw2 hw3 b2 b3 l2 l3 o3 hbs s2
            go_wp2_with (at_builtin; rw [← HW2.out, ← HW3.out]; refine wpList_app rfl (.tmp 99) (.tmp 101) rfl bs B 0 Tt.length qx.k2 (.slice (some ⟨w1.heap.size + 1, 0, none⟩) 0 0) [] Tt qx.a2 rfl O3.out rfl SG3.out rfl HPX.out.z2 (by omega) (by omega) ?_)
            intro v4 w4 hown hgrow
            have hown' : w4.ownsRow bs 3 1 v4 Tt.length (ints Tt) := hown
            have l4 : Below bs w3 w4 := below_of_grown hgrow hbs2 (fun r e => by cases e; show bs ≤ w1.heap.size + 1; omega)
            have hs4 : bs ≤ w4.heap.size := Nat.le_trans hbs2 l4.size
            have B4 := Lib.hid (B3.out.below l4 hbs1)
            have L4 := Lib.hid (L3.out.trans (l4.mono (by omega)))
            have O4 := Lib.hid (World.ownsRow.alloc hown' (.cells #[.int .i64 (a : Nat)] 3))
            have SG4 := Lib.hid (sg_one w4 a)
            clear hown hown' hgrow l4 s3
            go_wp2_with (at_builtin; refine wpList_app rfl (.tmp 102) (.tmp 104) rfl bs ⟨0, w4.heap.size + 1⟩ Tt.length 1 1 v4 Tt [a] (some ⟨w4.heap.size, 0, none⟩) rfl O4.out rfl SG4.out rfl (fun h => by cases h) (by omega) (by simp; omega) ?_)
            intro v5 w5 hown hgrow
            have l5 : Below bs (w4.alloc (.cells #[.int .i64 (a : Nat)] 3)) w5 := below_of_grown hgrow (by simp; omega) (fun r e => (World.ownsRow.lt O4.out r e).1)
            have hs5 : bs ≤ w5.heap.size := Nat.le_trans (by simp; omega) l5.size
            have b5 := (B4.out.alloc (.cells #[.int .i64 (a : Nat)] 3)).below l5 hbs1
            have L5 := Lib.hid ((L4.out.alloc (by omega) (.cells #[.int .i64 (a : Nat)] 3)).trans (l5.mono (by omega)))
            obtain ⟨A5, c5, hv5⟩ := row_form hown
            subst hv5
            have g0 : w5.cell? ⟨w1.heap.size, 0, none⟩ = some (.int .i64 (c : Nat)) := b5.cell 0
            have g1' : w5.cell? ⟨w1.heap.size, 1, none⟩ = some (.slice (some ⟨fb, fo, none⟩) 0 0) := b5.cell 1
            have g2 : w5.cell? ⟨w1.heap.size, 2, none⟩ = some (.slice qx.a2 Tt.length qx.k2) := b5.cell 2
            have gz := b5.frozen 2
            have O5 := Lib.hid hown
            clear hown hgrow l5 b5
            go_wp2_with fail
            obtain ⟨w6, hw6⟩ : ∃ w6, w6 = w5.setCell ⟨w1.heap.size, 2, none⟩ (.slice A5 (Tt.length + 1) c5) := ⟨_, rfl⟩
            rw [← hw6]
            have o6 : Only w1.heap.size w5 w6 := by rw [hw6]; exact Only.setCellAt _ _ _ _
            have bl6 : Below w1.heap.size w1 w6 := L5.out.trans (o6.below (Nat.le_refl _))
            have sgA := sg_row (B := B) (row_keep O5.out (w' := w6) fun k h1 h2 => o6.block k (by omega)) (fun k hk => by have := B1.out.size; omega)
            have sgF : Sg w6 B (some ⟨fb, fo, none⟩) [] := Sg.nil _ _ _
            have HP6 : Pok w6 B (c, []) (Tt ++ [a]) ⟨(some ⟨fb, fo, none⟩), 0, A5, c5⟩ := ⟨sgF, sgA.1, Nat.zero_le _, by rw [List.length_append]; exact sgA.2.2.1, (fun h => nomatch h), sgA.2.2.2⟩
            have hsz6 : B.b ≤ w6.heap.size ∧ B.t < w6.heap.size := by have := bl6.size; have := B1.out.size; omega
            have hww := with_ok (R1.out.keep (Kb.below (B := B) bl6)) at1 hat (c, []) (Tt ++ [a]) ⟨(some ⟨fb, fo, none⟩), 0, A5, c5⟩ HP6 hsz6
            rw [List.length_append] at hww
            refine hww.mono ?_
            rintro e w7 ⟨g', cp', rfl, hR7, hB7⟩
            have HR7 := Lib.hid hR7
            have HB7 := Lib.hid (B1.out.trans ((bl6.trans (hB7.mono bl6.size)).mono B1.out.size))
            clear hR7 hB7 hw6 o6 bl6 sgA sgF HP6 hww hsz6
            go_wp2
            go_ret3
            rw [HFV.out, HFE.out, HFS.out]
            have eP : popG s at1 = put s at1 (c, []) := by unfold popG; rw [HSS.out]; rfl
            have hT3 := HTK.out
            rw [eP, HTT.out] at hT3
            rw [eP]
            exact ⟨g', cp', _, _, rfl, HR7.out, hT3, HB7.out⟩
          · have hfc2 := cell_al (.cells #[.int .i64 (c : Nat), .slice (some ⟨fb, fo, none⟩) (l.length + 1) k1, .slice qx.a2 Tt.length qx.k2] 72) hfc
            obtain ⟨w2, hw2⟩ : ∃ w2, w2 = w1.alloc (.cells #[.int .i64 (c : Nat), .slice (some ⟨fb, fo + 1, none⟩) l.length (k1 - 1), .slice qx.a2 Tt.length qx.k2] 72) := ⟨_, rfl⟩
            have b2 : Blk w2 w1.heap.size 72 #[.int .i64 (c : Nat), .slice (some ⟨fb, fo + 1, none⟩) l.length (k1 - 1), .slice qx.a2 Tt.length qx.k2] := by rw [hw2]; exact Blk.new _ _ _
            have s2 : w2.heap.size = w1.heap.size + 1 := by rw [hw2]; exact World.size_alloc _ _
            have l2 : Below w1.heap.size w1 w2 := by rw [hw2]; exact (Below.refl _ _).alloc (Nat.le_refl _) _
            obtain ⟨w3, hw3⟩ : ∃ w3, w3 = w2.alloc (.cells #[] 3) := ⟨_, rfl⟩
            have s3 : w3.heap.size = w1.heap.size + 2 := by rw [hw3, World.size_alloc, s2]
            have b3 := b2.alloc (.cells #[] 3)
            rw [← hw3] at b3
            have l3 : Below w1.heap.size w1 w3 := by rw [hw3]; exact l2.alloc (by omega) _
            have o3 := row_none1 w2 w2.heap.size (Nat.le_refl _)
            rw [← hw3] at o3
            obtain ⟨bs, hbs⟩ : ∃ bs, bs = w2.heap.size := ⟨_, rfl⟩
            rw [← hbs] at o3
            rw [show (Value.slice (some ⟨bs, 0, none⟩) 0 0) = Value.slice (some ⟨w1.heap.size + 1, 0, none⟩) 0 0 by rw [hbs, s2]] at o3
            have hbs1 : w1.heap.size < bs := by omega
            have hbs2 : bs ≤ w3.heap.size := by omega
            have hbs3 : bs ≤ w1.heap.size + 1 := by omega
            have SG3 := Lib.hid (HPX.out.taken.keep (Kb.below (B := B) l3))
            have HW2 := Lib.hid hw2
            have HW3 := Lib.hid hw3
            have B3 := Lib.hid b3
            have L3 := Lib.hid l3
            have O3 := Lib.hid o3
            clear hw2 hw3 b2 b3 l2 l3 o3 hbs s2
            go_wp2_with (at_builtin; rw [← HW2.out, ← HW3.out]; refine wpList_app rfl (.tmp 99) (.tmp 101) rfl bs B 0 Tt.length qx.k2 (.slice (some ⟨w1.heap.size + 1, 0, none⟩) 0 0) [] Tt qx.a2 rfl O3.out rfl SG3.out rfl HPX.out.z2 (by omega) (by omega) ?_)
            intro v4 w4 hown hgrow
            have hown' : w4.ownsRow bs 3 1 v4 Tt.length (ints Tt) := hown
            have l4 : Below bs w3 w4 := below_of_grown hgrow hbs2 (fun r e => by cases e; show bs ≤ w1.heap.size + 1; omega)
            have hs4 : bs ≤ w4.heap.size := Nat.le_trans hbs2 l4.size
            have B4 := Lib.hid (B3.out.below l4 hbs1)
            have L4 := Lib.hid (L3.out.trans (l4.mono (by omega)))
            have O4 := Lib.hid (World.ownsRow.alloc hown' (.cells #[.int .i64 (a : Nat)] 3))
            have SG4 := Lib.hid (sg_one w4 a)
            clear hown hown' hgrow l4 s3
            go_wp2_with (at_builtin; refine wpList_app rfl (.tmp 102) (.tmp 104) rfl bs ⟨0, w4.heap.size + 1⟩ Tt.length 1 1 v4 Tt [a] (some ⟨w4.heap.size, 0, none⟩) rfl O4.out rfl SG4.out rfl (fun h => by cases h) (by omega) (by simp; omega) ?_)
            intro v5 w5 hown hgrow
            have l5 : Below bs (w4.alloc (.cells #[.int .i64 (a : Nat)] 3)) w5 := below_of_grown hgrow (by simp; omega) (fun r e => (World.ownsRow.lt O4.out r e).1)
            have hs5 : bs ≤ w5.heap.size := Nat.le_trans (by simp; omega) l5.size
            have b5 := (B4.out.alloc (.cells #[.int .i64 (a : Nat)] 3)).below l5 hbs1
            have L5 := Lib.hid ((L4.out.alloc (by omega) (.cells #[.int .i64 (a : Nat)] 3)).trans (l5.mono (by omega)))
            obtain ⟨A5, c5, hv5⟩ := row_form hown
            subst hv5
            have g0 : w5.cell? ⟨w1.heap.size, 0, none⟩ = some (.int .i64 (c : Nat)) := b5.cell 0
            have g1' : w5.cell? ⟨w1.heap.size, 1, none⟩ = some (.slice (some ⟨fb, fo + 1, none⟩) l.length (k1 - 1)) := b5.cell 1
            have g2 : w5.cell? ⟨w1.heap.size, 2, none⟩ = some (.slice qx.a2 Tt.length qx.k2) := b5.cell 2
            have gz := b5.frozen 2
            have O5 := Lib.hid hown
            clear hown hgrow l5 b5
            go_wp2_with fail
            obtain ⟨w6, hw6⟩ : ∃ w6, w6 = w5.setCell ⟨w1.heap.size, 2, none⟩ (.slice A5 (Tt.length + 1) c5) := ⟨_, rfl⟩
            rw [← hw6]
            have o6 : Only w1.heap.size w5 w6 := by rw [hw6]; exact Only.setCellAt _ _ _ _
            have bl6 : Below w1.heap.size w1 w6 := L5.out.trans (o6.below (Nat.le_refl _))
            have sgA := sg_row (B := B) (row_keep O5.out (w' := w6) fun k h1 h2 => o6.block k (by omega)) (fun k hk => by have := B1.out.size; omega)
            have sgF : Sg w6 B (some ⟨fb, fo + 1, none⟩) l := fun j y hy => by
              obtain ⟨b', o', e', h1', h2', h3'⟩ := (HPX.out.free.keep (Kb.below (B := B) bl6)) (j + 1) y (by rw [List.getElem?_cons_succ]; exact hy)
              rw [hfa.out] at e'
              cases e'
              exact ⟨fb, fo + 1, rfl, h1', h2', by rw [show fo + 1 + j = fo + (j + 1) by omega]; exact h3'⟩
            have HP6 : Pok w6 B (c, l) (Tt ++ [a]) ⟨(some ⟨fb, fo + 1, none⟩), (k1 - 1), A5, c5⟩ := ⟨sgF, sgA.1, (by show l.length ≤ k1 - 1; omega), by rw [List.length_append]; exact sgA.2.2.1, (fun h => nomatch h), sgA.2.2.2⟩
            have hsz6 : B.b ≤ w6.heap.size ∧ B.t < w6.heap.size := by have := bl6.size; have := B1.out.size; omega
            have hww := with_ok (R1.out.keep (Kb.below (B := B) bl6)) at1 hat (c, l) (Tt ++ [a]) ⟨(some ⟨fb, fo + 1, none⟩), (k1 - 1), A5, c5⟩ HP6 hsz6
            rw [List.length_append] at hww
            refine hww.mono ?_
            rintro e w7 ⟨g', cp', rfl, hR7, hB7⟩
            have HR7 := Lib.hid hR7
            have HB7 := Lib.hid (B1.out.trans ((bl6.trans (hB7.mono bl6.size)).mono B1.out.size))
            clear hR7 hB7 hw6 o6 bl6 sgA sgF HP6 hww hsz6
            go_wp2
            go_ret3
            rw [HFV.out, HFE.out, HFS.out]
            have eP : popG s at1 = put s at1 (c, l) := by unfold popG; rw [HSS.out]; rfl
            have hT3 := HTK.out
            rw [eP, HTT.out] at hT3
            rw [eP]
            exact ⟨g', cp', _, _, rfl, HR7.out, hT3, HB7.out⟩
end
end Go.Proofs.YthblpnnbkjhmhaaDoor
