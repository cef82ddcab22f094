/- The contract of the document's Text. No condition. -/
import Derived.Test.YtcedjjolikmbbaaDoorJTextM
import Derived.Test.YtcedjjolikmbbaaDoorJCheck
import Derived.Test.YtcedjjolikmbbaaDoorJDec
import Derived.Deep.CutRange
namespace Go.Proofs.YtcedjjolikmbbaaDoor
open Go.RowKit
set_option maxRecDepth 100000
set_option maxHeartbeats 2000000
theorem run_cut1 {l : List UInt8} {k : Nat} {c : UInt8} (h : l[k]? = some c) (w : World) : (Instr.slice 9 (.string (st l)) (some (.int .i64 (k : Int))) (some (.int .i64 ((k : Int) + 1))) none).run Tryd.prog w = .ok (.string (st [c])) w := by
  have hl : k < l.length := (List.getElem?_eq_some_iff.1 h).1
  have he : l[k] = c := (List.getElem?_eq_some_iff.1 h).2
  have hs : (st l).size = l.length := st_size l
  rw [run_slice_string _ _ _ _ _ _ _ (by kernel_rfl) (by omega) (by omega) (by rw [hs]; omega)]
  congr 2
  apply ByteArray.ext
  apply Array.ext'
  rw [show ((k : Int)).toNat = k by omega, show ((k : Int) + 1).toNat = k + 1 by omega]
  simp [st, ByteArray.data_extract]
  rw [List.drop_eq_getElem_cons hl, he]
  rfl
/-- The ways of the first word. -/
theorem rfw_ways {i : In} (o1 : 1 ≤ i.op) (o2 : i.op ≤ 15) (hfit : ∀ p ∈ nmN i.op, rfits i p = true) :
    ((0 < (woN i.op).length ∧ i.op ≠ 14 ∧ 1 ≤ i.c ∧ i.c ≤ (woN i.op).length) ∧ ((st (fiN i.op) = ⟨#[]⟩ ∧ rfw i = rwo i) ∨ (st (fiN i.op) = ⟨#[105]⟩ ∧ rfw i = rwo i ++ [105]) ∨ (st (fiN i.op) = ⟨#[106]⟩ ∧ rfw i = 106 :: rwo i) ∨ (st (fiN i.op) = ⟨#[106, 105]⟩ ∧ rfw i = 106 :: (rwo i ++ [105]))))
    ∨ ((¬ 0 < (woN i.op).length ∨ (0 < (woN i.op).length ∧ i.op = 14)) ∧ rfw i = fiN i.op) := by
  have hc : (0 < (woN i.op).length ∧ i.op ≠ 14) → 1 ≤ i.c ∧ i.c ≤ (woN i.op).length := fun h => by
    have := hfit (67, 119) (by unfold nmN; rw [if_pos h]; simp)
    simpa [rfits, rfit, rvl] using this
  obtain ⟨op, a, b, c, im⟩ := i
  simp only at o1 o2 hc ⊢
  clear hfit
  rcases fifteen o1 o2 with rfl | rfl | rfl | rfl | rfl | rfl | rfl | rfl | rfl | rfl | rfl | rfl | rfl | rfl | rfl
  · exact .inr ⟨.inl (by decide), rfl⟩
  · exact .inr ⟨.inl (by decide), rfl⟩
  · exact .inl ⟨⟨by decide, by decide, hc (by decide)⟩, .inl ⟨rfl, rfl⟩⟩
  · exact .inl ⟨⟨by decide, by decide, hc (by decide)⟩, .inr (.inl ⟨rfl, rfl⟩)⟩
  · exact .inr ⟨.inl (by decide), rfl⟩
  · exact .inl ⟨⟨by decide, by decide, hc (by decide)⟩, .inr (.inr (.inl ⟨rfl, rfl⟩))⟩
  · exact .inl ⟨⟨by decide, by decide, hc (by decide)⟩, .inr (.inr (.inr ⟨rfl, rfl⟩))⟩
  · exact .inr ⟨.inl (by decide), rfl⟩
  · exact .inr ⟨.inl (by decide), rfl⟩
  · exact .inr ⟨.inl (by decide), rfl⟩
  · exact .inr ⟨.inl (by decide), rfl⟩
  · exact .inr ⟨.inl (by decide), rfl⟩
  · exact .inr ⟨.inl (by decide), rfl⟩
  · exact .inr ⟨.inr (by decide), rfl⟩
  · exact .inr ⟨.inl (by decide), rfl⟩
section
variable {w : World}
theorem rtext_any (i : In) (hi : i.ok) : Calls Tryd.prog 12 #[iv i] w fun e w' => e = .returned (.tuple #[sv (tx i), .int .i64 (ck i : Int)]) ∧ Below w.heap.size w w' := by
  have HI := Lib.hid hi
  have CK := Lib.hid (fun W => rcheck6_any (w := W) i hi)
  rw [rck_ck i hi] at CK
  by_cases h0 : ck i = 0
  · obtain ⟨⟨o1, o2⟩, hfit⟩ := ck_fit hi h0
    have HTX := Lib.hid (rtx_tx hi h0)
    have HFW := Lib.hid (rfw_fw hi h0)
    have HWAY := Lib.hid (rfw_ways o1 o2 hfit)
    have HRW := Lib.hid (show rwo i = (woN i.op).getD (i.c - 1) [] from rfl)
    have HLEN := Lib.hid (fun j => rtxL_len hi ((paN i.op).take j) (fw i))
    have HFWL := Lib.hid (fw_len i)
    have HRS := Lib.hid (fun j p h => @rtxL_succ i (paN i.op) j p h (fw i))
    have HFIT := Lib.hid (show ∀ p ∈ paN i.op, rfit (rvl i p.1) p.2 (woN i.op).length = true from fun p hp => hfit p (by unfold nmN; split; (· exact List.mem_append_left _ hp); (· exact hp)))
    have HWD := Lib.hid (show ∀ p, rwd i p = if p.2 = 114 ∨ p.2 = 120 then 114 :: Lib.decDigits (rvl i p.1) else if p.2 = 115 ∨ p.2 = 102 ∨ p.2 = 43 then p.2 :: Lib.decDigits (rvl i p.1) else if p.2 = 119 then (woN i.op).getD (rvl i p.1 - 1) [] else Lib.decDigits (rvl i p.1) from fun p => rfl)
    have HWL := Lib.hid (fun v => wo_len i.op v)
    have HPA := Lib.hid (fun W => @rparts_any W i.op o1 o2)
    have HWO := Lib.hid (fun W => @rwords_any W i.op o1 o2)
    have n2 := (nmN_len o1 o2).2.1
    have n3 := (nmN_len o1 o2).2.2
    have hns : (st (fl (paN i.op))).size = 2 * (paN i.op).length := by rw [st_size, fl_len]
    have HIX := Lib.hid (fun (j : Nat) p (h : (paN i.op)[j]? = some p) W => show (Instr.index 9 (.string (st (fl (paN i.op)))) (.int .i64 (2 * (j : Int)))).run Tryd.prog W = .ok (.int .u8 (p.1.toNat : Int)) W from run_ixs (k := 2 * j) (fl_at h).1 W)
    have HIY := Lib.hid (fun (j : Nat) p (h : (paN i.op)[j]? = some p) W => show (Instr.index 9 (.string (st (fl (paN i.op)))) (.int .i64 (2 * (j : Int) + 1))).run Tryd.prog W = .ok (.int .u8 (p.2.toNat : Int)) W from run_ixs (k := 2 * j + 1) (fl_at h).2 W)
    have HSL := Lib.hid (fun (j : Nat) p (h : (paN i.op)[j]? = some p) W => show (Instr.slice 9 (.string (st (fl (paN i.op)))) (some (.int .i64 (2 * (j : Int) + 1))) (some (.int .i64 (2 * (j : Int) + 2))) none).run Tryd.prog W = .ok (.string (st [p.2])) W from run_cut1 (k := 2 * j + 1) (fl_at h).2 W)
    rw [h0] at CK ⊢
    obtain ⟨op, a, b, c, im⟩ := i
    obtain ⟨hop, ha, hb, hc, him⟩ := hi
    simp only at hop ha hb hc him o1 o2 HWAY HRW HLEN HRS HFIT HWD HWL HPA HWO n2 n3 hns HIX HIY HSL HTX
    have wo := w64 op (by omega)
    have h14 : op ≠ 14 → ((op : Int) != 14) = true := fun h => by simp; omega
    have h14' : op = 14 → ((op : Int) != 14) = false := fun h => by subst h; rfl
    have H14 := Lib.hid (And.intro h14 h14')
    clear h14 h14' hfit h0
    obtain ⟨PA, hPA⟩ : ∃ PA, paN op = PA := ⟨_, rfl⟩
    obtain ⟨S, hS⟩ : ∃ S, st (fl (paN op)) = S := ⟨_, rfl⟩
    obtain ⟨WS, hWS⟩ : ∃ WS, woN op = WS := ⟨_, rfl⟩
    obtain ⟨F, hF⟩ : ∃ F, fiN op = F := ⟨_, rfl⟩
    obtain ⟨I, hI⟩ : ∃ I : In, (⟨op, a, b, c, im⟩ : In) = I := ⟨_, rfl⟩
    obtain ⟨FW, hFW⟩ : ∃ FW, fw I = FW := ⟨_, rfl⟩
    unfold sv at HPA
    simp only [hS] at HIX HIY HSL HPA
    rw [hS] at hns
    simp only [hPA] at HLEN HRS HFIT HIX HIY HSL hns n2 HTX
    simp only [hWS] at HWAY HRW HFIT HWD HWO n3 HWL
    simp only [hF] at HWAY HPA
    have VAL := Lib.hid (fun (W : World) c' => @rvalue_any W ⟨op, a, b, c, im⟩ HI.out c')
    have VLT := Lib.hid (fun c' => rvl_lt HI.out c')
    simp only [iv] at CK VAL ⊢
    simp only [hI] at HWAY HRW HLEN HRS HFIT HWD HTX HFW HFWL VAL VLT
    simp only [hFW] at HLEN HRS HFW HFWL HTX
    rw [hI]
    clear hPA hS hWS hF hI hFW
    obtain ⟨L, hL⟩ : ∃ L, PA.length = L := ⟨_, rfl⟩
    obtain ⟨m, hm⟩ : ∃ m, WS.length = m := ⟨_, rfl⟩
    rw [hL] at hns n2
    simp only [hm] at HWAY HFIT HWO n3
    have HL := Lib.hid hL
    have HM := Lib.hid hm
    clear hL hm
    obtain ⟨w0, hw0⟩ : ∃ w0, w0 = w.alloc (.cells #[.int .u8 (op : Int), .int .u8 (a : Int), .int .u8 (b : Int), .int .u8 (c : Int), .int .u32 (im : Int)] 24) := ⟨_, rfl⟩
    have X0 := Lib.hid (show Below w.heap.size w w0 by rw [hw0]; go_grown)
    have K0 := Lib.hid (show Blk w0 w.heap.size 24 #[.int .u8 (op : Int), .int .u8 (a : Int), .int .u8 (b : Int), .int .u8 (c : Int), .int .u32 (im : Int)] by rw [hw0]; exact Blk.new _ _ _)
    have HW0 := Lib.hid hw0
    obtain ⟨q0, q1, q2, q3, q4⟩ := fiveB (Blk.new w 24 #[.int .u8 (op : Int), .int .u8 (a : Int), .int .u8 (b : Int), .int .u8 (c : Int), .int .u32 (im : Int)])
    clear hw0
    go_enter Tryd.func12, Tryd.ntmps12
    go_wp2_with (go_at_call 14; rw [← HW0.out]; (with_reducible refine (CK.out _).mono ?_); rintro e w1 ⟨rfl, hb1⟩; have X1 := Lib.hid (X0.out.trans (hb1.mono X0.out.size)); have K1 := Lib.hid (K0.out.below hb1 K0.out.lt); clear q0 q1 q2 q3 q4; obtain ⟨q0, q1, q2, q3, q4⟩ := fiveB K1.out; clear hb1)
    go_wp2_with (go_at_call 26; refine (HPA.out _).mono ?_; rintro e w2 ⟨rfl, rfl⟩)
    clear q0 q1 q2 q3 q4
    go_upto_region 8 with (go_at_call 27; refine (HWO.out _).mono ?_; rintro e w3 ⟨A, n, rfl, rfl, hA, hb3⟩; have HA := Lib.hid hA; have X3 := Lib.hid (X1.out.trans (hb3.mono X1.out.size)); have K3 := Lib.hid (K1.out.below hb3 K1.out.lt); clear hb3 hA)
    have HC := Lib.hid (show ∀ v, 1 ≤ v → v ≤ n → ∃ g, A = some ⟨g, 0, none⟩ ∧ g < w3.heap.size ∧ w3.cell? ⟨g, v - 1, none⟩ = some (.string (st (WS.getD (v - 1) []))) from fun v h1 h2 => by
      obtain ⟨e, hk⟩ := HA.out (by omega)
      refine ⟨_, e, hk.lt, ?_⟩
      have := hk.cell (v - 1)
      rw [this]
      have hl : v - 1 < WS.length := by rw [HM.out]; omega
      simp [List.getD_eq_getElem?_getD, hl, sv])
    obtain ⟨B, hB⟩ : ∃ B : Bool, B = true ↔ (0 < n ∧ op ≠ 14) := ⟨decide (0 < n ∧ op ≠ 14), by simp⟩
    have HBB := Lib.hid hB
    clear hB
    go_cut [35] from 29 to 34 (fun v wx => v = .bool B ∧ wx = w3)
    case first =>
      by_cases k1 : 0 < n
      · by_cases k2 : op = 14
        · have n14 := H14.out.2 k2
          have HB0 := Lib.hid (show B = false by cases B; (· rfl); (· exact absurd k2 (HBB.out.1 rfl).2))
          clear k2
          go_wp2_with fail
          go_meet
          exact ⟨by rw [HB0.out], rfl⟩
        · have n14 := H14.out.1 k2
          have HB0 := Lib.hid (HBB.out.2 ⟨k1, k2⟩)
          clear k2
          go_wp2_with fail
          go_meet
          exact ⟨by rw [HB0.out], rfl⟩
      · have HB0 := Lib.hid (show B = false by cases B; (· rfl); (· exact absurd (HBB.out.1 rfl).1 k1))
        go_wp2_with fail
        go_meet
        exact ⟨by rw [HB0.out], rfl⟩
    case rest =>
    obtain ⟨rfl, rfl⟩ := hcut
    go_upto_if 35 with fail
    go_cut [9, 10] from 36 to 56 (fun v u wx => v = .string (st FW) ∧ wx = wc)
    case first =>
      obtain ⟨q0, q1, q2, q3, q4⟩ := fiveB K3.out
      rcases HWAY.out with ⟨⟨k1, k2, k3, k4⟩, hd⟩ | ⟨hd, hr⟩
      · obtain ⟨g, rfl, hg, hcell⟩ := HC.out c k3 k4
        have wc : IntKind.u8.wrap ((c : Int) - 1) = ((c - 1 : Nat) : Int) := by rw [show (c : Int) - 1 = ((c - 1 : Nat) : Int) by omega]; exact w8i _ (by omega)
        have hlt : ((c - 1 : Nat) : Int) < (n : Int) := by omega
        obtain rfl : B = true := HBB.out.2 ⟨k1, k2⟩
        rw [← HRW.out] at hcell
        have zW : (st (rwo I)).size ≤ 20 := by rw [st_size, HRW.out]; exact HWL.out _
        have HFW2 := Lib.hid HFW.out
        generalize rwo I = RW at hcell zW hd
        rcases hd with ⟨hf, hr⟩ | ⟨hf, hr⟩ | ⟨hf, hr⟩ | ⟨hf, hr⟩
        · have hl : (st F).toList = [] := by rw [hf, ByteArray.toList_eq]
          have HE := Lib.hid (hr.symm.trans HFW.out)
          clear hf hr
          go_wp2_with fail
          go_meet
          exact ⟨by rw [← HE.out], rfl⟩
        · have hl : (st F).toList = [105] := by rw [hf, ByteArray.toList_eq]
          have HE := Lib.hid (hr.symm.trans HFW.out)
          have c1 : st RW ++ ⟨#[105]⟩ = st (RW ++ [105]) := st_app RW [105]
          clear hf hr
          go_wp2_with fail
          go_meet
          exact ⟨by rw [← HE.out], rfl⟩
        · have hl : (st F).toList = [106] := by rw [hf, ByteArray.toList_eq]
          have HE := Lib.hid (hr.symm.trans HFW.out)
          have c1 : (⟨#[106]⟩ : ByteArray) ++ st RW = st (106 :: RW) := st_app [106] RW
          clear hf hr
          go_wp2_with fail
          go_meet
          exact ⟨by rw [← HE.out], rfl⟩
        · have hl : (st F).toList = [106, 105] := by rw [hf, ByteArray.toList_eq]
          have HE := Lib.hid (hr.symm.trans HFW.out)
          have c1 : (⟨#[106]⟩ : ByteArray) ++ st RW = st (106 :: RW) := st_app [106] RW
          have z1 : (st (106 :: RW)).size ≤ 21 := by rw [st_size] at zW ⊢; simp; omega
          have c2 : st (106 :: RW) ++ ⟨#[105]⟩ = st (106 :: (RW ++ [105])) := st_app (106 :: RW) [105]
          clear hf hr
          go_wp2_with fail
          go_meet
          exact ⟨by rw [← HE.out], rfl⟩
      · have HE := Lib.hid (hr.symm.trans HFW.out)
        obtain rfl : B = false := by
          cases B
          · rfl
          · exact absurd (HBB.out.1 rfl) (by omega)
        clear hr
        go_wp2_with fail
        go_meet
        exact ⟨by rw [← HE.out], rfl⟩
    case rest =>
    obtain ⟨rfl, rfl⟩ := hcut
    have zF : (st FW).size ≤ 40 := by rw [st_size]; exact HFWL.out
    have HWW := Lib.hid (fun v h1 h2 => HC.out v h1 h2)
    go_wp2_with fail
    go_loopw [9, 11] (fun v q wr => ∃ j : Nat, j ≤ L ∧ q = .int .i64 (2 * (j : Int)) ∧ v = .string (st (rtxL I (PA.take j) FW)) ∧ Hid (Below wc.heap.size wc wr)) (fun _ q _ => 2 * L - (intOf q).toNat)
    case atStart => exact ⟨0, by omega, rfl, rfl, Below.refl _ _⟩
    case round =>
      obtain ⟨j, hj, rfl, rfl, HW⟩ := hrel
      have XW := Lib.hid (X3.out.trans (HW.out.mono X3.out.size))
      have KW := Lib.hid (K3.out.below HW.out K3.out.lt)
      have wj : IntKind.i64.wrap (2 * (j : Int) + 1) = 2 * (j : Int) + 1 := by rw [show 2 * (j : Int) + 1 = ((2 * j + 1 : Nat) : Int) by omega]; exact w64 _ (by omega)
      have wj2 : IntKind.i64.wrap (2 * (j : Int) + 2) = 2 * (j : Int) + 2 := by rw [show 2 * (j : Int) + 2 = ((2 * j + 2 : Nat) : Int) by omega]; exact w64 _ (by omega)
      by_cases hjk : j < L
      · obtain ⟨p, hp⟩ : ∃ p, PA[j]? = some p := ⟨_, List.getElem?_eq_getElem (by rw [HL.out]; exact hjk)⟩
        have ix := HIX.out j p hp
        have iy := HIY.out j p hp
        have sl := HSL.out j p hp
        have HS := Lib.hid (HRS.out j p hp)
        rw [HWD.out p] at HS
        have HFp := Lib.hid (HFIT.out p (List.mem_of_getElem? hp))
        have HQL := Lib.hid (show (rtxL I (PA.take j) FW).length ≤ 124 by have h1 := HLEN.out j; have h2 := HFWL.out; rw [List.length_take] at h1; omega)
        obtain ⟨Q, hQ⟩ : ∃ Q, rtxL I (PA.take j) FW = Q := ⟨_, rfl⟩
        rw [hQ] at HS HQL ⊢
        obtain ⟨V, hV⟩ : ∃ V, rvl I p.1 = V := ⟨_, rfl⟩
        have VA := Lib.hid (fun W => VAL.out W p.1)
        have VL := Lib.hid (VLT.out p.1)
        rw [hV] at HS HFp VA VL
        have DC := Lib.hid (fun W => rdecimal_any 4294967296 V VL.out VL.out W)
        have HDL := Lib.hid (dec_len10 V VL.out)
        unfold sv at DC
        obtain ⟨D, hD⟩ : ∃ D, Lib.decDigits V = D := ⟨_, rfl⟩
        rw [hD] at DC HDL HS
        have hjk' : (j : Int) < L := by omega
        have hc1 : st Q ++ ⟨#[32]⟩ = st (Q ++ [32]) := st_app Q [32]
        obtain ⟨Q1, hQ1⟩ : ∃ Q1, Q ++ [32] = Q1 := ⟨_, rfl⟩
        rw [hQ1] at hc1
        have HQ1 := Lib.hid hQ1
        have hz0 : (st Q).size ≤ 124 := by rw [st_size]; exact HQL.out
        have hz1 : (st Q1).size ≤ 125 := by rw [st_size, ← hQ1]; have := HQL.out; simp; omega
        have hzD : (st D).size ≤ 10 := by rw [st_size]; exact HDL.out
        clear hp hQ hV hD hQ1
        go_upto_region 21 with fail
        go_cut [12] from 63 to 67 (fun v wx => v = .int .u32 (V : Int) ∧ Hid (Below wr.heap.size wr wx))
        case first =>
          have S0 := Lib.hid (fiveB (KW.out.below (Below.drew (Below.refl _ _)) KW.out.lt))
          have YW := Lib.hid (show Below wr.heap.size wr wr.drew from Below.drew (Below.refl _ _))
          go_region_held3 (fun w' => S5 w' w.heap.size (.int .u8 (op : Int)) (.int .u8 (a : Int)) (.int .u8 (b : Int)) (.int .u8 (c : Int)) (.int .u32 (im : Int))) (first | (with_reducible exact S0.out) | (with_reducible exact S2.out) | go_keep) (first
            | (go_at_call 28; (with_reducible refine (VA.out _).mono ?_); rintro e w6 ⟨rfl, hb6⟩; have M6 := Lib.hid (YW.out.trans hb6); have K6 := Lib.hid (KW.out.below M6.out KW.out.lt); have S2 := Lib.hid (fiveB K6.out); clear hb6))
          all_goals
            go_wp2_with fail
            go_meet
            exact ⟨rfl, M6.out⟩
        case rest =>
        obtain ⟨rfl, HM2⟩ := hcut
        clear ix
        have B2 := Lib.hid (HW.out.trans (HM2.out.mono HW.out.size))
        by_cases e1 : p.2 = 114
        · have HE : rtxL I (PA.take (j + 1)) FW = Q1 ++ [114] ++ D := by rw [HS.out, if_pos (by simp [e1]), ← HQ1.out]; simp
          have iy2 := iy
          rw [e1] at iy2
          have hc2 : st Q1 ++ ⟨#[114]⟩ = st (Q1 ++ [114]) := st_app Q1 [114]
          obtain ⟨Q2, hQ2⟩ : ∃ Q2, Q1 ++ [114] = Q2 := ⟨_, rfl⟩
          rw [hQ2] at hc2 HE
          have hz2 : (st Q2).size ≤ 126 := by rw [st_size] at hz1 ⊢; rw [← hQ2]; simp; omega
          have hc3 : st Q2 ++ st D = st (Q2 ++ D) := st_app Q2 D
          obtain ⟨Q3, hQ3⟩ : ∃ Q3, Q2 ++ D = Q3 := ⟨_, rfl⟩
          rw [hQ3] at hc3 HE
          have HEH := Lib.hid HE
          clear HE hQ2 hQ3 e1 sl iy
          go_wp2_with (go_at_call 29; (with_reducible refine (DC.out _).mono ?_); rintro e w8 ⟨rfl, hb8⟩; have M8 := Lib.hid (HM2.out.trans (hb8.mono HM2.out.size)); clear hb8)
          go_roundw
          case rel => exact ⟨j + 1, by omega, by go_num, by rw [HEH.out], HW.out.trans (M8.out.mono HW.out.size)⟩
          case measure => simp [intOf]; omega
        by_cases e2 : p.2 = 120
        · have HE : rtxL I (PA.take (j + 1)) FW = Q1 ++ [114] ++ D := by rw [HS.out, if_pos (by simp [e2]), ← HQ1.out]; simp
          have iy2 := iy
          rw [e2] at iy2
          have hc2 : st Q1 ++ ⟨#[114]⟩ = st (Q1 ++ [114]) := st_app Q1 [114]
          obtain ⟨Q2, hQ2⟩ : ∃ Q2, Q1 ++ [114] = Q2 := ⟨_, rfl⟩
          rw [hQ2] at hc2 HE
          have hz2 : (st Q2).size ≤ 126 := by rw [st_size] at hz1 ⊢; rw [← hQ2]; simp; omega
          have hc3 : st Q2 ++ st D = st (Q2 ++ D) := st_app Q2 D
          obtain ⟨Q3, hQ3⟩ : ∃ Q3, Q2 ++ D = Q3 := ⟨_, rfl⟩
          rw [hQ3] at hc3 HE
          have HEH := Lib.hid HE
          clear HE hQ2 hQ3 e2 sl iy
          go_wp2_with (go_at_call 29; (with_reducible refine (DC.out _).mono ?_); rintro e w8 ⟨rfl, hb8⟩; have M8 := Lib.hid (HM2.out.trans (hb8.mono HM2.out.size)); clear hb8)
          go_roundw
          case rel => exact ⟨j + 1, by omega, by go_num, by rw [HEH.out], HW.out.trans (M8.out.mono HW.out.size)⟩
          case measure => simp [intOf]; omega
        by_cases e3 : p.2 = 115
        · have HE : rtxL I (PA.take (j + 1)) FW = Q1 ++ [115] ++ D := by rw [HS.out, if_neg (by rw [e3]; decide), if_pos (by simp [e3]), e3, ← HQ1.out]; simp
          have iy2 := iy
          have sl2 := sl
          rw [e3] at iy2 sl2
          have hc2 : st Q1 ++ st [115] = st (Q1 ++ [115]) := st_app Q1 [115]
          obtain ⟨R, hR⟩ : ∃ R, st [115] = R := ⟨_, rfl⟩
          have hzR : R.size = 1 := by rw [← hR]; rfl
          rw [hR] at sl2 hc2
          obtain ⟨Q2, hQ2⟩ : ∃ Q2, Q1 ++ [115] = Q2 := ⟨_, rfl⟩
          rw [hQ2] at hc2 HE
          have hz2 : (st Q2).size ≤ 126 := by rw [st_size] at hz1 ⊢; rw [← hQ2]; simp; omega
          have hc3 : st Q2 ++ st D = st (Q2 ++ D) := st_app Q2 D
          obtain ⟨Q3, hQ3⟩ : ∃ Q3, Q2 ++ D = Q3 := ⟨_, rfl⟩
          rw [hQ3] at hc3 HE
          have HEH := Lib.hid HE
          have hg1 : (0 : Int) ≤ 2 * (j : Int) + 1 := by omega
          have hg2 : 2 * (j : Int) + 2 ≤ 2 * (L : Int) := by omega
          have hg3 : 2 * (j : Int) + 1 ≤ 2 * (j : Int) + 2 := by omega
          clear HE hQ2 hQ3 e3 sl iy hR
          go_wp2_with fail
          have HMd := Lib.hid HM2.out.drew
          go_region_with (go_at_call 29; (with_reducible refine (DC.out _).mono ?_); rintro e w8 ⟨rfl, hb8⟩; have M8 := Lib.hid (HMd.out.trans (hb8.mono HMd.out.size)); clear hb8)
          all_goals
            go_wp2_with fail
            go_roundw
            case rel => exact ⟨j + 1, by omega, by go_num, by rw [HEH.out], HW.out.trans (M8.out.mono HW.out.size)⟩
            case measure => simp [intOf]; omega
        by_cases e4 : p.2 = 102
        · have HE : rtxL I (PA.take (j + 1)) FW = Q1 ++ [102] ++ D := by rw [HS.out, if_neg (by rw [e4]; decide), if_pos (by simp [e4]), e4, ← HQ1.out]; simp
          have iy2 := iy
          have sl2 := sl
          rw [e4] at iy2 sl2
          have hc2 : st Q1 ++ st [102] = st (Q1 ++ [102]) := st_app Q1 [102]
          obtain ⟨R, hR⟩ : ∃ R, st [102] = R := ⟨_, rfl⟩
          have hzR : R.size = 1 := by rw [← hR]; rfl
          rw [hR] at sl2 hc2
          obtain ⟨Q2, hQ2⟩ : ∃ Q2, Q1 ++ [102] = Q2 := ⟨_, rfl⟩
          rw [hQ2] at hc2 HE
          have hz2 : (st Q2).size ≤ 126 := by rw [st_size] at hz1 ⊢; rw [← hQ2]; simp; omega
          have hc3 : st Q2 ++ st D = st (Q2 ++ D) := st_app Q2 D
          obtain ⟨Q3, hQ3⟩ : ∃ Q3, Q2 ++ D = Q3 := ⟨_, rfl⟩
          rw [hQ3] at hc3 HE
          have HEH := Lib.hid HE
          have hg1 : (0 : Int) ≤ 2 * (j : Int) + 1 := by omega
          have hg2 : 2 * (j : Int) + 2 ≤ 2 * (L : Int) := by omega
          have hg3 : 2 * (j : Int) + 1 ≤ 2 * (j : Int) + 2 := by omega
          clear HE hQ2 hQ3 e4 sl iy hR
          go_wp2_with fail
          have HMd := Lib.hid HM2.out.drew
          go_region_with (go_at_call 29; (with_reducible refine (DC.out _).mono ?_); rintro e w8 ⟨rfl, hb8⟩; have M8 := Lib.hid (HMd.out.trans (hb8.mono HMd.out.size)); clear hb8)
          all_goals
            go_wp2_with fail
            go_roundw
            case rel => exact ⟨j + 1, by omega, by go_num, by rw [HEH.out], HW.out.trans (M8.out.mono HW.out.size)⟩
            case measure => simp [intOf]; omega
        by_cases e5 : p.2 = 43
        · have HE : rtxL I (PA.take (j + 1)) FW = Q1 ++ [43] ++ D := by rw [HS.out, if_neg (by rw [e5]; decide), if_pos (by simp [e5]), e5, ← HQ1.out]; simp
          have iy2 := iy
          have sl2 := sl
          rw [e5] at iy2 sl2
          have hc2 : st Q1 ++ st [43] = st (Q1 ++ [43]) := st_app Q1 [43]
          obtain ⟨R, hR⟩ : ∃ R, st [43] = R := ⟨_, rfl⟩
          have hzR : R.size = 1 := by rw [← hR]; rfl
          rw [hR] at sl2 hc2
          obtain ⟨Q2, hQ2⟩ : ∃ Q2, Q1 ++ [43] = Q2 := ⟨_, rfl⟩
          rw [hQ2] at hc2 HE
          have hz2 : (st Q2).size ≤ 126 := by rw [st_size] at hz1 ⊢; rw [← hQ2]; simp; omega
          have hc3 : st Q2 ++ st D = st (Q2 ++ D) := st_app Q2 D
          obtain ⟨Q3, hQ3⟩ : ∃ Q3, Q2 ++ D = Q3 := ⟨_, rfl⟩
          rw [hQ3] at hc3 HE
          have HEH := Lib.hid HE
          have hg1 : (0 : Int) ≤ 2 * (j : Int) + 1 := by omega
          have hg2 : 2 * (j : Int) + 2 ≤ 2 * (L : Int) := by omega
          have hg3 : 2 * (j : Int) + 1 ≤ 2 * (j : Int) + 2 := by omega
          clear HE hQ2 hQ3 e5 sl iy hR
          go_wp2_with fail
          have HMd := Lib.hid HM2.out.drew
          go_region_with (go_at_call 29; (with_reducible refine (DC.out _).mono ?_); rintro e w8 ⟨rfl, hb8⟩; have M8 := Lib.hid (HMd.out.trans (hb8.mono HMd.out.size)); clear hb8)
          all_goals
            go_wp2_with fail
            go_roundw
            case rel => exact ⟨j + 1, by omega, by go_num, by rw [HEH.out], HW.out.trans (M8.out.mono HW.out.size)⟩
            case measure => simp [intOf]; omega
        have ne : ∀ d : UInt8, p.2 ≠ d → ((p.2.toNat : Int) == (d.toNat : Int)) = false := fun d hd => by
          simp only [beq_eq_false_iff_ne, ne_eq]
          exact fun e => hd (UInt8.toNat_inj.1 (by omega))
        by_cases e6 : p.2 = 119
        · rw [e6] at HFp HS
          have hv : 1 ≤ V ∧ V ≤ n := by have := HFp.out; simpa [rfit] using this
          have hE0 := HS.out
          rw [if_neg (by decide), if_neg (by decide), if_pos rfl] at hE0
          obtain ⟨g, rfl, hg, hcell⟩ := HWW.out V hv.1 hv.2
          have cc := (B2.out.cell (p := ⟨g, V - 1, none⟩) hg).trans hcell
          have hzW : (st (WS.getD (V - 1) [])).size ≤ 20 := by rw [st_size]; exact HWL.out _
          generalize WS.getD (V - 1) [] = RW at cc hzW hE0
          have iy2 := iy
          rw [e6] at iy2
          have wv : IntKind.u32.wrap ((V : Int) - 1) = ((V - 1 : Nat) : Int) := by rw [show (V : Int) - 1 = ((V - 1 : Nat) : Int) by omega]; exact w32 _ (by have := VL.out; omega)
          have hlt : ((V - 1 : Nat) : Int) < (n : Int) := by omega
          have hc3 : st Q1 ++ st RW = st (Q1 ++ RW) := st_app Q1 RW
          have HEH := Lib.hid (show rtxL I (PA.take (j + 1)) FW = Q1 ++ RW by rw [hE0, ← HQ1.out]; simp)
          obtain ⟨Q3, hQ3⟩ : ∃ Q3, Q1 ++ RW = Q3 := ⟨_, rfl⟩
          rw [hQ3] at hc3 HEH
          clear hQ3 hE0 e1 e2 e3 e4 e5 e6 ne sl iy hv
          go_wp2_with fail
          go_roundw
          case rel => exact ⟨j + 1, by omega, by go_num, by rw [HEH.out], HW.out.trans (HM2.out.mono HW.out.size)⟩
          case measure => simp [intOf]; omega
        · have HEH := Lib.hid (show rtxL I (PA.take (j + 1)) FW = Q1 ++ D by rw [HS.out, if_neg (by simp [e1, e2]), if_neg (by simp [e3, e4, e5]), if_neg e6, ← HQ1.out]; simp)
          have m1 : ((p.2.toNat : Int) == 114) = false := ne 114 e1
          have m2 : ((p.2.toNat : Int) == 120) = false := ne 120 e2
          have m3 : ((p.2.toNat : Int) == 115) = false := ne 115 e3
          have m4 : ((p.2.toNat : Int) == 102) = false := ne 102 e4
          have m5 : ((p.2.toNat : Int) == 43) = false := ne 43 e5
          have m6 : ((p.2.toNat : Int) == 119) = false := ne 119 e6
          have hc3 : st Q1 ++ st D = st (Q1 ++ D) := st_app Q1 D
          obtain ⟨Q3, hQ3⟩ : ∃ Q3, Q1 ++ D = Q3 := ⟨_, rfl⟩
          rw [hQ3] at hc3 HEH
          clear hQ3 e1 e2 e3 e4 e5 e6 ne sl
          go_wp2_with (go_at_call 29; (with_reducible refine (DC.out _).mono ?_); rintro e w8 ⟨rfl, hb8⟩; have M8 := Lib.hid (HM2.out.trans (hb8.mono HM2.out.size)); clear hb8)
          go_roundw
          case rel => exact ⟨j + 1, by omega, by go_num, by rw [HEH.out], HW.out.trans (M8.out.mono HW.out.size)⟩
          case measure => simp [intOf]; omega
      · obtain rfl : j = L := by omega
        have HE := Lib.hid (show rtxL I (PA.take j) FW = tx I by rw [List.take_of_length_le (by rw [HL.out]; exact Nat.le_refl _)]; exact HTX.out)
        go_wp2_with fail
        go_ret2
        rw [HE.out]
        exact ⟨rfl, XW.out⟩
  · have HT := Lib.hid (show tx i = [] by unfold tx; rw [if_neg h0])
    obtain ⟨E, hE⟩ : ∃ E, ck i = E := ⟨_, rfl⟩
    rw [hE] at CK h0 ⊢
    have hne : ((E : Int) != 0) = true := by simp; omega
    obtain ⟨op, a, b, c, im⟩ := i
    simp only [iv] at CK ⊢
    have K0 := Lib.hid (Blk.new w 24 #[.int .u8 (op : Int), .int .u8 (a : Int), .int .u8 (b : Int), .int .u8 (c : Int), .int .u32 (im : Int)])
    obtain ⟨q0, q1, q2, q3, q4⟩ := fiveB K0.out
    clear hE h0 hi
    go_enter Tryd.func12, Tryd.ntmps12
    go_wp2_with (go_at_call 14; (with_reducible refine (CK.out _).mono ?_); rintro e w1 ⟨rfl, hb1⟩; have X1 := Lib.hid ((show Below w.heap.size w (w.alloc (.cells #[.int .u8 (op : Int), .int .u8 (a : Int), .int .u8 (b : Int), .int .u8 (c : Int), .int .u32 (im : Int)] 24)) by go_grown).trans (hb1.mono (by simp))); clear hb1)
    go_ret2
    rw [HT.out]
    exact ⟨rfl, X1.out⟩
end
end Go.Proofs.YtcedjjolikmbbaaDoor
