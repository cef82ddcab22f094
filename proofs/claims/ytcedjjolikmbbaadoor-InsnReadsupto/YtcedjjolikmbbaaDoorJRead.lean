/- The contract of the document's Read. Condition: the text has at most 1048575 bytes. -/
import Derived.Test.YtcedjjolikmbbaaDoorJText
import Derived.Test.YtcedjjolikmbbaaDoorJCut
import Derived.Test.YtcedjjolikmbbaaDoorJDigits
import Derived.Test.YtcedjjolikmbbaaDoorIRead
namespace Go.Proofs.YtcedjjolikmbbaaDoor
open Go.RowKit
set_option maxRecDepth 100000
set_option maxHeartbeats 4000000
/-- An instruction in its block. -/
abbrev Bi (w : World) (g : Nat) (i : In) : Prop := Blk w g 24 #[.int .u8 i.op, .int .u8 i.a, .int .u8 i.b, .int .u8 i.c, .int .u32 i.im]
section
variable {w : World}
theorem rread_any (s : List UInt8) (hs : s.length ≤ 1048575) : Calls Tryd.prog 16 #[.string (st s)] w fun e w' => e = .returned (.tuple #[iv (rdV s), .int .i64 (rdE s : Int)]) ∧ Below w.heap.size w w' := by
  have CUT := Lib.hid (fun W => rcut_any (w := W) s hs)
  have SPL := Lib.hid (sp_len s)
  have HSZ := Lib.hid hs
  have HSS := Lib.hid (show (st s).size = s.length from st_size s)
  obtain ⟨S, hS⟩ : ∃ S, st s = S := ⟨_, rfl⟩
  rw [hS] at CUT HSS ⊢
  have HS := Lib.hid hS
  obtain ⟨K, hK⟩ : ∃ K, (sp s).length = K := ⟨_, rfl⟩
  rw [hK] at CUT
  have HK := Lib.hid hK
  have hK2 : K ≤ 1048576 := by have := SPL.out.2; omega
  clear hS hK hs
  obtain ⟨w0, hw0⟩ : ∃ w0, w0 = w.alloc zI := ⟨_, rfl⟩
  have X0 := Lib.hid (show Below w.heap.size w w0 by rw [hw0]; go_grown)
  have K0 := Lib.hid (show Blk w0 w.heap.size 24 #[.int .u8 0, .int .u8 0, .int .u8 0, .int .u8 0, .int .u32 0] by rw [hw0]; exact Blk.new _ _ _)
  have HW0 := Lib.hid hw0
  clear hw0
  go_enter Tryd.func16, Tryd.ntmps16
  go_wp2_with (go_at_call 36; rw [← HW0.out]; refine (CUT.out _).mono ?_; rintro e w1 ⟨g, gc, rfl, hg1, hg2, hg3, hb1⟩; have X1 := Lib.hid (X0.out.trans (hb1.mono X0.out.size)); have K1 := Lib.hid (K0.out.below hb1 K0.out.lt); have HG := Lib.hid (And.intro hg1 hg3); clear hg1 hg2 hg3 hb1)
  have R1 := Lib.hid K1.out.lt
  go_loopw [5] (fun q wr => ∃ op : Nat, 1 ≤ op ∧ op ≤ 16 ∧ q = .int .i64 (op : Int) ∧ Hid (∀ op' c', 1 ≤ op' → op' < op → c' ≤ (woN op').length → ¬ good6 s op' c') ∧ Hid (Below w1.heap.size w1 wr)) (fun q _ => 16 - (intOf q).toNat)
  case atStart => exact ⟨1, by omega, by omega, rfl, Lib.hid (fun op' c' h1 h2 _ => absurd h2 (by omega)), Below.refl _ _⟩
  case round =>
    obtain ⟨op, ho1, ho2, rfl, HM, HW⟩ := hrel
    have XW := Lib.hid (X1.out.trans (HW.out.mono X1.out.size))
    have KW := Lib.hid (K1.out.below HW.out R1.out)
    by_cases h16 : op ≤ 15
    · have h16' : (op : Int) ≤ 15 := by omega
      have wop : IntKind.i64.wrap ((op : Int) + 1) = ((op + 1 : Nat) : Int) := by rw [show (op : Int) + 1 = ((op + 1 : Nat) : Int) by omega]; exact w64 _ (by omega)
      have HPA := Lib.hid (fun W => @rparts_any W op ho1 h16)
      have HWO := Lib.hid (fun W => @rwords_any W op ho1 h16)
      have n2 := (nmN_len ho1 h16).2.1
      have n3 := (nmN_len ho1 h16).2.2
      have hns : (st (fl (paN op))).size = 2 * (paN op).length := by rw [st_size, fl_len]
      have HIX := Lib.hid (fun (j : Nat) p (h : (paN op)[j]? = some p) W => show (Instr.index 9 (.string (st (fl (paN op)))) (.int .i64 (2 * (j : Int)))).run Tryd.prog W = .ok (.int .u8 (p.1.toNat : Int)) W from run_ixs (k := 2 * j) (fl_at h).1 W)
      have HIY := Lib.hid (fun (j : Nat) p (h : (paN op)[j]? = some p) W => show (Instr.index 9 (.string (st (fl (paN op)))) (.int .i64 (2 * (j : Int) + 1))).run Tryd.prog W = .ok (.int .u8 (p.2.toNat : Int)) W from run_ixs (k := 2 * j + 1) (fl_at h).2 W)
      have CSU := Lib.hid (fun c j p y (h1 : (paN op)[j]? = some p) (h2 : (sp s)[j + 1]? = some y) => cand_succ (s := s) (c := c) h1 h2)
      have CAL := Lib.hid (fun c j (h : (paN op).length ≤ j) => cand_all s op c h)
      have HGD := Lib.hid (fun c => show good6 s op c ↔ (sp s).length = 1 + (paN op).length ∧ ck (candA s op c) = 0 ∧ tx (candA s op c) = s from Iff.rfl)
      obtain ⟨PA, hPA⟩ : ∃ PA, paN op = PA := ⟨_, rfl⟩
      obtain ⟨P, hP⟩ : ∃ P, st (fl (paN op)) = P := ⟨_, rfl⟩
      obtain ⟨F, hF⟩ : ∃ F, st (fiN op) = F := ⟨_, rfl⟩
      unfold sv at HPA
      simp only [hP, hF] at HPA
      simp only [hP] at HIX HIY
      rw [hP] at hns
      simp only [hPA] at HIX HIY CSU CAL HGD hns n2
      obtain ⟨L, hL⟩ : ∃ L, PA.length = L := ⟨_, rfl⟩
      obtain ⟨m, hm⟩ : ∃ m, (woN op).length = m := ⟨_, rfl⟩
      rw [hL] at hns n2
      simp only [hL] at CAL HGD
      simp only [hm] at HWO n3
      have HL := Lib.hid hL
      have HMM := Lib.hid hm
      have hdv : (2 * (L : Int)).tdiv 2 = (L : Int) := by rw [Int.tdiv_eq_ediv_of_nonneg (by omega)]; omega
      have wl : IntKind.i64.wrap (1 + (L : Int)) = 1 + (L : Int) := by rw [show 1 + (L : Int) = ((1 + L : Nat) : Int) by omega]; exact w64 _ (by omega)
      have wl0 := w64 L (by omega)
      clear hPA hP hF hL hm
      by_cases hKL : K = 1 + L
      · have hk : ((K : Int) != 1 + (L : Int)) = false := by simp; omega
        have HKL := Lib.hid hKL
        clear hKL
        go_wp2_with (first
          | (go_at_call 26; refine (HPA.out _).mono ?_; rintro e w2 ⟨rfl, rfl⟩)
          | (go_at_call 27; refine (HWO.out _).mono ?_; rintro e w2 ⟨A, n, rfl, rfl, -, hb2⟩; have X2 := Lib.hid (HW.out.trans (hb2.mono HW.out.size)); clear hb2))
        clear HW XW KW HPA HWO
        go_loopw [9] (fun q wr2 => ∃ c : Nat, c ≤ n + 1 ∧ q = .int .i64 (c : Int) ∧ Hid (∀ c', c' < c → ¬ good6 s op c') ∧ Hid (Below w1.heap.size w1 wr2)) (fun q _ => n + 1 - (intOf q).toNat)
        case atStart => exact ⟨0, by omega, rfl, Lib.hid (fun c' h => absurd h (by omega)), X2⟩
        case round =>
          clear X2
          obtain ⟨c, hc, rfl, HMC, HW⟩ := hrel
          have wc1 : IntKind.i64.wrap ((c : Int) + 1) = ((c + 1 : Nat) : Int) := by rw [show (c : Int) + 1 = ((c + 1 : Nat) : Int) by omega]; exact w64 _ (by omega)
          by_cases hcn : c ≤ n
          · have hcn' : (c : Int) ≤ (n : Int) := by omega
            have wo8 := w8i op (by omega)
            have wc8 := w8i c (by omega)
            obtain ⟨w3, hw3⟩ : ∃ w3, w3 = wr.alloc (.cells #[.int .u8 (op : Int), .int .u8 0, .int .u8 0, .int .u8 (c : Int), .int .u32 0] 24) := ⟨_, rfl⟩
            have hws := HW.out.size
            have X3 := Lib.hid (show Below w1.heap.size w1 w3 by rw [hw3]; exact HW.out.alloc hws _)
            have K3 := Lib.hid (show Bi w3 wr.heap.size (cand s op c 0) by rw [cand_zero, hw3]; exact Blk.new _ _ _)
            have HW3 := Lib.hid hw3
            have HOK := Lib.hid (candA_ok s (op := op) (c := c) (by omega) (by omega))
            clear hw3
            go_wp2_with fail
            rw [← HW3.out]
            obtain ⟨g10, hg10⟩ : ∃ g10, wr.heap.size = g10 := ⟨_, rfl⟩
            have hg10' : w1.heap.size ≤ g10 := by omega
            rw [hg10] at K3 ⊢
            clear HW3 hg10 hws
            go_loopw [11] (fun q wq => ∃ j : Nat, j ≤ L ∧ q = .int .i64 (2 * (j : Int)) ∧ Hid (Bi wq g10 (cand s op c j)) ∧ Hid (Below w1.heap.size w1 wq)) (fun q _ => 2 * L - (intOf q).toNat)
            case atStart => exact ⟨0, by omega, rfl, K3, X3⟩
            case round =>
              clear X3 K3 HW
              obtain ⟨j, hj, rfl, KI, HW⟩ := hrel
              have wj : IntKind.i64.wrap (2 * (j : Int) + 1) = 2 * (j : Int) + 1 := by rw [show 2 * (j : Int) + 1 = ((2 * j + 1 : Nat) : Int) by omega]; exact w64 _ (by omega)
              have wj2 : IntKind.i64.wrap (2 * (j : Int) + 2) = 2 * (j : Int) + 2 := by rw [show 2 * (j : Int) + 2 = ((2 * j + 2 : Nat) : Int) by omega]; exact w64 _ (by omega)
              by_cases hjL : j < L
              · obtain ⟨p, hp⟩ : ∃ p, PA[j]? = some p := ⟨_, List.getElem?_eq_getElem (by rw [HL.out]; exact hjL)⟩
                obtain ⟨y, hy⟩ : ∃ y, (sp s)[j + 1]? = some y := ⟨_, List.getElem?_eq_getElem (by rw [HK.out]; have := HKL.out; omega)⟩
                have ix := HIX.out j p hp
                have iy := HIY.out j p hp
                have CS := Lib.hid (CSU.out c j p y hp hy)
                have hyl : y.length ≤ 1048575 := Nat.le_trans (SPL.out.1 y (List.mem_of_getElem? hy)) HSZ.out
                have hjL' : (j : Int) < (L : Int) := by omega
                have dj : (2 * (j : Int)).tdiv 2 = (j : Int) := by rw [Int.tdiv_eq_ediv_of_nonneg (by omega)]; omega
                have wj0 := w64 j (by omega)
                obtain ⟨J, hJ⟩ : ∃ J, j + 1 = J := ⟨_, rfl⟩
                have wJ : IntKind.i64.wrap (1 + (j : Int)) = (J : Int) := by rw [show 1 + (j : Int) = (J : Int) by omega]; exact w64 _ (by omega)
                have hJK : (J : Int) < (K : Int) := by have := HKL.out; omega
                have cc : wr.cell? ⟨g, J, none⟩ = some (.string (st y)) := (HW.out.cell (p := ⟨g, J, none⟩) HG.out.1).trans (HG.out.2 J y (by rw [← hJ]; exact hy))
                have DG0 := Lib.hid (fun W => show Calls Tryd.prog 37 #[.string (st y), .int .i64 0] W (fun e w' => e = .returned (.tuple #[.int .u32 ((rdg y 0).1 : Int), .bool (rdg y 0).2]) ∧ Below W.heap.size W w') from rdigits_any y 0 (by omega) hyl)
                have DG1 := Lib.hid (fun W => show Calls Tryd.prog 37 #[.string (st y), .int .i64 1] W (fun e w' => e = .returned (.tuple #[.int .u32 ((rdg y 1).1 : Int), .bool (rdg y 1).2]) ∧ Below W.heap.size W w') from rdigits_any y 1 (by omega) hyl)
                have CS2 : cand s op c (j + 1) = if (rdg y (rsn p)).2 = true ∧ p.2 ≠ 119 then rwith (cand s op c j) p.1 (rdg y (rsn p)).1 else cand s op c j := CS.out
                have ne : ∀ d : UInt8, p.2 ≠ d → ((p.2.toNat : Int) == (d.toNat : Int)) = false := fun d hd => by
                  simp only [beq_eq_false_iff_ne, ne_eq]
                  exact fun e => hd (UInt8.toNat_inj.1 (by omega))
                have hpn : (rsn p = 0 ∧ p.2 = 110) ∨ (rsn p = 1 ∧ p.2 ≠ 110) := by
                  unfold rsn
                  by_cases e : p.2 = 110
                  · exact .inl ⟨if_pos e, e⟩
                  · exact .inr ⟨if_neg e, e⟩
                clear hp hy hJ CS
                obtain ⟨X, hX⟩ : ∃ X, cand s op c j = X := ⟨_, rfl⟩
                obtain ⟨Y, hY⟩ : ∃ Y, cand s op c (j + 1) = Y := ⟨_, rfl⟩
                have HY := Lib.hid hY
                rw [hX] at KI CS2
                rw [hY] at CS2
                clear hX hY
                have WI := Lib.hid (fun W v => rwith_any (w := W) X p.1 v)
                rcases hpn with ⟨e1, e2⟩ | ⟨e1, e2⟩
                · have D0 := DG0.out
                  rw [e1] at CS2
                  clear DG0 DG1
                  obtain ⟨D, hD⟩ : ∃ D, rdg y 0 = D := ⟨_, rfl⟩
                  rw [hD] at CS2
                  simp only [hD] at D0
                  obtain ⟨d1, d2⟩ := D
                  simp only at CS2 D0
                  have DG0 := Lib.hid D0
                  clear hD D0 e1
                  rw [e2] at iy CS2
                  clear ne e2
                  cases d2
                  · have HYX := Lib.hid (show cand s op c (j + 1) = X by rw [HY.out, CS2]; simp)
                    clear CS2
                    go_wp2_with (go_at_call 37; (with_reducible refine (DG0.out _).mono ?_); rintro e w6 ⟨rfl, hb6⟩; have M6 := Lib.hid (HW.out.trans (hb6.mono HW.out.size)); have K6 := Lib.hid (KI.out.below hb6 KI.out.lt); clear hb6)
                    go_roundw
                    case rel => exact ⟨j + 1, by omega, by go_num, Lib.hid (by rw [HYX.out]; exact K6.out), M6⟩
                    case measure => simp [intOf]; omega
                  · have hY2 : Y = rwith X p.1 d1 := by rw [CS2]; simp
                    have WJ := Lib.hid (fun W => WI.out W d1)
                    rw [← hY2] at WJ
                    clear CS2 hY2
                    go_upto_region 20 with (go_at_call 37; (with_reducible refine (DG0.out _).mono ?_); rintro e w6 ⟨rfl, hb6⟩; have M6 := Lib.hid (HW.out.trans (hb6.mono HW.out.size)); have K6 := Lib.hid (KI.out.below hb6 KI.out.lt); clear hb6)
                    have HMd := Lib.hid M6.out.drew
                    have KMd := Lib.hid (K6.out.below (Below.drew (Below.refl _ _)) K6.out.lt)
                    obtain ⟨q0, q1, q2, q3, q4⟩ := fiveB K6.out
                    go_region_with (go_at_call 38; (with_reducible refine (WJ.out _).mono ?_); rintro e w7 ⟨rfl, hb7⟩; have X7 := Lib.hid (HMd.out.trans (hb7.mono HMd.out.size)); have K7 := Lib.hid (KMd.out.below hb7 KMd.out.lt); clear q0 q1 q2 q3 q4; obtain ⟨q0, q1, q2, q3, q4, z0, z1, z2, z3, z4⟩ := ten K7.out; clear hb7)
                    all_goals
                      go_wp2_with fail
                      go_roundw
                      case rel => exact ⟨j + 1, by omega, by go_num, Lib.hid (by rw [HY.out]; exact put5 K7.out _ _ _ _ _), below5 X7.out hg10' _ _ _ _ _⟩
                      case measure => simp [intOf]; omega
                · have D1 := DG1.out
                  rw [e1] at CS2
                  clear DG0 DG1
                  obtain ⟨D, hD⟩ : ∃ D, rdg y 1 = D := ⟨_, rfl⟩
                  rw [hD] at CS2
                  simp only [hD] at D1
                  obtain ⟨d1, d2⟩ := D
                  simp only at CS2 D1
                  have DG1 := Lib.hid D1
                  clear hD D1 e1
                  have n110 : ((p.2.toNat : Int) == 110) = false := ne 110 e2
                  cases d2
                  · clear ne e2
                    have HYX := Lib.hid (show cand s op c (j + 1) = X by rw [HY.out, CS2]; simp)
                    clear CS2
                    go_wp2_with (go_at_call 37; (with_reducible refine (DG1.out _).mono ?_); rintro e w6 ⟨rfl, hb6⟩; have M6 := Lib.hid (HW.out.trans (hb6.mono HW.out.size)); have K6 := Lib.hid (KI.out.below hb6 KI.out.lt); clear hb6)
                    go_roundw
                    case rel => exact ⟨j + 1, by omega, by go_num, Lib.hid (by rw [HYX.out]; exact K6.out), M6⟩
                    case measure => simp [intOf]; omega
                  · by_cases e3 : p.2 = 119
                    · rw [e3] at iy
                      have HYX := Lib.hid (show cand s op c (j + 1) = X by rw [HY.out, CS2, e3]; simp)
                      clear CS2 ne e2 e3 n110
                      go_wp2_with (go_at_call 37; (with_reducible refine (DG1.out _).mono ?_); rintro e w6 ⟨rfl, hb6⟩; have M6 := Lib.hid (HW.out.trans (hb6.mono HW.out.size)); have K6 := Lib.hid (KI.out.below hb6 KI.out.lt); clear hb6)
                      go_roundw
                      case rel => exact ⟨j + 1, by omega, by go_num, Lib.hid (by rw [HYX.out]; exact K6.out), M6⟩
                      case measure => simp [intOf]; omega
                    · have n119' : ((p.2.toNat : Int) == 119) = false := ne 119 e3
                      have n119 : ((p.2.toNat : Int) != 119) = true := by unfold bne; rw [n119']; rfl
                      clear n119'
                      have hY2 : Y = rwith X p.1 d1 := by rw [CS2]; simp [e3]
                      have WJ := Lib.hid (fun W => WI.out W d1)
                      rw [← hY2] at WJ
                      clear CS2 hY2 ne e2 e3
                      go_upto_region 20 with (go_at_call 37; (with_reducible refine (DG1.out _).mono ?_); rintro e w6 ⟨rfl, hb6⟩; have M6 := Lib.hid (HW.out.trans (hb6.mono HW.out.size)); have K6 := Lib.hid (KI.out.below hb6 KI.out.lt); clear hb6)
                      have HMd := Lib.hid M6.out.drew
                      have KMd := Lib.hid (K6.out.below (Below.drew (Below.refl _ _)) K6.out.lt)
                      obtain ⟨q0, q1, q2, q3, q4⟩ := fiveB K6.out
                      go_region_with (go_at_call 38; (with_reducible refine (WJ.out _).mono ?_); rintro e w7 ⟨rfl, hb7⟩; have X7 := Lib.hid (HMd.out.trans (hb7.mono HMd.out.size)); have K7 := Lib.hid (KMd.out.below hb7 KMd.out.lt); clear q0 q1 q2 q3 q4; obtain ⟨q0, q1, q2, q3, q4, z0, z1, z2, z3, z4⟩ := ten K7.out; clear hb7)
                      all_goals
                        go_wp2_with fail
                        go_roundw
                        case rel => exact ⟨j + 1, by omega, by go_num, Lib.hid (by rw [HY.out]; exact put5 K7.out _ _ _ _ _), below5 X7.out hg10' _ _ _ _ _⟩
                        case measure => simp [intOf]; omega
              · obtain rfl : j = L := by omega
                have hjL' : ¬ (j : Int) < (j : Int) := by omega
                have KI2 := KI.out
                rw [CAL.out c j (Nat.le_refl _)] at KI2
                have HGc := Lib.hid (HGD.out c)
                obtain ⟨X, hX⟩ : ∃ X, candA s op c = X := ⟨_, rfl⟩
                have HXX := Lib.hid hX
                rw [hX] at KI2 HGc HOK
                have KX := Lib.hid KI2
                have TXC := Lib.hid (fun W => rtext_any (w := W) X HOK.out)
                clear KI2 hX
                obtain ⟨q0, q1, q2, q3, q4⟩ := fiveB KX.out
                obtain ⟨E, hE⟩ : ∃ E, ck X = E := ⟨_, rfl⟩
                obtain ⟨TX, hTX⟩ : ∃ TX, tx X = TX := ⟨_, rfl⟩
                rw [hE, hTX] at TXC HGc
                unfold sv at TXC
                clear hE hTX hjL
                by_cases hE0 : E = 0
                · by_cases hTS : TX = s
                  · have hgood : good6 s op c := HGc.out.2 ⟨by rw [HK.out]; exact HKL.out, hE0, hTS⟩
                    have hr := rd_hit (s := s) (op := op) (c := c) (by omega) (by omega) hgood
                    rw [HXX.out] at hr
                    have HV := Lib.hid (show rdV s = X by unfold rdV; rw [hr]; rfl)
                    have HEE := Lib.hid (show rdE s = 0 by unfold rdE; rw [hr]; rfl)
                    rw [hTS, HS.out] at TXC
                    subst hE0
                    clear hgood hr hTS
                    go_wp2_with (go_at_call 12; (with_reducible refine (TXC.out _).mono ?_); rintro e w8 ⟨rfl, hb8⟩; have M8 := Lib.hid (HW.out.trans (hb8.mono HW.out.size)); have K8 := Lib.hid (KX.out.below hb8 KX.out.lt); have R8 := Lib.hid (K1.out.below M8.out R1.out); clear q0 q1 q2 q3 q4; obtain ⟨q0, q1, q2, q3, q4⟩ := fiveB K8.out; obtain ⟨r0, r1, r2, r3, r4, z0, z1, z2, z3, z4⟩ := ten R8.out; clear hb8)
                    have XF := Lib.hid (below5 (X1.out.trans (M8.out.mono X1.out.size)) (Nat.le_refl _) (.int .u8 X.op) (.int .u8 X.a) (.int .u8 X.b) (.int .u8 X.c) (.int .u32 X.im))
                    have KF := Lib.hid (put5 R8.out (.int .u8 X.op) (.int .u8 X.a) (.int .u8 X.b) (.int .u8 X.c) (.int .u32 X.im))
                    refine bodyPost_ret (res_insn rfl rfl KF.out) rfl ?_
                    rw [HV.out, HEE.out]
                    exact ⟨rfl, XF.out⟩
                  · have HMC2 := Lib.hid (show ∀ c', c' < c + 1 → ¬ good6 s op c' from fun c' h => by
                      by_cases e : c' = c
                      · subst e
                        exact fun hg => hTS (HGc.out.1 hg).2.2
                      · exact HMC.out c' (by omega))
                    have q := str_ne (fun e => hTS (st_inj e) : st TX ≠ st s)
                    rw [HS.out] at q
                    subst hE0
                    clear hTS
                    go_wp2_with (go_at_call 12; (with_reducible refine (TXC.out _).mono ?_); rintro e w8 ⟨rfl, hb8⟩; have M8 := Lib.hid (HW.out.trans (hb8.mono HW.out.size)); clear hb8)
                    go_roundw
                    case rel => exact ⟨c + 1, by omega, by go_num, HMC2, M8⟩
                    case measure => simp [intOf]; omega
                · have HMC2 := Lib.hid (show ∀ c', c' < c + 1 → ¬ good6 s op c' from fun c' h => by
                    by_cases e : c' = c
                    · subst e
                      exact fun hg => hE0 (HGc.out.1 hg).2.1
                    · exact HMC.out c' (by omega))
                  have hE1 : ((E : Int) == 0) = false := by simp; omega
                  clear hE0
                  go_wp2_with (go_at_call 12; (with_reducible refine (TXC.out _).mono ?_); rintro e w8 ⟨rfl, hb8⟩; have M8 := Lib.hid (HW.out.trans (hb8.mono HW.out.size)); clear hb8)
                  go_roundw
                  case rel => exact ⟨c + 1, by omega, by go_num, HMC2, M8⟩
                  case measure => simp [intOf]; omega
          · obtain rfl : c = n + 1 := by omega
            have hcn' : ¬ ((n : Int) + 1) ≤ (n : Int) := by omega
            have HM2 := Lib.hid (show ∀ op' c', 1 ≤ op' → op' < op + 1 → c' ≤ (woN op').length → ¬ good6 s op' c' from fun op' c' h1 h2 h3 => by
              by_cases e : op' = op
              · subst e
                rw [HMM.out] at h3
                exact HMC.out c' (by omega)
              · exact HM.out op' c' h1 (by omega) h3)
            go_wp2_with fail
            go_roundw
            case rel => exact ⟨op + 1, by omega, by omega, by go_num, HM2, HW⟩
            case measure => simp [intOf]; omega
      · have hk : ((K : Int) != 1 + (L : Int)) = true := by simp; omega
        have hk2 : ¬ (K : Int) = 1 + (L : Int) := by omega
        have HM2 := Lib.hid (show ∀ op' c', 1 ≤ op' → op' < op + 1 → c' ≤ (woN op').length → ¬ good6 s op' c' from fun op' c' h1 h2 h3 => by
          by_cases e : op' = op
          · subst e
            intro hg
            have := ((HGD.out c').1 hg).1
            rw [HK.out] at this
            exact hKL this
          · exact HM.out op' c' h1 (by omega) h3)
        go_wp2_with (first
          | (go_at_call 26; refine (HPA.out _).mono ?_; rintro e w2 ⟨rfl, rfl⟩)
          | (go_at_call 27; refine (HWO.out _).mono ?_; rintro e w2 ⟨A, n, rfl, rfl, -, hb2⟩; have X2 := Lib.hid (HW.out.trans (hb2.mono HW.out.size)); clear hb2))
        go_roundw
        case rel => exact ⟨op + 1, by omega, by omega, by go_num, HM2, X2⟩
        case measure => simp [intOf]; omega
    · obtain rfl : op = 16 := by omega
      have hr := rd_miss (s := s) (fun op c h1 h2 h3 => HM.out op c h1 (by omega) h3)
      have HV := Lib.hid (show rdV s = in0 by unfold rdV; rw [hr]; rfl)
      have HE := Lib.hid (show rdE s = 3 by unfold rdE; rw [hr]; rfl)
      obtain ⟨q0, q1, q2, q3, q4, y0, y1, y2, y3, y4⟩ := ten KW.out
      have XF := Lib.hid (below5 XW.out (Nat.le_refl _) (.int .u8 0) (.int .u8 0) (.int .u8 0) (.int .u8 0) (.int .u32 0))
      have KF := Lib.hid (put5 KW.out (.int .u8 0) (.int .u8 0) (.int .u8 0) (.int .u8 0) (.int .u32 0))
      clear hr h16
      go_wp2_with fail
      refine bodyPost_ret (res_insn rfl rfl KF.out) rfl ?_
      rw [HV.out, HE.out]
      exact ⟨rfl, XF.out⟩
end
end Go.Proofs.YtcedjjolikmbbaaDoor
