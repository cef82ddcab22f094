/- The walk of SlabEmpty: it returns true, and nothing that was there has turned. Condition: the tables lie in their blocks. -/
import Derived.Test.YthblpnnbkjhmhaaDoorSEmptyG
namespace Go.Proofs.YthblpnnbkjhmhaaDoor
open Go.RowKit

set_option maxRecDepth 100000 in
set_option maxHeartbeats 4000000 in
theorem empty_walk (pages : Int) (A : Option Addr) (len cap : Nat) (turn : Int) (w : World) (h0 : (Lit.int .u8 pages).wf = true) (h2 : (Lit.int .u16 turn).wf = true) (hD : Sizes w A len ∧ len ≤ 9223372036854775807) (hT : Tbs w) (_hB : True) :
    Calls Tryd.prog 5 #[.int .u8 pages, .slice A len cap, .int .u16 turn] w fun e w' => e = .returned (.bool true) ∧ Below w.heap.size w w' := by
  obtain ⟨hD, hlen⟩ := hD
  obtain ⟨z, hD⟩ := sizes_fun hD
  have hp := bounds_u8 h0
  have ht := bounds_u16 h2
  obtain ⟨n, hpm, hn1, hn2⟩ : ∃ n : Nat, pages.tmod 128 = (n : Int) - 1 ∧ 1 ≤ n ∧ n ≤ 128 := ⟨(1 + pages.tmod 128).toNat, by rw [Int.tmod_eq_emod_of_nonneg (by omega)]; omega⟩
  have hpw : 1 + ((n : Int) - 1) = n := by omega
  obtain ⟨zs, hzs⟩ : ∃ zs : Nat → Int, zs = fun i => ((z i % 256 + 1 : Nat) : Int) := ⟨_, rfl⟩
  obtain ⟨i0, hx, hz0, hz1, hz2⟩ := info_parts Tryd.info3
  have HT := Lib.hid hT
  have HD := Lib.hid hD
  have HX := Lib.hid hx
  have HZ0 := Lib.hid hz0
  have HZ1 := Lib.hid hz1
  have HZ2 := Lib.hid hz2
  have HZS := Lib.hid hzs
  clear hT hD hx hz0 hz1 hz2 h0 h2 hzs
  go_enter Tryd.func5, Tryd.ntmps5
  go_wp2_with fail
  refine (shownS_any HT.out).mono ?_
  rintro e w1 ⟨rfl, hb⟩
  have H1 := Lib.hid (HT.out.below hb)
  have B1 := Lib.hid hb
  clear hb
  go_wp2_with fail
  refine (sb_new (w0 := w) n hn1 hn2 H1.out B1.out).mono ?_
  rintro e w2 ⟨L, rfl, h2⟩
  have H2 := Lib.hid h2
  have LB := Lib.hid h2.lb
  have hB2 : w.heap.size ≤ w2.heap.size := h2.bl.size
  clear h2
  obtain ⟨B, hBB⟩ : ∃ B, B = w2.heap.size := ⟨_, rfl⟩
  rw [← hBB] at LB hB2
  have hle2 : B ≤ w2.heap.size := by omega
  clear hBB
  go_wp2_with fail
  go_loopw [10, 11] (fun v1 v wr => ∃ (k : Nat) (f : Nat → Int) (ats : List Nat) (A1 : Option Addr) (c1 : Nat), k ≤ len ∧ k ≤ 120 ∧ v = .int .i64 k ∧ v1 = .slice A1 ats.length c1 ∧ ats.length ≤ k ∧ B ≤ wr.heap.size ∧ Hid (ats.length = (runs n zs k).2) ∧ Hid (Sb w wr L n (runs n zs k).1 f) ∧ Hid (RI wr B A1 c1 ats) ∧ Hid (All (runs n zs k).1 ats)) (fun _ v _ => 120 - (intOf v).toNat)
  case atStart => exact ⟨0, _, [], none, 0, Nat.zero_le _, Nat.zero_le _, rfl, rfl, Nat.zero_le _, hle2, Lib.hid rfl, H2, Lib.hid (RI.nil _ _), Lib.hid All.nil⟩
  case round =>
    obtain ⟨k, f, ats, A1, c1, hk, hk2, rfl, rfl, hak, hBr, hAL, hS, hR1, hTK⟩ := hrel
    obtain ⟨l1, l2, l3, l4, l5⟩ := LB.out
    by_cases hc1 : k < len ∧ k < 120
    · obtain ⟨h1, h2⟩ := hc1
      have d1 : decide ((k : Int) < len) = true := decide_eq_true (by omega)
      have d2 : decide ((k : Int) < 120) = true := decide_eq_true (by omega)
      obtain ⟨b, o, rfl, hblt, hc, hz⟩ := HD.out k h1
      have hc' := (hS.out.bl.cell (p := ⟨b, o + k, none⟩) hblt).trans hc
      obtain ⟨sz, hsz, hsz1, hsz2, hszz⟩ : ∃ sz : Nat, (z k : Int).tmod 256 = (sz : Int) - 1 ∧ 1 ≤ sz ∧ sz ≤ 256 ∧ zs k = sz := ⟨z k % 256 + 1, by rw [Int.tmod_eq_emod_of_nonneg (by omega)]; omega, by omega, by omega, by rw [HZS.out]⟩
      have hsw : 1 + ((sz : Int) - 1) = sz := by omega
      have hok : alOk (sz : Int) = true := by unfold alOk; rw [decide_eq_true (by omega), decide_eq_true (by omega)]; rfl
      have hrn : (runs n zs (k + 1)).1 = alS n (runs n zs k).1 sz ∧ (runs n zs (k + 1)).2 = if alE n (runs n zs k).1 sz = 0 then (runs n zs k).2 + 1 else (runs n zs k).2 := by rw [← hszz]; exact ⟨rfl, rfl⟩
      have HRN := Lib.hid hrn
      generalize z k = zk at *
      clear hc hszz hrn
      go_wp2_with fail
      refine (sb_alloc (sz : Int) hS.out).mono ?_
      rintro e w3 ⟨rfl, f3, h3, -, -, hF3⟩
      have hs3 : B ≤ w3.heap.size := Nat.le_trans hBr hF3.size
      have R13 := Lib.hid (hR1.out.fr hF3 l3 l4 l5)
      rw [← HRN.out.1] at h3
      have H3 := Lib.hid h3
      rcases al_err (n := n) (s := (runs n zs k).1) hok with he | ⟨he, hes⟩
      · obtain ⟨p, a, l, s1, hg⟩ := al_got hS.out.inv he
        have hv := hg.val
        have hAll := hTK.out.take hg hS.out.inv
        rw [← HRN.out.1] at hAll
        have TK3 := Lib.hid hAll
        have hlen1 : (runs n zs (k + 1)).2 = ats.length + 1 := by rw [HRN.out.2, if_pos he, hAL.out]
        have HL1 := Lib.hid hlen1
        rw [he, hv]
        have RA := Lib.hid (R13.out.alloc (.cells #[.int .i64 (a : Nat)] 3))
        clear he hv hg hAll hlen1 h3 hF3
        go_wp2_with (at_builtin; refine wpList_append_own _ rfl (.tmp 62) (.tmp 64) 34 rfl B 3 i0 (.int .i64 0) 1 8 Tryd.underlying34 HX.out HZ0.out HZ1.out HZ2.out rfl (by decide) _ ats.length (ints ats) rfl RA.out.row ⟨w3.heap.size, 0, none⟩ 1 1 [.int .i64 (a : Nat)] rfl rfl (one_news w3 _ _) (by simp [Value.oneCell']) (by unfold maxLen; omega) (by omega) (by simp; omega) ?_)
        intro v' w5 hown hgrow _
        obtain ⟨A1', c1', rfl, hR5⟩ := RI.of hown
        have hb5 := below_of_grown hgrow (B := B) (by simp; omega) RA.out.own
        have H5 := Lib.hid ((H3.out.below ((Below.refl _ w3).alloc (Nat.le_refl _) _)).upto LB.out hb5)
        have R15 := Lib.hid hR5
        have hs5 : B ≤ w5.heap.size := Nat.le_trans (by simp; omega) hb5.size
        have AL5 : Hid ((ats ++ [a]).length = (runs n zs (k + 1)).2) := Lib.hid (by rw [List.length_append, HL1.out]; rfl)
        clear hown hgrow hR5 hb5
        go_wp2
        go_roundw
        case rel => exact ⟨k + 1, f3, ats ++ [a], A1', c1', h1, h2, by go_num, by rw [List.length_append]; rfl, by rw [List.length_append]; simp; omega, hs5, AL5, H5, R15, TK3⟩
        case measure => simp [intOf]; omega
      · have hAll := hTK.out
        rw [← hes, ← HRN.out.1] at hAll
        have TK3 := Lib.hid hAll
        have HL1 := Lib.hid (show ats.length = (runs n zs (k + 1)).2 by rw [HRN.out.2, if_neg (by omega), hAL.out])
        rw [he]
        clear he hes hAll h3 hF3
        generalize alV n (runs n zs k).1 (sz : Int) = av
        go_wp2
        go_roundw
        case rel => exact ⟨k + 1, f3, ats, A1, c1, h1, h2, by go_num, rfl, by omega, hs3, HL1, H3, R13, TK3⟩
        case measure => simp [intOf]; omega
    · have key : (k < len ∧ k = 120) ∨ ¬ k < len := by omega
      have hak2 : ats.length ≤ 120 := by omega
      have hKK : k = len ∨ k = 120 := by omega
      have hKK2 : k ≤ len ∧ k ≤ 120 := ⟨hk, hk2⟩
      obtain ⟨K, hK⟩ : ∃ K, K = k := ⟨_, rfl⟩
      rw [← hK] at hKK hKK2 hAL hS hTK
      clear hK
      obtain ⟨many, hmany⟩ : ∃ many, many = ats.length := ⟨_, rfl⟩
      rw [← hmany] at hAL
      rcases key with ⟨h1, rfl⟩ | h1
      all_goals
        first
        | (have d1 : decide (((120 : Nat) : Int) < len) = true := decide_eq_true (by omega)
           go_wp2
           clear d1 h1)
        | (have d1 : decide ((k : Int) < len) = false := decide_eq_false (by omega)
           go_wp2
           clear d1 h1)
        rw [← hmany]
        replace hmany := Lib.hid hmany
        go_loopg [10] many (fun g v1 wr => ∃ (s : St) (f : Nat → Int) (ats : List Nat) (A1 : Option Addr) (c1 : Nat), v1 = .slice A1 g c1 ∧ g ≤ 120 ∧ B ≤ wr.heap.size ∧ Hid (Sb w wr L n s f) ∧ Hid (wr.ownsRow B 3 1 (.slice A1 g c1) g (ints ats)) ∧ Hid (All s ats))
        case atStart => exact ⟨_, f, ats, A1, c1, rfl, by have := hmany.out; omega, hBr, hS, Lib.hid (by rw [hmany.out]; exact hR1.out.row), hTK⟩
        case round =>
          obtain ⟨s, f2, bts, A2, c2, rfl, hg120, hBr2, hS2, hR2, hTK2⟩ := hrel
          cases gk with
          | zero =>
            have hbn : bts = [] := by
              have := hR2.out.1
              simp [ints] at this
              exact this
            have hst : s = st0 := st0_of hS2.out.inv fun i a ha => by
              have := (hTK2.out.tkn i a).1 ha
              rw [hbn] at this
              cases this.1
            subst hst
            have hu := usd0 n
            have hpz := pgs0 n
            have HU := Lib.hid hu
            have HPZ := Lib.hid hpz
            clear hu hpz hbn hR2 hTK2
            go_wp2_with fail
            refine (sb_used hS2.out).mono ?_
            rw [HU.out]
            rintro e w3 ⟨rfl, h3, -⟩
            have H3 := Lib.hid h3
            clear h3
            go_wp2_with fail
            refine (sb_pages H3.out).mono ?_
            rw [HPZ.out]
            rintro e w4 ⟨rfl, h4, -⟩
            have H4 := Lib.hid h4
            clear h4
            go_wp2_with fail
            go_loopw [19, 20] (fun u v wr => ∃ (q : Nat) (f : Nat → Int), q ≤ len ∧ q ≤ 120 ∧ v = .int .i64 q ∧ u = .int .i64 ((runs n zs q).2 : Nat) ∧ Hid (Sb w wr L n (runs n zs q).1 f)) (fun _ v _ => 120 - (intOf v).toNat)
            case atStart => exact ⟨0, f2, Nat.zero_le _, Nat.zero_le _, rfl, rfl, H4⟩
            case round =>
              obtain ⟨q, f5, hq, hq2, rfl, rfl, hS5⟩ := hrel
              have hrl := runs_le n zs q
              by_cases hcq : q < len ∧ q < 120
              · obtain ⟨h1, h2⟩ := hcq
                have d1 : decide ((q : Int) < len) = true := decide_eq_true (by omega)
                have d2 : decide ((q : Int) < 120) = true := decide_eq_true (by omega)
                obtain ⟨b, o, rfl, hblt, hc, hz⟩ := HD.out q h1
                have hc' := (hS5.out.bl.cell (p := ⟨b, o + q, none⟩) hblt).trans hc
                obtain ⟨sz, hsz, hsz1, hsz2, hszz⟩ : ∃ sz : Nat, (z q : Int).tmod 256 = (sz : Int) - 1 ∧ 1 ≤ sz ∧ sz ≤ 256 ∧ zs q = sz := ⟨z q % 256 + 1, by rw [Int.tmod_eq_emod_of_nonneg (by omega)]; omega, by omega, by omega, by rw [HZS.out]⟩
                have hsw : 1 + ((sz : Int) - 1) = sz := by omega
                have hok : alOk (sz : Int) = true := by unfold alOk; rw [decide_eq_true (by omega), decide_eq_true (by omega)]; rfl
                have hrn : (runs n zs (q + 1)).1 = alS n (runs n zs q).1 sz ∧ (runs n zs (q + 1)).2 = if alE n (runs n zs q).1 sz = 0 then (runs n zs q).2 + 1 else (runs n zs q).2 := by rw [← hszz]; exact ⟨rfl, rfl⟩
                have HRN := Lib.hid hrn
                generalize z q = zk at *
                clear hc hszz hrn
                go_wp2_with fail
                refine (sb_alloc (sz : Int) hS5.out).mono ?_
                rintro e w5 ⟨rfl, f6, h5, -, -, -⟩
                rw [← HRN.out.1] at h5
                have H5 := Lib.hid h5
                clear h5
                rcases al_err (n := n) (s := (runs n zs q).1) hok with he | ⟨he, -⟩
                · have HL1 := Lib.hid (show (runs n zs (q + 1)).2 = (runs n zs q).2 + 1 by rw [HRN.out.2, if_pos he])
                  rw [he]
                  clear he
                  generalize alV n (runs n zs q).1 (sz : Int) = av
                  generalize (runs n zs q).2 = rc at *
                  go_wp2
                  go_roundw
                  case rel => exact ⟨q + 1, f6, h1, h2, by go_num, by rw [HL1.out]; simp, H5⟩
                  case measure => simp [intOf]; omega
                · have HL1 := Lib.hid (show (runs n zs (q + 1)).2 = (runs n zs q).2 by rw [HRN.out.2, if_neg (by omega)])
                  rw [he]
                  clear he
                  generalize alV n (runs n zs q).1 (sz : Int) = av
                  generalize (runs n zs q).2 = rc at *
                  go_wp2
                  go_roundw
                  case rel => exact ⟨q + 1, f6, h1, h2, by go_num, by rw [HL1.out], H5⟩
                  case measure => simp [intOf]; omega
              · have hqK : q = K := by omega
                have hm2 : many = (runs n zs q).2 := by rw [hqK]; exact hAL.out
                have keyq : (q < len ∧ q = 120) ∨ ¬ q < len := by omega
                rw [← hm2]
                clear hrl hm2 hcq hqK
                rcases keyq with ⟨h1, rfl⟩ | h1
                · have d1 : decide (((120 : Nat) : Int) < len) = true := decide_eq_true (by omega)
                  go_wp2
                  go_ret
                  exact ⟨rfl, hS5.out.bl⟩
                · have d1 : decide ((q : Int) < len) = false := decide_eq_false (by omega)
                  go_wp2
                  go_ret
                  exact ⟨rfl, hS5.out.bl⟩
          | succ g =>
            obtain ⟨j, hj, hjN⟩ : ∃ j : Nat, turn.tmod ((g : Int) + 1) = (j : Int) ∧ j < g + 1 := ⟨(turn % ((g : Int) + 1)).toNat, by
              rw [Int.tmod_eq_emod_of_nonneg (by omega)]
              have a1 := Int.emod_nonneg turn (show ((g : Int) + 1) ≠ 0 by omega)
              have a2 := Int.emod_lt_of_pos turn (show (0 : Int) < ((g : Int) + 1) by omega)
              omega⟩
            obtain ⟨g1, rfl, hcap, hg1l, hg1B, hbl, hcell⟩ := row_at2 hR2.out (Nat.succ_pos g)
            have hjl : j < bts.length := by omega
            obtain ⟨x, hx⟩ : ∃ x, bts[j]? = some x := ⟨_, List.getElem?_eq_getElem hjl⟩
            have cc1 := hcell j x hx
            have HGV := Lib.hid (hTK2.out.give hS2.out.inv hx)
            have HCL := Lib.hid hcell
            have hjc : j ≤ c2 := by omega
            obtain ⟨W0, hW0⟩ : ∃ W0, W0 = (wr.alloc (.cells #[] 3)).drew := ⟨_, rfl⟩
            have hW0b : Below wr.heap.size wr W0 := by rw [hW0]; exact below_drew ((Below.refl _ wr).alloc (Nat.le_refl _) _)
            have hW0s : W0.heap.size = wr.heap.size + 1 := by rw [hW0]; exact World.size_alloc _ _
            have OW0 : Hid (W0.ownsRow B 3 1 (.slice (some ⟨wr.heap.size, 0, none⟩) 0 0) 0 []) := Lib.hid (by rw [hW0]; exact row_none wr B hBr2)
            have NW1 : Hid (∀ i u, (ints (bts.take j))[i]? = some u → W0.cell? (Addr.add ⟨g1, 0, none⟩ i) = some u) := Lib.hid fun i u hu => by
              obtain ⟨y, hy, rfl⟩ := ints_at hu
              rw [addr_add, Nat.zero_add, hW0b.cell (p := ⟨g1, i, none⟩) hg1l]
              refine HCL.out i y ?_
              rw [List.getElem?_take] at hy
              split at hy
              · exact hy
              · cases hy
            have HB0 := Lib.hid hW0b
            have HW0 := Lib.hid hW0
            have hlt1 : (ints (bts.take j)).length = j := by simp [ints]; omega
            have hlt2 : (ints (bts.drop (j + 1))).length = g - j := by simp [ints]; omega
            have HL1 := Lib.hid hlt1
            have HL2 := Lib.hid hlt2
            clear hx hcell hW0b hlt1 hlt2
            have hwj : IntKind.i64.wrap ((j : Int) + 1) = (j : Int) + 1 := IntWalk.i64_in _ (by omega)
            have htn : ((j : Int) + 1).toNat = j + 1 := by omega
            have h01 : (0 : Int) ≤ (j : Int) + 1 := by omega
            by_cases hce : c2 = j + 1
            · obtain rfl : g = j := by omega
              subst hce
              have hle : (g : Int) ≤ (g : Int) + 1 := by omega
              go_wp2_with fail
              go_region_law (first
                | (rw [← HW0.out]; refine step_append_own W0 rfl (.tmp 80) (.tmp 83) 34 rfl B 3 i0 (.int .i64 0) 1 8 Tryd.underlying34 HX.out HZ0.out HZ1.out HZ2.out rfl (by decide) (.slice (some ⟨wr.heap.size, 0, none⟩) 0 0) 0 [] rfl OW0.out ⟨g1, 0, none⟩ _ _ (ints (bts.take g)) rfl (by rw [HL1.out]; omega) NW1.out (ints_one _) (by unfold maxLen; omega) (by omega) (by omega) ?_; intro v1 W1 hown1 hgr1)
                | (refine step_append_own W1 rfl (.tmp 84) (.tmp 88) 34 rfl B 3 i0 (.int .i64 0) 1 8 Tryd.underlying34 HX.out HZ0.out HZ1.out HZ2.out rfl (by decide) v1 _ _ rfl hown1 ⟨g1, 0, none⟩ _ _ [] rfl (by simp) (fun _ _ h => by simp at h) (fun _ h => by cases h) (by unfold maxLen; omega) (by omega) (by have := hgr1.size; omega) ?_; intro v2 W2 hown2 hgr2))
              have hO2 : Hid (W2.ownsRow B 3 1 v2 g (ints (bts.take g ++ bts.drop (g + 1)))) := Lib.hid (by
                have h := hown2
                rw [show bts.drop (g + 1) = [] from List.drop_eq_nil_of_le (by omega), List.append_nil]
                simpa using h)
              have hB01 : Below B wr W2 := (HB0.out.mono hBr2).trans ((below_of_grown hgr1 (by omega) (fun r e => by cases e; omega)).trans (below_of_grown hgr2 (by have := hgr1.size; omega) (fun r e => (World.ownsRow.lt hown1 r e).1)))
              have S3 := Lib.hid (hS2.out.upto LB.out hB01)
              have hs3 : B ≤ W2.heap.size := Nat.le_trans hBr2 hB01.size
              obtain ⟨A3, c3, hv2⟩ := row_form hO2.out
              have hx1 := HGV.out.2
              have hfe : frE n s x = 0 := by unfold frE; rw [(isB_tkn hS2.out.inv.toInv0 hx1).1]; rfl
              have HFE := Lib.hid hfe
              rw [hv2] at hO2 ⊢
              clear hown1 hown2 hgr1 hgr2 hB01 hfe hx1 hv2
              go_wp2_with fail
              refine (sb_free (x : Int) S3.out).mono ?_
              rw [HFE.out]
              rintro e w3 ⟨rfl, f3, h3, -, hF3⟩
              have hs4 : B ≤ w3.heap.size := Nat.le_trans hs3 hF3.size
              have O3 := Lib.hid (row_keep hO2.out fun k h1 h2 => hF3.block k h2 (by omega) (by omega) (by omega))
              have hnb : isB n (frS n s x) x = false := by
                cases hb : isB n (frS n s x) x with
                | false => rfl
                | true =>
                  have := (isB_iff h3.inv.toInv0 x).1 hb
                  rw [frS_tkn hS2.out.inv HGV.out.2] at this
                  exact absurd rfl this.2
              have hfe2 : frE n (frS n s x) x = 1 := by unfold frE; rw [hnb]; rfl
              have hfs2 : frS n (frS n s x) x = frS n s x := by
                show (if isB n (frS n s x) x then _ else _) = _
                rw [hnb]
                rfl
              have H3 := Lib.hid h3
              have HFE2 := Lib.hid hfe2
              have HFS2 := Lib.hid hfs2
              clear h3 hF3 hnb hfe2 hfs2
              go_wp2_with fail
              refine (sb_free (x : Int) H3.out).mono ?_
              rw [HFE2.out, HFS2.out]
              rintro e w4 ⟨rfl, f4, h4, -, hF4⟩
              have hs5 : B ≤ w4.heap.size := Nat.le_trans hs4 hF4.size
              have O4 := Lib.hid (row_keep O3.out fun k h1 h2 => hF4.block k h2 (by omega) (by omega) (by omega))
              have H4 := Lib.hid h4
              clear h4 hF4
              go_wp2
              go_roundg g
              case measure => omega
              case rel => exact ⟨_, f4, _, A3, c3, rfl, by omega, hs5, H4, O4, Lib.hid HGV.out.1⟩
            · have hjg : j ≤ g := by omega
              have hce' : ¬ c2 = j + 1 := hce
              have NW2 : Hid (∀ (W1 : World), W0.grownBy W1 (some wr.heap.size) → ∀ i u, (ints (bts.drop (j + 1)))[i]? = some u → W1.cell? (Addr.add ⟨g1, j + 1, none⟩ i) = some u) := Lib.hid fun W1 hgr i u hu => by
                obtain ⟨y, hy, rfl⟩ := ints_at hu
                rw [addr_add, World.grownBy.cell_far hgr ⟨g1, j + 1 + i, none⟩ (by show g1 < _; omega) (by simp; omega), HB0.out.cell (p := ⟨g1, j + 1 + i, none⟩) hg1l]
                refine HCL.out (j + 1 + i) y ?_
                rw [List.getElem?_drop] at hy
                exact hy
              go_wp2_with fail
              go_region_law (first
                | (rw [← HW0.out]; refine step_append_own W0 rfl (.tmp 80) (.tmp 83) 34 rfl B 3 i0 (.int .i64 0) 1 8 Tryd.underlying34 HX.out HZ0.out HZ1.out HZ2.out rfl (by decide) (.slice (some ⟨wr.heap.size, 0, none⟩) 0 0) 0 [] rfl OW0.out ⟨g1, 0, none⟩ _ _ (ints (bts.take j)) rfl (by rw [HL1.out]; omega) NW1.out (ints_one _) (by unfold maxLen; omega) (by omega) (by omega) ?_; intro v1 W1 hown1 hgr1)
                | (refine step_append_own W1 rfl (.tmp 84) (.tmp 88) 34 rfl B 3 i0 (.int .i64 0) 1 8 Tryd.underlying34 HX.out HZ0.out HZ1.out HZ2.out rfl (by decide) v1 _ _ rfl hown1 ⟨g1, j + 1, none⟩ _ _ (ints (bts.drop (j + 1))) rfl (by rw [HL2.out]; omega) (NW2.out W1 hgr1) (ints_one _) (by unfold maxLen; omega) (by omega) (by have := hgr1.size; omega) ?_; intro v2 W2 hown2 hgr2))
              have hO2 : Hid (W2.ownsRow B 3 1 v2 g (ints (bts.take j ++ bts.drop (j + 1)))) := Lib.hid (by
                have h := hown2
                rw [show 0 + j + (g - j) = g by omega] at h
                simpa [ints] using h)
              have hB01 : Below B wr W2 := (HB0.out.mono hBr2).trans ((below_of_grown hgr1 (by omega) (fun r e => by cases e; omega)).trans (below_of_grown hgr2 (by have := hgr1.size; omega) (fun r e => (World.ownsRow.lt hown1 r e).1)))
              have S3 := Lib.hid (hS2.out.upto LB.out hB01)
              have hs3 : B ≤ W2.heap.size := Nat.le_trans hBr2 hB01.size
              obtain ⟨A3, c3, hv2⟩ := row_form hO2.out
              have hx1 := HGV.out.2
              have hfe : frE n s x = 0 := by unfold frE; rw [(isB_tkn hS2.out.inv.toInv0 hx1).1]; rfl
              have HFE := Lib.hid hfe
              rw [hv2] at hO2 ⊢
              clear hown1 hown2 hgr1 hgr2 hB01 hfe hx1 hv2
              go_wp2_with fail
              refine (sb_free (x : Int) S3.out).mono ?_
              rw [HFE.out]
              rintro e w3 ⟨rfl, f3, h3, -, hF3⟩
              have hs4 : B ≤ w3.heap.size := Nat.le_trans hs3 hF3.size
              have O3 := Lib.hid (row_keep hO2.out fun k h1 h2 => hF3.block k h2 (by omega) (by omega) (by omega))
              have hnb : isB n (frS n s x) x = false := by
                cases hb : isB n (frS n s x) x with
                | false => rfl
                | true =>
                  have := (isB_iff h3.inv.toInv0 x).1 hb
                  rw [frS_tkn hS2.out.inv HGV.out.2] at this
                  exact absurd rfl this.2
              have hfe2 : frE n (frS n s x) x = 1 := by unfold frE; rw [hnb]; rfl
              have hfs2 : frS n (frS n s x) x = frS n s x := by
                show (if isB n (frS n s x) x then _ else _) = _
                rw [hnb]
                rfl
              have H3 := Lib.hid h3
              have HFE2 := Lib.hid hfe2
              have HFS2 := Lib.hid hfs2
              clear h3 hF3 hnb hfe2 hfs2
              go_wp2_with fail
              refine (sb_free (x : Int) H3.out).mono ?_
              rw [HFE2.out, HFS2.out]
              rintro e w4 ⟨rfl, f4, h4, -, hF4⟩
              have hs5 : B ≤ w4.heap.size := Nat.le_trans hs4 hF4.size
              have O4 := Lib.hid (row_keep O3.out fun k h1 h2 => hF4.block k h2 (by omega) (by omega) (by omega))
              have H4 := Lib.hid h4
              clear h4 hF4
              go_wp2
              go_roundg g
              case measure => omega
              case rel => exact ⟨_, f4, _, A3, c3, rfl, by omega, hs5, H4, O4, Lib.hid HGV.out.1⟩
end Go.Proofs.YthblpnnbkjhmhaaDoor
