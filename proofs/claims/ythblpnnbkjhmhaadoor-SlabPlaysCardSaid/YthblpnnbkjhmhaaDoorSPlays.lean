/- The walk of SlabPlays: it returns true, and nothing that was there has turned. Conditions: the tables lie in their blocks; the deeds' cells are known. -/
import Derived.Test.YthblpnnbkjhmhaaDoorSDeeds
import Derived.Test.YthblpnnbkjhmhaaDoorSApart
namespace Go.Proofs.YthblpnnbkjhmhaaDoor
open Go.RowKit

theorem cell_only {g b o : Nat} {w w' : World} (h : Only g w w') (hb : b ≠ g) : w'.cell? ⟨b, o, none⟩ = w.cell? ⟨b, o, none⟩ := World.cell?_of_block (h.block b hb)
set_option maxRecDepth 100000 in
set_option maxHeartbeats 8000000 in
theorem plays_walk (pages : Int) (A : Option Addr) (len cap : Nat) (place : Int) (w : World) (hD : Deeds w A len ∧ len ≤ 9223372036854775807) (hT : Tbs w) (_hB : True) :
    Calls Tryd.prog 3 #[.int .i64 pages, .slice A len cap, .int .i64 place] w fun e w' => e = .returned (.bool true) ∧ Below w.heap.size w w' := by
  obtain ⟨hD, hlen⟩ := hD
  have HT := Lib.hid hT
  have HD := Lib.hid hD
  clear hT hD
  by_cases hpg : pages < 1 ∨ 128 < pages
  · have hcase : decide (pages < 1) = true ∨ (decide (pages < 1) = false ∧ decide (128 < pages) = true) := by
      rcases hpg with h | h
      · exact .inl (decide_eq_true h)
      · rcases Int.lt_or_le pages 1 with h' | h'
        · exact .inl (decide_eq_true h')
        · exact .inr ⟨decide_eq_false (by omega), decide_eq_true h⟩
    have HP := Lib.hid hpg
    clear hpg
    rcases hcase with d1 | ⟨d1, d2⟩
    all_goals
      go_enter Tryd.func3, Tryd.ntmps3
      go_wp2_with fail
      refine (shownS_any HT.out).mono ?_
      rintro e w1 ⟨rfl, hb⟩
      have B1 := Lib.hid hb
      clear hb
      go_wp2_with fail
      refine (newS_bad pages HP.out).mono ?_
      rintro e w2 ⟨rfl, rfl⟩
      go_wp2
      go_ret
      exact ⟨rfl, B1.out⟩
  obtain ⟨n, rfl⟩ : ∃ n : Nat, pages = n := ⟨pages.toNat, by omega⟩
  have hn1 : 1 ≤ n := by omega
  have hn2 : n ≤ 128 := by omega
  have d1 : decide ((n : Int) < 1) = false := decide_eq_false (by omega)
  have d2 : decide ((128 : Int) < n) = false := decide_eq_false (by omega)
  obtain ⟨i0, hx, hz0, hz1, hz2⟩ := info_parts Tryd.info3
  have HX := Lib.hid hx
  have HZ0 := Lib.hid hz0
  have HZ1 := Lib.hid hz1
  have HZ2 := Lib.hid hz2
  clear hx hz0 hz1 hz2 hpg
  go_enter Tryd.func3, Tryd.ntmps3
  go_wp2_with fail
  refine (shownS_any HT.out).mono ?_
  rintro e w1 ⟨rfl, hb⟩
  have H1 := Lib.hid (HT.out.below hb)
  have B1 := Lib.hid hb
  clear hb
  go_wp2_with fail
  refine (sb_new (w0 := w) n hn1 hn2 H1.out B1.out).mono ?_
  rintro e w2 ⟨L, rfl, h2⟩
  have H2 := Lib.hid h2
  have LB := Lib.hid h2.lb
  have hB2 : w.heap.size ≤ w2.heap.size := h2.bl.size
  have hpos : 0 < w2.heap.size := by have := h2.lb; unfold Lb at this; omega
  clear h2
  obtain ⟨B, hBB⟩ : ∃ B, B = w2.heap.size := ⟨_, rfl⟩
  rw [← hBB] at LB hB2
  have hle2 : B ≤ w2.heap.size := by omega
  clear hBB
  go_wp2_with (first | (go_at_call 11; refine (arena_at H2.out.sl.raw).mono ?_; rintro e w' ⟨rfl, rfl⟩) | (go_at_call 12; refine (len_any _ _ _ _ H2.out.sl.raw.ar.mem).mono ?_; rintro e w' ⟨rfl, rfl⟩))
  refine (rnew_ok (B := ⟨B, 0⟩) n hn2 ⟨hle2, hpos⟩).mono ?_
  rintro e w3 ⟨rfl, hR3, hB3⟩
  have H3 := Lib.hid (H2.out.below hB3)
  have R3 := Lib.hid hR3
  have hb3 : B ≤ w3.heap.size ∧ 0 < w3.heap.size := by have := hB3.size; omega
  obtain ⟨g0, hg0⟩ : ∃ g0, g0 = w2.heap.size := ⟨_, rfl⟩
  rw [← hg0] at R3 ⊢
  clear hR3 hB3 hg0
  go_wp2_with fail
  go_loopw [10, 11, 12] (fun v10 v11 v12 wr => ∃ (k : Nat) (s : St) (f : Nat → Int) (told : List Nat) (A1 : Option Addr) (c1 g cp : Nat) (T : Nat → List Nat) (Q : Nat → Qg) (tb : Nat), k ≤ len ∧ k ≤ 150 ∧ v12 = .int .i64 k ∧ v10 = .slice (some ⟨g, 0, none⟩) n cp ∧ v11 = .slice A1 told.length c1 ∧ told.length ≤ k ∧ B ≤ wr.heap.size ∧ tb < wr.heap.size ∧ Hid (Sb w wr L n s f) ∧ Hid (Rf wr ⟨B, tb⟩ g cp n s T Q) ∧ Hid (Tl s T) ∧ Hid (RI wr B A1 c1 told) ∧ Hid (∀ r, (Value.slice A1 told.length c1).ownBlock = some r → r = tb)) (fun _ _ v _ => 150 - (intOf v).toNat)
  case atStart => exact ⟨0, st0, _, [], none, 0, g0, n, _, _, 0, Nat.zero_le _, Nat.zero_le _, rfl, rfl, rfl, Nat.zero_le _, hb3.1, hb3.2, H3, R3, Lib.hid Tl.start, Lib.hid (RI.nil _ _), Lib.hid fun r h => by cases h⟩
  case round =>
    obtain ⟨k, s, f, told, A1, c1, g, cp, T, Q, tb, hk, hk2, rfl, rfl, rfl, hak, hBr, htb, hS, hR, hTl, hRI, hOB⟩ := hrel
    obtain ⟨l1, l2, l3, l4, l5⟩ := LB.out
    by_cases hc1 : k < len ∧ k < 150
    · obtain ⟨h1, h2⟩ := hc1
      have e1 : decide ((k : Int) < len) = true := decide_eq_true (by omega)
      have e2 : decide ((k : Int) < 150) = true := decide_eq_true (by omega)
      obtain ⟨b, o, kd, N, rfl, hblt, hc0, hc1', hwf⟩ := HD.out k h1
      have q0 := (hS.out.bl.cell (p := ⟨b, o + k * 2, none⟩) hblt).trans hc0
      have q1 := (hS.out.bl.cell (p := ⟨b, o + k * 2 + 1, none⟩) hblt).trans hc1'
      have hNb := bounds_i64 hwf
      obtain ⟨wA, hwA⟩ : ∃ wA, wA = wr.alloc (.cells #[.int .i64 kd, .int .i64 N] 36) := ⟨_, rfl⟩
      have bA : Blk wA wr.heap.size 36 #[.int .i64 kd, .int .i64 N] := by rw [hwA]; exact Blk.new _ _ _
      have lA : Below wr.heap.size wr wA := by rw [hwA]; exact (Below.refl _ _).alloc (Nat.le_refl _) _
      obtain ⟨pb, hpb⟩ : ∃ pb, pb = wr.heap.size := ⟨_, rfl⟩
      rw [← hpb] at bA
      have hpb1 : B ≤ pb := by omega
      have hpb2 : pb ≠ tb := by omega
      have SA := Lib.hid (hS.out.below lA)
      have RA := Lib.hid (hR.out.keep (Kb.below lA))
      have IA := Lib.hid (hRI.out.below lA (Nat.le_refl _))
      have bszA : B ≤ wA.heap.size ∧ tb < wA.heap.size := by have := lA.size; omega
      have HWA := Lib.hid hwA
      have BA := Lib.hid bA
      have cA0 : wA.cell? ⟨pb, 0, none⟩ = some (.int .i64 kd) := bA.cell 0
      have cA1 : wA.cell? ⟨pb, 1, none⟩ = some (.int .i64 N) := bA.cell 1
      rw [hpb, hwA] at cA0 cA1
      have HPB := Lib.hid hpb
      clear hc0 hc1' hwf bA lA hwA hpb
      by_cases hkd : kd = 0
      · subst hkd
        go_wp2_with fail
        rw [← HPB.out, ← HWA.out]
        clear cA0 cA1 q0 q1
        refine (sb_alloc N SA.out).mono ?_
        rintro e w4 ⟨rfl, f4, h4, hkp4, hz4, hF4⟩
        have b4 := BA.out.fr hF4 (by omega) (by omega) (by omega)
        have c41 : w4.cell? ⟨pb, 1, none⟩ = some (.int .i64 N) := b4.cell 1
        have S4 := Lib.hid h4
        have R4 := Lib.hid (RA.out.keep (Kb.fr hF4 l3 l4 l5))
        have I4 := Lib.hid (IA.out.fr hF4 l3 l4 l5)
        have bsz4 : B ≤ w4.heap.size ∧ tb < w4.heap.size := by have := hF4.size; omega
        have B4 := Lib.hid b4
        have HZ4 := Lib.hid hz4
        clear h4 hkp4 hz4 hF4 b4
        go_wp2_with fail
        refine (ralloc_any N R4.out hTl.out hS.out.inv bsz4 hn1).mono ?_
        rintro e w5 ⟨g5, cp5, T5, Q5, rfl, hR5, hT5, hB5⟩
        have S5 := Lib.hid (S4.out.below hB5)
        have R5 := Lib.hid hR5
        have TL5 := Lib.hid hT5
        have I5 := Lib.hid (I4.out.below hB5 (Nat.le_refl _))
        have b5 := B4.out.below hB5 B4.out.lt
        have c51 : w5.cell? ⟨pb, 1, none⟩ = some (.int .i64 N) := b5.cell 1
        have B5 := Lib.hid b5
        have bsz5 : B ≤ w5.heap.size ∧ tb < w5.heap.size := by have := hB5.size; omega
        clear hR5 hT5 hB5 b5 c41
        rcases alE_cases n s N with he | ⟨he, he2, he3⟩
        · obtain ⟨p, a, l, s1, hg⟩ := al_got hS.out.inv he
          have hv := hg.val
          rw [he, hv] at HZ4
          rw [he, hv]
          have hNok : 1 ≤ N ∧ N ≤ 256 := by have := hg.ok; simp [alOk] at this; omega
          obtain ⟨qq1, qq2, qq3, qq4⟩ := hg.page
          have hpn := hg.lt
          have HTK := Lib.hid hg.tkn
          have hac := Lib.hid (congrArg Prod.fst hg.after)
          have hCb := (clsOf_isC N).bd
          clear he hv hg
          generalize alS n s N = s' at *
          obtain ⟨c, hcc⟩ : ∃ c, c = clsOf N := ⟨_, rfl⟩
          have HCC := Lib.hid hcc
          rw [← hcc] at HZ4 qq2 qq3 hac hCb
          clear hcc qq2
          have RIa := Lib.hid (I5.out.alloc (.cells #[.int .i64 (a : Nat)] 3))
          have hal150 : told.length ≤ 150 := by omega
          go_wp2_with (at_builtin; refine wpList_append_lies _ rfl (.tmp 115) (.tmp 117) 34 rfl B 3 i0 (.int .i64 0) 1 8 Tryd.underlying34 HX.out HZ0.out HZ1.out HZ2.out rfl (by decide) _ told.length (ints told) rfl RIa.out.row ⟨w5.heap.size, 0, none⟩ 1 1 [.int .i64 (a : Nat)] rfl rfl (one_news w5 _ _) (by simp [Value.oneCell']) (by decide) (by unfold maxLen; omega) (by omega) (by simp; omega) (w5.heap.size + 1) (by simp) ?_)
          intro gt ct w6 hown hgrow hat hlt
          have hb6 := below_of_grown hgrow (B := B) (by simp; omega) RIa.out.own
          have S6 := Lib.hid ((S5.out.below ((Below.refl _ w5).alloc (Nat.le_refl _) _)).upto LB.out hb6)
          have R6 : Hid (Rf w6 ⟨B, gt⟩ g5 cp5 n s' T5 Q5) := Lib.hid ((R5.out.keep (Kb.below ((Below.refl _ w5).alloc (Nat.le_refl _) (.cells #[.int .i64 (a : Nat)] 3)))).move ⟨hgrow.size, fun k hk hl => hgrow.block k hl (fun e => hk.2 (hOB.out k e.symm))⟩ (by
            rcases hat with h | h
            · exact .inl (hOB.out gt h)
            · right; rw [h]; simp))
          have I6 : Hid (RI w6 B (some ⟨gt, 0, none⟩) ct (told ++ [a])) := Lib.hid ⟨by rw [List.length_append, ints_app]; exact hown, by simp⟩
          have OB6 : Hid (∀ r, (Value.slice (some ⟨gt, 0, none⟩) (told ++ [a]).length ct).ownBlock = some r → r = gt) := Lib.hid fun r h => by cases h; rfl
          have bsz6 : B ≤ w6.heap.size ∧ gt < w6.heap.size := ⟨by have := hb6.size; simp at this; omega, hlt⟩
          have hpl5 : pb < w5.heap.size := B5.out.lt
          have b6 : Blk w6 pb 36 #[.int .i64 0, .int .i64 N] := (hgrow.block pb (by simp; omega) (fun e => hpb2 (hOB.out pb e.symm))).trans (B5.out.alloc _)
          have c61 : w6.cell? ⟨pb, 1, none⟩ = some (.int .i64 N) := b6.cell 1
          have hpl6 : pb < w6.heap.size := b6.lt
          have B6 := Lib.hid b6
          clear hown hgrow hat hlt hb6 b6 c51 hpl5
          have RD6 := Lib.hid S6.out.sl.raw.drew1
          have S6d := Lib.hid (S6.out.below (below_drew (Below.refl _ w6)))
          have C61 := Lib.hid c61
          go_wp2_with fail
          go_region_held3 (fun w' => w'.cell? ⟨pb, 1, none⟩ = some (.int .i64 N)) (first | go_keep | exact C61.out | exact E2.out | exact E1.out) (first
            | (go_at_call 11; (with_reducible refine (arena_at RD6.out).mono ?_); rintro e w' ⟨rfl, rfl⟩)
            | (go_at_call 11; (with_reducible refine (arena_at RC.out).mono ?_); rintro e w' ⟨rfl, rfl⟩)
            | (go_at_call 17; (with_reducible refine (rclass_any (w := w6.drew) N hNok.2).mono ?_); rw [← HCC.out]; rintro e wc ⟨rfl, hBc⟩; have SC := Lib.hid (S6d.out.below hBc); have RC := Lib.hid SC.out.sl.raw; have E1 := Lib.hid ((hBc.cell (p := ⟨pb, 1, none⟩) hpl6).trans C61.out); replace hBc := Lib.hid hBc)
            | (go_at_call 16; (with_reducible refine (bytes_ok L.pa L.ga (512 * n) f4 a c RC.out.ar (by omega)).mono ?_); rintro e wb ⟨rfl, hbk, hBb⟩; have E2 := Lib.hid ((hBb.cell (p := ⟨pb, 1, none⟩) (Nat.lt_of_lt_of_le hpl6 hBc.out.size)).trans E1.out); replace hbk := Lib.hid hbk; replace hBb := Lib.hid hBb))
          all_goals
            have hbw : Below w6.heap.size w6 wb := (below_drew (Below.refl _ w6)).trans (Below.trans hBc.out (hBb.out.mono hBc.out.size))
            have S7 := Lib.hid (S6.out.below hbw)
            have R7 := Lib.hid (R6.out.keep (Kb.below hbw))
            have I7 := Lib.hid (I6.out.below hbw (Nat.le_refl _))
            have b7 := B6.out.below hbw hpl6
            have c71 : wb.cell? ⟨pb, 1, none⟩ = some (.int .i64 N) := b7.cell 1
            have hpl7 : pb < wb.heap.size := b7.lt
            have bsz7 : B ≤ wb.heap.size ∧ gt < wb.heap.size := by have := hbw.size; omega
            have hz7 : Hid (∀ j : Nat, j < c → wb.cell? ⟨wc.heap.size, j, none⟩ = some (.int .u8 0)) := Lib.hid fun j hj => by
              have h5 := hbk.out.cell j
              rw [row_at _ _ _ hj, HZ4.out (by first | trivial | rfl) (a + j) (by omega) (by omega)] at h5
              exact h5
            generalize wc.heap.size = bb at hz7 ⊢
            have S7d := Lib.hid (S7.out.below (below_drew (Below.refl _ wb)))
            have RD7 := Lib.hid S7.out.sl.raw.drew1
            have C71 := Lib.hid c71
            clear hbk hBb hBc hbw b7 SC RC E1 E2 c61 RD6 S6d C61 S6 R6 I6
            go_wp2_with fail
            go_loop [21] (fun v => ∃ j : Nat, j ≤ c ∧ v = .int .i64 j) (fun v => c - (intOf v).toNat)
            case atStart => exact ⟨0, Nat.zero_le _, rfl⟩
            case round =>
              obtain ⟨j, hj, rfl⟩ := hrel
              by_cases hjc : j < c
              · have hcj := hz7.out j hjc
                go_wp2
                go_round
                case rel => exact ⟨j + 1, hjc, by go_num⟩
                case measure => simp [intOf]; omega
              · go_wp2_with fail
                go_region_held3 (fun w' => w'.cell? ⟨pb, 1, none⟩ = some (.int .i64 N)) (first | go_keep | exact C71.out | exact E4.out | exact E3.out) (first
                  | (go_at_call 11; (with_reducible refine (arena_at RD7.out).mono ?_); rintro e w' ⟨rfl, rfl⟩)
                  | (go_at_call 11; (with_reducible refine (arena_at RC2.out).mono ?_); rintro e w' ⟨rfl, rfl⟩)
                  | (go_at_call 17; (with_reducible refine (rclass_any (w := wb.drew) N hNok.2).mono ?_); rw [← HCC.out]; rintro e wd ⟨rfl, hBd⟩; have SC2 := Lib.hid (S7d.out.below hBd); have RC2 := Lib.hid SC2.out.sl.raw; have E3 := Lib.hid ((hBd.cell (p := ⟨pb, 1, none⟩) hpl7).trans C71.out); replace hBd := Lib.hid hBd)
                  | (go_at_call 18; (with_reducible refine (fill_ok L.pa L.ga (512 * n) f4 a c 255 RC2.out.ar (by omega) (by omega)).mono ?_); rintro e wf ⟨rfl, hAf, hOf⟩; have E4 := Lib.hid ((cell_only hOf (show pb ≠ L.ga by omega)).trans E3.out); replace hAf := Lib.hid hAf; replace hOf := Lib.hid hOf))
                all_goals
                  have hbd : Below wb.heap.size wb wd := (below_drew (Below.refl _ wb)).trans hBd.out
                  have hFf : Fr L.ga L.pp L.gp wd wf := Fr.of_only hOf.out (.inl rfl)
                  have S8 := Lib.hid (SC2.out.fr hFf (SC2.out.sl.written HTK.out (by rw [hac.out]; exact Nat.le_refl _) hOf.out hAf.out))
                  have R8 := Lib.hid ((R7.out.keep (Kb.below hbd)).keep (Kb.fr hFf l3 l4 l5))
                  have I8 := Lib.hid ((I7.out.below hbd (Nat.le_refl _)).fr hFf l3 l4 l5)
                  have bsz8 : B ≤ wf.heap.size ∧ gt < wf.heap.size := by have := hbd.size; have := hFf.size; omega
                  clear hAf hOf hBd hbd hFf SC2 RC2 E3 E4 c71 RD7 S7d C71 S7 R7 I7
                  have hus := Lib.hid (usd_le S8.out.inv.toInv0 n)
                  go_wp2_with fail
                  refine (sb_used S8.out).mono ?_
                  rintro e wu1 ⟨rfl, hu1, hbu1⟩
                  have SU1 := Lib.hid hu1
                  have RU1 := Lib.hid (R8.out.keep (Kb.below hbu1))
                  have IU1 := Lib.hid (I8.out.below hbu1 (Nat.le_refl _))
                  have bU1 : B ≤ wu1.heap.size ∧ gt < wu1.heap.size := by have := hbu1.size; omega
                  clear hu1 hbu1
                  go_wp2_with fail
                  refine (rused_any RU1.out TL5.out SU1.out.inv.toInv0).mono ?_
                  rintro e wu2 ⟨rfl, hbu2⟩
                  have SU2 := Lib.hid (SU1.out.below hbu2)
                  have RU2 := Lib.hid (RU1.out.keep (Kb.below hbu2))
                  have IU2 := Lib.hid (IU1.out.below hbu2 (Nat.le_refl _))
                  have bU2 : B ≤ wu2.heap.size ∧ gt < wu2.heap.size := by have := hbu2.size; omega
                  clear hbu2 bU1
                  generalize usd s' n = usn
                  go_wp2_with fail
                  refine (sb_pages SU2.out).mono ?_
                  rintro e wu3 ⟨rfl, hu3, hbu3⟩
                  have SU3 := Lib.hid hu3
                  have RU3 := Lib.hid (RU2.out.keep (Kb.below hbu3))
                  have IU3 := Lib.hid (IU2.out.below hbu3 (Nat.le_refl _))
                  have bU3 : B ≤ wu3.heap.size ∧ gt < wu3.heap.size := by have := hbu3.size; omega
                  clear hu3 hbu3 bU2
                  go_wp2_with fail
                  refine (rpages_any RU3.out).mono ?_
                  rintro e wu4 ⟨rfl, rfl⟩
                  generalize pgs s' n = pgn
                  go_wp2
                  go_roundw
                  case rel => exact ⟨k + 1, s', _, (told ++ [a]), (some ⟨gt, 0, none⟩), ct, g5, cp5, T5, Q5, gt, h1, h2, by go_num, rfl, by rw [List.length_append]; rfl, by rw [List.length_append]; simp; omega, bU3.1, bU3.2, SU3, RU3, TL5, IU3, OB6⟩
                  case measure => simp [intOf]; omega
        · generalize hev : alE n s N = ev at *
          have hevb : (ev == 0) = false := by rw [beq_eq_false_iff_ne]; exact he
          generalize alV n s N = av at *
          clear hev HZ4
          generalize alS n s N = s' at *
          have hus := Lib.hid (usd_le S5.out.inv.toInv0 n)
          go_wp2_with fail
          refine (sb_used S5.out).mono ?_
          rintro e wu1 ⟨rfl, hu1, hbu1⟩
          have SU1 := Lib.hid hu1
          have RU1 := Lib.hid (R5.out.keep (Kb.below hbu1))
          have IU1 := Lib.hid (I5.out.below hbu1 (Nat.le_refl _))
          have bU1 : B ≤ wu1.heap.size ∧ tb < wu1.heap.size := by have := hbu1.size; omega
          clear hu1 hbu1
          go_wp2_with fail
          refine (rused_any RU1.out TL5.out SU1.out.inv.toInv0).mono ?_
          rintro e wu2 ⟨rfl, hbu2⟩
          have SU2 := Lib.hid (SU1.out.below hbu2)
          have RU2 := Lib.hid (RU1.out.keep (Kb.below hbu2))
          have IU2 := Lib.hid (IU1.out.below hbu2 (Nat.le_refl _))
          have bU2 : B ≤ wu2.heap.size ∧ tb < wu2.heap.size := by have := hbu2.size; omega
          clear hbu2 bU1
          generalize usd s' n = usn
          go_wp2_with fail
          refine (sb_pages SU2.out).mono ?_
          rintro e wu3 ⟨rfl, hu3, hbu3⟩
          have SU3 := Lib.hid hu3
          have RU3 := Lib.hid (RU2.out.keep (Kb.below hbu3))
          have IU3 := Lib.hid (IU2.out.below hbu3 (Nat.le_refl _))
          have bU3 : B ≤ wu3.heap.size ∧ tb < wu3.heap.size := by have := hbu3.size; omega
          clear hu3 hbu3 bU2
          go_wp2_with fail
          refine (rpages_any RU3.out).mono ?_
          rintro e wu4 ⟨rfl, rfl⟩
          generalize pgs s' n = pgn
          go_wp2
          go_roundw
          case rel => exact ⟨k + 1, s', f4, told, A1, c1, g5, cp5, T5, Q5, tb, h1, h2, by go_num, rfl, rfl, by omega, bU3.1, bU3.2, SU3, RU3, TL5, IU3, hOB⟩
          case measure => simp [intOf]; omega
      · have hkb : (kd == 0) = false := by rw [beq_eq_false_iff_ne]; exact hkd
        by_cases hk1 : kd = 1
        · subst hk1
          clear hkd hkb
          by_cases hN0 : 0 ≤ N
          · have dN : decide (0 ≤ N) = true := decide_eq_true hN0
            by_cases htl : told.length = 0
            · have hlz : ((told.length : Nat) : Int) = 0 := by omega
              have hdt : decide ((0 : Int) < ((told.length : Nat) : Int)) = false := decide_eq_false (by omega)
              go_wp2_with fail
              rw [← HPB.out, ← HWA.out]
              clear cA0 cA1 q0 q1
              refine (sb_free N SA.out).mono ?_
              rintro e w4 ⟨rfl, f4, h4, -, hF4⟩
              have S4 := Lib.hid h4
              have R4 := Lib.hid (RA.out.keep (Kb.fr hF4 l3 l4 l5))
              have I4 := Lib.hid (IA.out.fr hF4 l3 l4 l5)
              have bsz4 : B ≤ w4.heap.size ∧ tb < w4.heap.size := by have := hF4.size; omega
              clear h4 hF4
              go_wp2_with fail
              refine (rfree_any N R4.out hTl.out hS.out.inv bsz4).mono ?_
              rintro e w5 ⟨g5, cp5, T5, Q5, rfl, hR5, hT5, hB5⟩
              have S5 := Lib.hid (S4.out.below hB5)
              have R5 := Lib.hid hR5
              have TL5 := Lib.hid hT5
              have I5 := Lib.hid (I4.out.below hB5 (Nat.le_refl _))
              have bsz5 : B ≤ w5.heap.size ∧ tb < w5.heap.size := by have := hB5.size; omega
              clear hR5 hT5 hB5
              generalize frE n s N = fe at *
              generalize frS n s N = s' at *
              have hus := Lib.hid (usd_le S5.out.inv.toInv0 n)
              go_wp2_with fail
              refine (sb_used S5.out).mono ?_
              rintro e wu1 ⟨rfl, hu1, hbu1⟩
              have SU1 := Lib.hid hu1
              have RU1 := Lib.hid (R5.out.keep (Kb.below hbu1))
              have IU1 := Lib.hid (I5.out.below hbu1 (Nat.le_refl _))
              have bU1 : B ≤ wu1.heap.size ∧ tb < wu1.heap.size := by have := hbu1.size; omega
              clear hu1 hbu1
              go_wp2_with fail
              refine (rused_any RU1.out TL5.out SU1.out.inv.toInv0).mono ?_
              rintro e wu2 ⟨rfl, hbu2⟩
              have SU2 := Lib.hid (SU1.out.below hbu2)
              have RU2 := Lib.hid (RU1.out.keep (Kb.below hbu2))
              have IU2 := Lib.hid (IU1.out.below hbu2 (Nat.le_refl _))
              have bU2 : B ≤ wu2.heap.size ∧ tb < wu2.heap.size := by have := hbu2.size; omega
              clear hbu2 bU1
              generalize usd s' n = usn
              go_wp2_with fail
              refine (sb_pages SU2.out).mono ?_
              rintro e wu3 ⟨rfl, hu3, hbu3⟩
              have SU3 := Lib.hid hu3
              have RU3 := Lib.hid (RU2.out.keep (Kb.below hbu3))
              have IU3 := Lib.hid (IU2.out.below hbu3 (Nat.le_refl _))
              have bU3 : B ≤ wu3.heap.size ∧ tb < wu3.heap.size := by have := hbu3.size; omega
              clear hu3 hbu3 bU2
              go_wp2_with fail
              refine (rpages_any RU3.out).mono ?_
              rintro e wu4 ⟨rfl, rfl⟩
              generalize pgs s' n = pgn
              go_wp2
              go_roundw
              case rel => exact ⟨k + 1, s', f4, told, A1, c1, g5, cp5, T5, Q5, tb, h1, h2, by go_num, rfl, (by first | rfl | rw [htl]), by omega, bU3.1, bU3.2, SU3, RU3, TL5, IU3, hOB⟩
              case measure => simp [intOf]; omega
            · have htp : 0 < told.length := by omega
              obtain ⟨j, hj, hjl⟩ : ∃ j : Nat, N.tmod ((told.length : Nat) : Int) = (j : Int) ∧ j < told.length := ⟨(N % ((told.length : Nat) : Int)).toNat, by
                rw [Int.tmod_eq_emod_of_nonneg hN0]
                have a1 := Int.emod_nonneg N (show ((told.length : Nat) : Int) ≠ 0 by omega)
                have a2 := Int.emod_lt_of_pos N (show (0 : Int) < ((told.length : Nat) : Int) by omega)
                omega⟩
              obtain ⟨g1, rfl, cc1⟩ := hRI.out.at j hjl
              obtain ⟨y, hy⟩ : ∃ y, told[j] = y := ⟨_, rfl⟩
              rw [hy] at cc1
              have cc2 := cell_al (.cells #[.int .i64 1, .int .i64 N] 36) cc1
              clear hy cc1
              go_wp2_with fail
              rw [← HPB.out, ← HWA.out]
              clear cA0 cA1 q0 q1
              refine (sb_free (y : Int) SA.out).mono ?_
              rintro e w4 ⟨rfl, f4, h4, -, hF4⟩
              have S4 := Lib.hid h4
              have R4 := Lib.hid (RA.out.keep (Kb.fr hF4 l3 l4 l5))
              have I4 := Lib.hid (IA.out.fr hF4 l3 l4 l5)
              have bsz4 : B ≤ w4.heap.size ∧ tb < w4.heap.size := by have := hF4.size; omega
              clear h4 hF4
              go_wp2_with fail
              refine (rfree_any (y : Int) R4.out hTl.out hS.out.inv bsz4).mono ?_
              rintro e w5 ⟨g5, cp5, T5, Q5, rfl, hR5, hT5, hB5⟩
              have S5 := Lib.hid (S4.out.below hB5)
              have R5 := Lib.hid hR5
              have TL5 := Lib.hid hT5
              have I5 := Lib.hid (I4.out.below hB5 (Nat.le_refl _))
              have bsz5 : B ≤ w5.heap.size ∧ tb < w5.heap.size := by have := hB5.size; omega
              clear hR5 hT5 hB5
              generalize frE n s (y : Int) = fe at *
              generalize frS n s (y : Int) = s' at *
              have hus := Lib.hid (usd_le S5.out.inv.toInv0 n)
              go_wp2_with fail
              refine (sb_used S5.out).mono ?_
              rintro e wu1 ⟨rfl, hu1, hbu1⟩
              have SU1 := Lib.hid hu1
              have RU1 := Lib.hid (R5.out.keep (Kb.below hbu1))
              have IU1 := Lib.hid (I5.out.below hbu1 (Nat.le_refl _))
              have bU1 : B ≤ wu1.heap.size ∧ tb < wu1.heap.size := by have := hbu1.size; omega
              clear hu1 hbu1
              go_wp2_with fail
              refine (rused_any RU1.out TL5.out SU1.out.inv.toInv0).mono ?_
              rintro e wu2 ⟨rfl, hbu2⟩
              have SU2 := Lib.hid (SU1.out.below hbu2)
              have RU2 := Lib.hid (RU1.out.keep (Kb.below hbu2))
              have IU2 := Lib.hid (IU1.out.below hbu2 (Nat.le_refl _))
              have bU2 : B ≤ wu2.heap.size ∧ tb < wu2.heap.size := by have := hbu2.size; omega
              clear hbu2 bU1
              generalize usd s' n = usn
              go_wp2_with fail
              refine (sb_pages SU2.out).mono ?_
              rintro e wu3 ⟨rfl, hu3, hbu3⟩
              have SU3 := Lib.hid hu3
              have RU3 := Lib.hid (RU2.out.keep (Kb.below hbu3))
              have IU3 := Lib.hid (IU2.out.below hbu3 (Nat.le_refl _))
              have bU3 : B ≤ wu3.heap.size ∧ tb < wu3.heap.size := by have := hbu3.size; omega
              clear hu3 hbu3 bU2
              go_wp2_with fail
              refine (rpages_any RU3.out).mono ?_
              rintro e wu4 ⟨rfl, rfl⟩
              generalize pgs s' n = pgn
              go_wp2
              go_roundw
              case rel => exact ⟨k + 1, s', f4, told, (some ⟨g1, 0, none⟩), c1, g5, cp5, T5, Q5, tb, h1, h2, by go_num, rfl, rfl, by omega, bU3.1, bU3.2, SU3, RU3, TL5, IU3, hOB⟩
              case measure => simp [intOf]; omega
          · have dN : decide (0 ≤ N) = false := decide_eq_false hN0
            go_wp2_with fail
            rw [← HPB.out, ← HWA.out]
            clear cA0 cA1 q0 q1
            refine (sb_free N SA.out).mono ?_
            rintro e w4 ⟨rfl, f4, h4, -, hF4⟩
            have S4 := Lib.hid h4
            have R4 := Lib.hid (RA.out.keep (Kb.fr hF4 l3 l4 l5))
            have I4 := Lib.hid (IA.out.fr hF4 l3 l4 l5)
            have bsz4 : B ≤ w4.heap.size ∧ tb < w4.heap.size := by have := hF4.size; omega
            clear h4 hF4
            go_wp2_with fail
            refine (rfree_any N R4.out hTl.out hS.out.inv bsz4).mono ?_
            rintro e w5 ⟨g5, cp5, T5, Q5, rfl, hR5, hT5, hB5⟩
            have S5 := Lib.hid (S4.out.below hB5)
            have R5 := Lib.hid hR5
            have TL5 := Lib.hid hT5
            have I5 := Lib.hid (I4.out.below hB5 (Nat.le_refl _))
            have bsz5 : B ≤ w5.heap.size ∧ tb < w5.heap.size := by have := hB5.size; omega
            clear hR5 hT5 hB5
            generalize frE n s N = fe at *
            generalize frS n s N = s' at *
            have hus := Lib.hid (usd_le S5.out.inv.toInv0 n)
            go_wp2_with fail
            refine (sb_used S5.out).mono ?_
            rintro e wu1 ⟨rfl, hu1, hbu1⟩
            have SU1 := Lib.hid hu1
            have RU1 := Lib.hid (R5.out.keep (Kb.below hbu1))
            have IU1 := Lib.hid (I5.out.below hbu1 (Nat.le_refl _))
            have bU1 : B ≤ wu1.heap.size ∧ tb < wu1.heap.size := by have := hbu1.size; omega
            clear hu1 hbu1
            go_wp2_with fail
            refine (rused_any RU1.out TL5.out SU1.out.inv.toInv0).mono ?_
            rintro e wu2 ⟨rfl, hbu2⟩
            have SU2 := Lib.hid (SU1.out.below hbu2)
            have RU2 := Lib.hid (RU1.out.keep (Kb.below hbu2))
            have IU2 := Lib.hid (IU1.out.below hbu2 (Nat.le_refl _))
            have bU2 : B ≤ wu2.heap.size ∧ tb < wu2.heap.size := by have := hbu2.size; omega
            clear hbu2 bU1
            generalize usd s' n = usn
            go_wp2_with fail
            refine (sb_pages SU2.out).mono ?_
            rintro e wu3 ⟨rfl, hu3, hbu3⟩
            have SU3 := Lib.hid hu3
            have RU3 := Lib.hid (RU2.out.keep (Kb.below hbu3))
            have IU3 := Lib.hid (IU2.out.below hbu3 (Nat.le_refl _))
            have bU3 : B ≤ wu3.heap.size ∧ tb < wu3.heap.size := by have := hbu3.size; omega
            clear hu3 hbu3 bU2
            go_wp2_with fail
            refine (rpages_any RU3.out).mono ?_
            rintro e wu4 ⟨rfl, rfl⟩
            generalize pgs s' n = pgn
            go_wp2
            go_roundw
            case rel => exact ⟨k + 1, s', f4, told, A1, c1, g5, cp5, T5, Q5, tb, h1, h2, by go_num, rfl, rfl, by omega, bU3.1, bU3.2, SU3, RU3, TL5, IU3, hOB⟩
            case measure => simp [intOf]; omega
        · have hk1b : (kd == 1) = false := by rw [beq_eq_false_iff_ne]; exact hk1
          go_wp2_with fail
          rw [← HPB.out, ← HWA.out]
          clear cA0 cA1 q0 q1
          refine (sb_free N SA.out).mono ?_
          rintro e w4 ⟨rfl, f4, h4, -, hF4⟩
          have S4 := Lib.hid h4
          have R4 := Lib.hid (RA.out.keep (Kb.fr hF4 l3 l4 l5))
          have I4 := Lib.hid (IA.out.fr hF4 l3 l4 l5)
          have bsz4 : B ≤ w4.heap.size ∧ tb < w4.heap.size := by have := hF4.size; omega
          clear h4 hF4
          go_wp2_with fail
          refine (rfree_any N R4.out hTl.out hS.out.inv bsz4).mono ?_
          rintro e w5 ⟨g5, cp5, T5, Q5, rfl, hR5, hT5, hB5⟩
          have S5 := Lib.hid (S4.out.below hB5)
          have R5 := Lib.hid hR5
          have TL5 := Lib.hid hT5
          have I5 := Lib.hid (I4.out.below hB5 (Nat.le_refl _))
          have bsz5 : B ≤ w5.heap.size ∧ tb < w5.heap.size := by have := hB5.size; omega
          clear hR5 hT5 hB5
          generalize frE n s N = fe at *
          generalize frS n s N = s' at *
          have hus := Lib.hid (usd_le S5.out.inv.toInv0 n)
          go_wp2_with fail
          refine (sb_used S5.out).mono ?_
          rintro e wu1 ⟨rfl, hu1, hbu1⟩
          have SU1 := Lib.hid hu1
          have RU1 := Lib.hid (R5.out.keep (Kb.below hbu1))
          have IU1 := Lib.hid (I5.out.below hbu1 (Nat.le_refl _))
          have bU1 : B ≤ wu1.heap.size ∧ tb < wu1.heap.size := by have := hbu1.size; omega
          clear hu1 hbu1
          go_wp2_with fail
          refine (rused_any RU1.out TL5.out SU1.out.inv.toInv0).mono ?_
          rintro e wu2 ⟨rfl, hbu2⟩
          have SU2 := Lib.hid (SU1.out.below hbu2)
          have RU2 := Lib.hid (RU1.out.keep (Kb.below hbu2))
          have IU2 := Lib.hid (IU1.out.below hbu2 (Nat.le_refl _))
          have bU2 : B ≤ wu2.heap.size ∧ tb < wu2.heap.size := by have := hbu2.size; omega
          clear hbu2 bU1
          generalize usd s' n = usn
          go_wp2_with fail
          refine (sb_pages SU2.out).mono ?_
          rintro e wu3 ⟨rfl, hu3, hbu3⟩
          have SU3 := Lib.hid hu3
          have RU3 := Lib.hid (RU2.out.keep (Kb.below hbu3))
          have IU3 := Lib.hid (IU2.out.below hbu3 (Nat.le_refl _))
          have bU3 : B ≤ wu3.heap.size ∧ tb < wu3.heap.size := by have := hbu3.size; omega
          clear hu3 hbu3 bU2
          go_wp2_with fail
          refine (rpages_any RU3.out).mono ?_
          rintro e wu4 ⟨rfl, rfl⟩
          generalize pgs s' n = pgn
          go_wp2
          go_roundw
          case rel => exact ⟨k + 1, s', f4, told, A1, c1, g5, cp5, T5, Q5, tb, h1, h2, by go_num, rfl, rfl, by omega, bU3.1, bU3.2, SU3, RU3, TL5, IU3, hOB⟩
          case measure => simp [intOf]; omega
    · have key : (k < len ∧ k = 150) ∨ ¬ k < len := by omega
      have hak2 : told.length ≤ 150 := by omega
      clear hc1
      rcases key with ⟨h1, rfl⟩ | h1
      all_goals
        first
        | (have x1 : decide (((150 : Nat) : Int) < len) = true := decide_eq_true (by omega)
           go_wp2
           clear x1 h1)
        | (have x1 : decide ((k : Int) < len) = false := decide_eq_false (by omega)
           go_wp2
           clear x1 h1)
        go_loopw [26] (fun v wr2 => ∃ i : Nat, i ≤ told.length ∧ v = .int .i64 i ∧ Hid (Sb w wr2 L n s f) ∧ Hid (Rf wr2 ⟨B, tb⟩ g cp n s T Q) ∧ Hid (RI wr2 B A1 c1 told)) (fun v _ => told.length - (intOf v).toNat)
        case atStart => exact ⟨0, Nat.zero_le _, rfl, hS, hR, hRI⟩
        case round =>
          obtain ⟨i, hi, rfl, hS2, hR2, hI2⟩ := hrel
          by_cases hlt : i < told.length
          · obtain ⟨g1, rfl, cc1⟩ := hI2.out.at i hlt
            obtain ⟨x, hx⟩ : ∃ x, told[i] = x := ⟨_, rfl⟩
            rw [hx] at cc1
            have hg1l : g1 < wr.heap.size := (World.ownsRow.lt hI2.out.row g1 rfl).2
            clear hx
            go_wp2_with fail
            refine (sb_block (x : Int) hS2.out).mono ?_
            rintro e w4 ⟨rfl, h4, hb4⟩
            have S4 := Lib.hid h4
            have R4 := Lib.hid (hR2.out.keep (Kb.below hb4))
            have I4 := Lib.hid (hI2.out.below hb4 (Nat.le_refl _))
            have cc2 := (hb4.cell (p := ⟨g1, i, none⟩) hg1l).trans cc1
            clear h4 hb4 cc1
            go_wp2_with fail
            refine (rblock_any (x : Int) R4.out hTl.out S4.out.inv.toInv0).mono ?_
            rintro e w5 ⟨rfl, rfl⟩
            generalize bkV n s (x : Int) = bv
            generalize isB n s (x : Int) = ib
            cases ib
            all_goals
              go_wp2
              go_roundw
              case rel => exact ⟨i + 1, hlt, by go_num, S4, R4, I4⟩
              case measure => simp [intOf]; omega
          · go_wp2_with fail
            refine (sb_block place hS2.out).mono ?_
            rintro e w4 ⟨rfl, h4, hb4⟩
            have S4 := Lib.hid h4
            have R4 := Lib.hid (hR2.out.keep (Kb.below hb4))
            clear h4 hb4
            go_wp2_with fail
            refine (rblock_any place R4.out hTl.out S4.out.inv.toInv0).mono ?_
            rintro e w5 ⟨rfl, rfl⟩
            generalize bkV n s place = bv
            generalize isB n s place = ib
            cases ib
            all_goals
              go_wp2
              go_ret
              exact ⟨rfl, S4.out.bl⟩
end Go.Proofs.YthblpnnbkjhmhaaDoor
