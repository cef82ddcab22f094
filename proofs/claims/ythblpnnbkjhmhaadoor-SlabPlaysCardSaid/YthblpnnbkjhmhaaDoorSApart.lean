/- The walk of SlabApart: it returns true, and nothing that was there has turned. Condition: the tables lie in their blocks. -/
import Derived.Test.YthblpnnbkjhmhaaDoorSUsd
import Derived.Deep.RegionHeld3
namespace Go.Proofs.YthblpnnbkjhmhaaDoor
open Go.RowKit

/-- Blocks that were taken, each with its number written in it. -/
structure Apt (n : Nat) (s : St) (f : Nat → Int) (ats lens : List Nat) : Prop where
  len : lens.length = ats.length
  tkn : ∀ j a z, ats[j]? = some a → lens[j]? = some z → Tkn s (a / 512) a ∧ z ≤ (s (a / 512)).1 ∧ (∀ x, a ≤ x → x < a + z → f x = ((j % 256 : Nat) : Int)) ∧ a + z ≤ 512 * n
  used : ats.length ≤ usd s n
section
variable {n : Nat} {s : St} {size : Int} {k a : Nat} {l : List Nat} {s1 : St} {f f' : Nat → Int} {ats lens : List Nat}
theorem Apt.nil (n : Nat) (s : St) (f : Nat → Int) : Apt n s f [] [] := ⟨rfl, fun _ _ _ h => by simp at h, Nat.zero_le _⟩
theorem Apt.same (h : Apt n s f ats lens) (hk : ∀ x, inT s x → f' x = f x) : Apt n s f' ats lens := by
  refine ⟨h.len, fun j a z h1 h2 => ?_, h.used⟩
  obtain ⟨t1, t2, t3, t4⟩ := h.tkn j a z h1 h2
  exact ⟨t1, t2, fun x x1 x2 => by rw [hk x ⟨a / 512, a, t1, x1, by omega⟩, t3 x x1 x2], t4⟩
theorem Apt.take (h : Apt n s f ats lens) (hg : Got n s size k a l s1) (hI : Inv n s) (hI' : Inv n (alS n s size)) (hk : ∀ x, inT s x → f' x = f x) {z : Nat} (hz : z ≤ clsOf size) :
    Apt n (alS n s size) (fl f' a ((ats.length % 256 : Nat) : Int) z) (ats ++ [a]) (lens ++ [z]) := by
  obtain ⟨q1, q2, q3, q4⟩ := hg.page
  refine ⟨by simp [h.len], fun j b y h1 h2 => ?_, by rw [hg.usd, List.length_append]; have := h.used; have := (clsOf_isC size).bd; simp; omega⟩
  rcases Nat.lt_or_ge j ats.length with hj | hj
  · rw [List.getElem?_append_left hj] at h1
    rw [List.getElem?_append_left (by rw [h.len]; exact hj)] at h2
    obtain ⟨t1, t2, t3, t4⟩ := h.tkn j b y h1 h2
    obtain ⟨u1, u2⟩ := hg.keep t1
    refine ⟨u1, by rw [u2]; exact t2, fun x x1 x2 => ?_, t4⟩
    have hne := hg.new hI t1
    have hf := far hI'.toInv0 hg.tkn.1 u1.1 (fun e => hne e.symm)
    rw [u2, hg.after] at hf
    dsimp only at hf
    unfold fl
    rw [if_neg (by omega), hk x ⟨b / 512, b, t1, x1, by omega⟩, t3 x x1 x2]
  · have hj2 : j = ats.length := by
      have : j < (ats ++ [a]).length := (List.getElem?_eq_some_iff.1 h1).1
      simp at this
      omega
    subst hj2
    rw [List.getElem?_append_right (Nat.le_refl _)] at h1
    rw [List.getElem?_append_right (by rw [h.len]; exact Nat.le_refl _), h.len] at h2
    simp at h1 h2
    subst h1 h2
    rw [q1]
    refine ⟨hg.tkn, by rw [hg.after]; exact hz, fun x x1 x2 => by unfold fl; rw [if_pos ⟨x1, x2⟩], ?_⟩
    have := hg.lt
    omega
end

theorem Apt.differ {n : Nat} {s : St} {f : Nat → Int} {ats lens : List Nat} (h : Apt n s f ats lens) (hI : Inv n s) : ∀ x y, ats[0]? = some x → lens[0]? = some y → x ≠ y := by
  intro x y h1 h2
  obtain ⟨t1, t2, _, _⟩ := h.tkn 0 x y h1 h2
  have h3 := (page_lt hI.toInv0 t1.1).1
  have h4 := cls_le hI.toInv0 (x / 512)
  omega
/-- Writing in a taken block. -/
theorem Sl.written {w w' : World} {L : Pt} {n : Nat} {s : St} {f : Nat → Int} {i a z : Nat} {v : Int} (h : Sl w L n s f) (ht : Tkn s i a) (hz : z ≤ (s i).1) (ho : Only L.ga w w') (hA : Ar w' L.pa L.ga (512 * n) (fl f a v z)) : Sl w' L n s (fl f a v z) := by
  refine ⟨h.raw.ofAr ho hA, h.inv, fun k => (h.lnk k).congr fun b hb x h1 h2 => ?_⟩
  have hb' := h.inv.free k b hb
  have hne : a ≠ b := by
    rintro rfl
    have e1 := (isB_tkn h.inv.toInv0 ht).2.2
    have e2 := mem_le (isC_of h.inv.toInv0 hb') hb'
    have := (isC_of h.inv.toInv0 hb').bd
    obtain rfl : i = k := by omega
    exact ht.2 hb
  have := far h.inv.toInv0 ht.1 hb' hne
  have := (isC_of h.inv.toInv0 hb').bd
  unfold fl
  rw [if_neg (by omega)]
set_option maxRecDepth 100000 in
set_option maxHeartbeats 4000000 in
theorem apart_walk (pages : Int) (A : Option Addr) (len cap : Nat) (w : World) (h0 : (Lit.int .u8 pages).wf = true) (hD : Sizes w A len ∧ len ≤ 9223372036854775807) (hT : Tbs w) (_hB : True) :
    Calls Tryd.prog 4 #[.int .u8 pages, .slice A len cap] w fun e w' => e = .returned (.bool true) ∧ Below w.heap.size w w' := by
  obtain ⟨hD, hlen⟩ := hD
  have hp := bounds_u8 h0
  obtain ⟨n, hn⟩ : ∃ n : Nat, 1 + pages.tmod 128 = (n : Int) ∧ 1 ≤ n ∧ n ≤ 128 := ⟨(1 + pages.tmod 128).toNat, by rw [Int.tmod_eq_emod_of_nonneg (by omega)]; omega⟩
  obtain ⟨hn, hn1, hn2⟩ := hn
  have hpm : pages.tmod 128 = (n : Int) - 1 := by omega
  have hpw : 1 + ((n : Int) - 1) = n := by omega
  obtain ⟨i0, hx, hz0, hz1, hz2⟩ := info_parts Tryd.info3
  have HT := Lib.hid hT
  have HD := Lib.hid hD
  have HX := Lib.hid hx
  have HZ0 := Lib.hid hz0
  have HZ1 := Lib.hid hz1
  have HZ2 := Lib.hid hz2
  clear hT hD hx hz0 hz1 hz2 h0 hn
  go_enter Tryd.func4, Tryd.ntmps4
  go_wp2_with fail
  refine (shownS_any HT.out).mono ?_
  rintro e w1 ⟨rfl, hb⟩
  have H1 := Lib.hid (HT.out.below hb)
  have B1 := Lib.hid hb
  clear hb
  go_wp2_with fail
  refine (sb_new (w0 := w) n hn1 hn2 H1.out B1.out).mono ?_
  rintro e w2 ⟨L, rfl, h2⟩
  have H2 := Lib.hid h2
  have LB := Lib.hid h2.lb
  have hB2 : w.heap.size ≤ w2.heap.size := h2.bl.size
  clear h2
  obtain ⟨B, hBB⟩ : ∃ B, B = w2.heap.size := ⟨_, rfl⟩
  rw [← hBB] at LB hB2
  have hle2 : B ≤ w2.heap.size := by omega
  clear hBB
  go_wp2_with (first | (go_at_call 11; refine (arena_at H2.out.sl.raw).mono ?_; rintro e w' ⟨rfl, rfl⟩) | (go_at_call 12; refine (len_any _ _ _ _ H2.out.sl.raw.ar.mem).mono ?_; rintro e w' ⟨rfl, rfl⟩))
  go_loopw [9, 10, 11] (fun v1 v2 v wr => ∃ (k : Nat) (s : St) (f : Nat → Int) (ats lens : List Nat) (A1 A2 : Option Addr) (c1 c2 : Nat), k ≤ len ∧ k ≤ 120 ∧ v = .int .i64 k ∧ v1 = .slice A1 ats.length c1 ∧ v2 = .slice A2 lens.length c2 ∧ ats.length ≤ k ∧ B ≤ wr.heap.size ∧ Hid (Sb w wr L n s f) ∧ Hid (RI wr B A1 c1 ats) ∧ Hid (RI wr B A2 c2 lens) ∧ Hid (Apt n s f ats lens)) (fun _ _ v _ => 120 - (intOf v).toNat)
  case atStart => exact ⟨0, _, _, [], [], none, none, 0, 0, Nat.zero_le _, Nat.zero_le _, rfl, rfl, rfl, Nat.zero_le _, hle2, H2, Lib.hid (RI.nil _ _), Lib.hid (RI.nil _ _), Lib.hid (Apt.nil _ _ _)⟩
  case round =>
    obtain ⟨k, s, f, ats, lens, A1, A2, c1, c2, hk, hk2, rfl, rfl, rfl, hak, hBr, hS, hR1, hR2, hP⟩ := hrel
    obtain ⟨l1, l2, l3, l4, l5⟩ := LB.out
    have HDF := Lib.hid (hP.out.differ hS.out.inv)
    by_cases hc1 : k < len ∧ k < 120
    · obtain ⟨h1, h2⟩ := hc1
      have d1 : decide ((k : Int) < len) = true := decide_eq_true (by omega)
      have d2 : decide ((k : Int) < 120) = true := decide_eq_true (by omega)
      obtain ⟨b, o, z, rfl, hblt, hc, hz⟩ := HD.out k h1
      have hc' := (hS.out.bl.cell (p := ⟨b, o + k, none⟩) hblt).trans hc
      obtain ⟨sz, hsz, hsz1, hsz2⟩ : ∃ sz : Nat, (z : Int).tmod 256 = (sz : Int) - 1 ∧ 1 ≤ sz ∧ sz ≤ 256 := ⟨z % 256 + 1, by rw [Int.tmod_eq_emod_of_nonneg (by omega)]; omega, by omega, by omega⟩
      have hsw : 1 + ((sz : Int) - 1) = sz := by omega
      have hok : alOk (sz : Int) = true := by unfold alOk; rw [decide_eq_true (by omega), decide_eq_true (by omega)]; rfl
      clear hc
      go_wp2_with fail
      refine (sb_alloc (sz : Int) hS.out).mono ?_
      rintro e w3 ⟨rfl, f3, h3, hkp, -, hF3⟩
      have hs3 : B ≤ w3.heap.size := Nat.le_trans hBr hF3.size
      have R13 := Lib.hid (hR1.out.fr hF3 l3 l4 l5)
      have R23 := Lib.hid (hR2.out.fr hF3 l3 l4 l5)
      rcases al_err (n := n) (s := s) hok with he | ⟨he, hes⟩
      · obtain ⟨p, a, l, s1, hg⟩ := al_got hS.out.inv he
        have hv := hg.val
        rw [he, hv]
        obtain ⟨q1, q2, q3, q4⟩ := hg.page
        have hcl := clsOf_le (x := (sz : Int)) (by omega)
        have hpn := hg.lt
        have hpp := hg.pos
        have hP3 := hP.out.take hg hS.out.inv h3.inv hkp (z := sz) (by omega)
        have H3 := Lib.hid h3
        have HP3 := Lib.hid hP3
        have hby : IntKind.u8.wrap ((ats.length : Nat) : Int) = ((ats.length % 256 : Nat) : Int) := by rw [IntKind.wrap_u8]; omega
        have g1 : decide ((a : Int) < 512) = false := decide_eq_false (by omega)
        have g2 : decide ((512 * n : Nat) < (a : Int) + sz) = false := decide_eq_false (by omega)
        have HTK := Lib.hid hg.tkn
        have hcz : sz ≤ (alS n s (sz : Int) p).1 := by rw [hg.after]; dsimp only; omega
        have HCZ := Lib.hid hcz
        clear he hv hg h3 hkp hP3 hF3 q2 hcz
        generalize alS n s (sz : Int) = s' at *
        generalize hmm : ats.length % 256 = nb at *
        have hnb : nb < 256 := by omega
        go_wp2_with (go_at_call 11; refine (arena_at H3.out.sl.raw).mono ?_; rintro e w' ⟨rfl, rfl⟩)
        refine (fill_ok L.pa L.ga (512 * n) f3 a sz (nb : Int) H3.out.sl.raw.ar (by omega) (by omega)).mono ?_
        rintro e w4 ⟨rfl, hA4, hO4⟩
        have hS4 := H3.out.sl.written HTK.out HCZ.out hO4 hA4
        have hF4 : Fr L.ga L.pp L.gp w3 w4 := Fr.of_only hO4 (.inl rfl)
        have H4 := Lib.hid (H3.out.fr hF4 hS4)
        have hs4 : B ≤ w4.heap.size := Nat.le_trans hs3 hF4.size
        have R14 := Lib.hid (R13.out.fr hF4 l3 l4 l5)
        have R24 := Lib.hid (R23.out.fr hF4 l3 l4 l5)
        have RA := Lib.hid (R14.out.alloc (.cells #[.int .i64 (a : Nat)] 3))
        clear hA4 hO4 hS4 hF4
        have hal : ats.length ≤ 120 := by omega
        go_wp2_with (at_builtin; refine wpList_append_own _ rfl (.tmp 84) (.tmp 86) 34 rfl B 3 i0 (.int .i64 0) 1 8 Tryd.underlying34 HX.out HZ0.out HZ1.out HZ2.out rfl (by decide) _ ats.length (ints ats) rfl RA.out.row ⟨w4.heap.size, 0, none⟩ 1 1 [.int .i64 (a : Nat)] rfl rfl (one_news w4 _ _) (by simp [Value.oneCell']) (by unfold maxLen; omega) (by omega) (by simp; omega) ?_)
        intro v' w5 hown hgrow _
        obtain ⟨A1', c1', rfl, hR5⟩ := RI.of hown
        have hb5 := below_of_grown hgrow (B := B) (by simp; omega) RA.out.own
        have H5 := Lib.hid ((H4.out.below ((Below.refl _ w4).alloc (Nat.le_refl _) _)).upto LB.out hb5)
        have R15 := Lib.hid hR5
        have R25 := Lib.hid ((R24.out.alloc (.cells #[.int .i64 (a : Nat)] 3)).grown hgrow fun r e1 e2 => RA.out.apart (R24.out.alloc _) HDF.out r e2 e1)
        have hs5 : B ≤ w5.heap.size := Nat.le_trans (by simp; omega) hb5.size
        have RB := Lib.hid (R25.out.alloc (.cells #[.int .i64 (sz : Nat)] 3))
        have HD3 := Lib.hid (HP3.out.differ H3.out.inv)
        have hll : lens.length ≤ 120 := by have := hP.out.len; omega
        clear hown hgrow hR5 hb5
        go_wp2_with (at_builtin; refine wpList_append_own _ rfl (.tmp 88) (.tmp 90) 34 rfl B 3 i0 (.int .i64 0) 1 8 Tryd.underlying34 HX.out HZ0.out HZ1.out HZ2.out rfl (by decide) _ lens.length (ints lens) rfl RB.out.row ⟨w5.heap.size, 0, none⟩ 1 1 [.int .i64 (sz : Nat)] rfl rfl (one_news w5 _ _) (by simp [Value.oneCell']) (by unfold maxLen; omega) (by omega) (by simp; omega) ?_)
        intro v' w6 hown hgrow _
        obtain ⟨A2', c2', rfl, hR6⟩ := RI.of hown
        have hb6 := below_of_grown hgrow (B := B) (by simp; omega) RB.out.own
        have H6 := Lib.hid ((H5.out.below ((Below.refl _ w5).alloc (Nat.le_refl _) _)).upto LB.out hb6)
        have R26 := Lib.hid hR6
        have R16 := Lib.hid ((R15.out.alloc (.cells #[.int .i64 (sz : Nat)] 3)).grown hgrow fun r e1 e2 => RB.out.apart (R15.out.alloc _) (fun x y h1 h2 e => HD3.out y x h2 (by cases lens with | nil => simp at h1 | cons _ _ => exact h1) e.symm) r e2 e1)
        have hs6 : B ≤ w6.heap.size := Nat.le_trans (by simp; omega) hb6.size
        clear hown hgrow hR6 hb6
        go_wp2
        go_roundw
        case rel => exact ⟨k + 1, s', _, ats ++ [a], lens ++ [sz], A1', A2', c1', c2', h1, h2, by go_num, by rw [List.length_append]; rfl, by rw [List.length_append]; rfl, by rw [List.length_append]; simp; omega, hs6, H6, R16, R26, HP3⟩
        case measure => simp [intOf]; omega
      · rw [he]
        rw [hes] at h3 
        have H3 := Lib.hid h3
        have HP3 := Lib.hid (hP.out.same hkp)
        clear he hes h3 hkp hF3
        generalize alV n s (sz : Int) = av
        go_wp2
        go_roundw
        case rel => exact ⟨k + 1, s, f3, ats, lens, A1, A2, c1, c2, h1, h2, by go_num, rfl, rfl, by omega, hs3, H3, R13, R23, HP3⟩
        case measure => simp [intOf]; omega
    · have hcs : k < len → 120 ≤ k := by omega
      have key : (k < len ∧ k = 120) ∨ ¬ k < len := by omega
      have hak2 : ats.length ≤ 120 := by omega
      rcases key with ⟨h1, rfl⟩ | h1
      all_goals
        first
        | (have d1 : decide (((120 : Nat) : Int) < len) = true := decide_eq_true (by omega)
           go_wp2
           clear d1 h1)
        | (have d1 : decide ((k : Int) < len) = false := decide_eq_false (by omega)
           go_wp2
           clear d1 h1)
        clear hc1 hcs
        go_loopw [15] (fun v wr => ∃ i : Nat, i ≤ ats.length ∧ v = .int .i64 i ∧ Hid (Sb w wr L n s f) ∧ Hid (RI wr B A1 c1 ats) ∧ Hid (RI wr B A2 c2 lens)) (fun v _ => ats.length - (intOf v).toNat)
        case atStart => exact ⟨0, Nat.zero_le _, rfl, hS, hR1, hR2⟩
        case round =>
          obtain ⟨i, hi, rfl, hS2, hQ1, hQ2⟩ := hrel
          by_cases hlt : i < ats.length
          · have hlt2 : i < lens.length := by rw [hP.out.len]; exact hlt
            obtain ⟨g1, rfl, cc1⟩ := hQ1.out.at i hlt
            obtain ⟨g2, rfl, cc2⟩ := hQ2.out.at i hlt2
            obtain ⟨t1, t2, t3, t4⟩ := hP.out.tkn i _ _ (List.getElem?_eq_getElem hlt) (List.getElem?_eq_getElem hlt2)
            generalize ats[i] = a at cc1 t1 t2 t3 t4
            generalize lens[i] = z at cc2 t1 t2 t3 t4
            have T3 := Lib.hid t3
            clear t1 t2 t3
            have hg1 : g1 < wr.heap.size := (World.ownsRow.lt hQ1.out.row g1 rfl).2
            have hg2 : g2 < wr.heap.size := (World.ownsRow.lt hQ2.out.row g2 rfl).2
            have RD := Lib.hid hS2.out.sl.raw.drew1
            have CC1 := Lib.hid cc1
            have CC2 := Lib.hid cc2
            go_wp2_with fail
            go_region_held3 (fun w' => w'.cell? ⟨g1, i, none⟩ = some (.int .i64 (a : Nat)) ∧ w'.cell? ⟨g2, i, none⟩ = some (.int .i64 (z : Nat))) (first | go_keep | exact ⟨CC1.out, CC2.out⟩ | exact ⟨E1.out, E2.out⟩) (first
              | (go_at_call 11; (with_reducible refine (arena_at RD.out).mono ?_); rintro e w' ⟨rfl, rfl⟩)
              | (go_at_call 16; (with_reducible refine (bytes_ok L.pa L.ga (512 * n) f a z RD.out.ar t4).mono ?_); rintro e w4 ⟨rfl, hb, hB⟩; have E1 := Lib.hid ((hB.cell (p := ⟨g1, i, none⟩) hg1).trans CC1.out); have E2 := Lib.hid ((hB.cell (p := ⟨g2, i, none⟩) hg2).trans CC2.out); replace hb := Lib.hid hb; replace hB := Lib.hid hB))
            have hbw : Below wr.heap.size wr w4 := (below_drew (Below.refl _ wr)).trans hB.out
            have H4 := Lib.hid (hS2.out.below hbw)
            have Q14 := Lib.hid (hQ1.out.below hbw (Nat.le_refl _))
            have Q24 := Lib.hid (hQ2.out.below hbw (Nat.le_refl _))
            have e2 := E2.out
            have hby : IntKind.u8.wrap ((i : Nat) : Int) = ((i % 256 : Nat) : Int) := by rw [IntKind.wrap_u8]; omega
            have hbz : Hid (∀ j : Nat, j < z → w4.cell? ⟨wr.heap.size, j, none⟩ = some (.int .u8 ((i % 256 : Nat) : Int))) := Lib.hid fun j hj => by
              have h5 := hb.out.cell j
              rw [row_at _ _ _ hj, T3.out (a + j) (by omega) (by omega)] at h5
              exact h5
            have hz : z ≤ 65536 := by omega
            clear hb hB hbw cc1 cc2
            generalize hib : i % 256 = ib at *
            go_wp2_with fail
            go_loop [18] (fun v => ∃ j : Nat, j ≤ z ∧ v = .int .i64 j) (fun v => z - (intOf v).toNat)
            case atStart => exact ⟨0, Nat.zero_le _, rfl⟩
            case round =>
              obtain ⟨j, hj, rfl⟩ := hrel
              by_cases hjz : j < z
              · have hcj := hbz.out j hjz
                go_wp2
                go_round
                case rel => exact ⟨j + 1, hjz, by go_num⟩
                case measure => simp [intOf]; omega
              · go_wp2
                go_roundw
                case rel => exact ⟨i + 1, hlt, by go_num, H4, Q14, Q24⟩
                case measure => simp [intOf]; omega
          · have hus := hP.out.used
            have hul := usd_le hS2.out.inv.toInv0 n
            obtain ⟨us, hus2⟩ : ∃ us, us = usd s n := ⟨_, rfl⟩
            go_wp2_with fail
            refine (sb_used hS2.out).mono ?_
            rw [← hus2] at hus hul ⊢
            rintro e w4 ⟨rfl, h4, -⟩
            have H4 := Lib.hid h4
            clear h4 hus2
            have dd : decide (((ats.length : Nat) : Int) ≤ (us : Nat)) = true := decide_eq_true (by omega)
            go_wp2
            go_ret
            exact ⟨rfl, H4.out.bl⟩
end Go.Proofs.YthblpnnbkjhmhaaDoor
