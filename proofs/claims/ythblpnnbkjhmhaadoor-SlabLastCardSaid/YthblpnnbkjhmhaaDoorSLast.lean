/- The walk of SlabLast: it returns true, and nothing that was there has turned. Condition: the tables lie in their blocks. -/
import Derived.Test.YthblpnnbkjhmhaaDoorSRows
namespace Go.Proofs.YthblpnnbkjhmhaaDoor
open Go.RowKit

/-- Pages that are filled one behind the other: those below t are full, page t has l free, those above are nobody's. -/
def Fl (c t : Nat) (l : List Nat) : St := fun p => if p = 0 then (0, []) else if p < t then (c, []) else if p = t then (c, l) else (0, [])
section
variable {c t : Nat} {l : List Nat} {size : Int}
theorem Fl_zero (c : Nat) : Fl c 0 [] = st0 := by
  funext p
  unfold Fl st0
  by_cases e : p = 0 <;> simp [e]
theorem Fl_below {p : Nat} (h0 : p ≠ 0) (h : p < t) : Fl c t l p = (c, []) := by unfold Fl; rw [if_neg h0, if_pos h]
theorem Fl_at (h0 : t ≠ 0) : Fl c t l t = (c, l) := by unfold Fl; rw [if_neg h0, if_neg (Nat.lt_irrefl _), if_pos rfl]
theorem Fl_above {p : Nat} (h : t < p) : Fl c t l p = (0, []) := by unfold Fl; rw [if_neg (by omega), if_neg (by omega), if_neg (by omega)]
theorem Fl_null : Fl c t l 0 = (0, []) := by unfold Fl; rw [if_pos rfl]
theorem Fl_page {p a : Nat} (h : Tkn (Fl c t l) p a) : p ≠ 0 ∧ p ≤ t ∧ (Fl c t l p).1 = c := by
  have hne : (Fl c t l p).1 ≠ 0 := by
    intro e
    have := h.1
    rw [e, blks_zero] at this
    cases this
  have h0 : p ≠ 0 := by rintro rfl; exact hne (by rw [Fl_null])
  have h1 : p ≤ t := by
    rcases Nat.lt_or_ge t p with h | h
    · exact absurd (by rw [Fl_above h]) hne
    · exact h
  refine ⟨h0, h1, ?_⟩
  rcases Nat.lt_or_ge p t with h | h
  · rw [Fl_below h0 h]
  · obtain rfl : p = t := by omega
    rw [Fl_at h0]
theorem Fl_next (hok : alOk size = true) {a : Nat} (ht : t ≠ 0) (ht2 : t < 128) (hc : clsOf size = c) : alE 128 (Fl c t (a :: l)) size = 0 ∧ alV 128 (Fl c t (a :: l)) size = a ∧ alS 128 (Fl c t (a :: l)) size = Fl c t l := by
  have hC := (clsOf_isC size).bd
  have hp : pgOf 128 (Fl c t (a :: l)) c = some t := by
    unfold pgOf
    rw [List.find?_range_eq_some]
    refine ⟨by simp [has, Fl_at ht], by simpa using ht2, fun j hj => ?_⟩
    by_cases e : j = 0
    · subst e
      have : ¬ 0 = c := by omega
      simp [has, Fl_null, this]
    · simp [has, Fl_below e hj]
  have hal : alP 128 (Fl c t (a :: l)) size = some (t, Fl c t (a :: l)) := by unfold alP; rw [hc, hp]
  refine ⟨by unfold alE; rw [hok, hal]; rfl, by unfold alV; rw [hok, hal]; dsimp only; rw [Fl_at ht]; rfl, ?_⟩
  unfold alS
  rw [hok, hal]
  simp only [if_true]
  funext p
  by_cases e : p = t
  · subst e; rw [popG_at (Fl_at ht), Fl_at ht]
  · rw [popG_other e]
    unfold Fl
    simp [e]
theorem Fl_new (hok : alOk size = true) (ht2 : t < 126) (hc : clsOf size = c) : alE 128 (Fl c t []) size = 0 ∧ alV 128 (Fl c t []) size = ((512 * (t + 1) : Nat) : Int) ∧ alS 128 (Fl c t []) size = Fl c (t + 1) (blks (t + 1) c).tail := by
  have hC0 := clsOf_isC size
  have hC := hC0.bd
  rw [hc] at hC0
  obtain ⟨l', hl'⟩ := blks_cons (t + 1) hC0
  have hp : pgOf 128 (Fl c t []) c = none := by
    unfold pgOf
    rw [List.find?_range_eq_none]
    intro j _
    by_cases e : j = 0
    · subst e
      have : ¬ 0 = c := by omega
      simp [has, Fl_null, this]
    · rcases Nat.lt_trichotomy j t with h | rfl | h
      · simp [has, Fl_below e h]
      · simp [has, Fl_at e]
      · simp [has, Fl_above h]
  have hw : pgNew 128 (Fl c t []) = some (t + 1) := by
    unfold pgNew
    rw [List.find?_range_eq_some]
    refine ⟨by simp [Fl_above (Nat.lt_succ_self t)], by simp; omega, fun j hj => ?_⟩
    by_cases e : j = 0
    · subst e; simp
    · rcases Nat.lt_or_ge j t with h | h
      · have : ¬ c = 0 := by omega
        simp [Fl_below e h, this]
      · obtain rfl : j = t := by omega
        have : ¬ c = 0 := by omega
        simp [Fl_at e, this]
  have hal : alP 128 (Fl c t []) size = some (t + 1, asg (Fl c t []) (t + 1) c) := by unfold alP; rw [hc, hp, hw]
  refine ⟨by unfold alE; rw [hok, hal]; rfl, by unfold alV; rw [hok, hal]; dsimp only; rw [asg_at, hl']; rfl, ?_⟩
  unfold alS
  rw [hok, hal]
  simp only [if_true]
  funext p
  by_cases e : p = t + 1
  · subst e
    unfold popG
    rw [put_same, asg_at, Fl_at (by omega)]
  · rw [popG_other e, asg_other e]
    rcases Nat.lt_trichotomy p t with h | rfl | h
    · by_cases e0 : p = 0
      · subst e0; rw [Fl_null, Fl_null]
      · rw [Fl_below e0 h, Fl_below e0 (by omega)]
    · by_cases e0 : p = 0
      · subst e0; rw [Fl_null, Fl_null]
      · rw [Fl_at e0, Fl_below e0 (by omega)]
    · rw [Fl_above h, Fl_above (by omega)]
/-- One more of the same class. -/
theorem Fl_more (hok : alOk size = true) (ht : l ≠ [] → t ≠ 0) (ht2 : t < 126) (hc : clsOf size = c) : ∃ t' l', alE 128 (Fl c t l) size = 0 ∧ alS 128 (Fl c t l) size = Fl c t' l' ∧ t' ≤ t + 1 ∧ (l' ≠ [] → t' ≠ 0) := by
  cases l with
  | nil =>
    obtain ⟨h1, _, h3⟩ := Fl_new (size := size) hok ht2 hc
    exact ⟨t + 1, _, h1, h3, Nat.le_refl _, fun _ => by omega⟩
  | cons a l =>
    obtain ⟨h1, _, h3⟩ := Fl_next (size := size) (a := a) (l := l) hok (ht (by simp)) (by omega) hc
    exact ⟨t, l, h1, h3, by omega, fun _ => ht (by simp)⟩

/-- A block that is free again: one is there. -/
theorem free_some {s : St} {x p : Nat} {l : List Nat} (hI : Inv 128 s) (hx : Tkn s p x) (hs : s p = (clsOf size, l)) (hok : alOk size = true) : alE 128 (frS 128 s x) size = 0 := by
  obtain ⟨b1, _, b3⟩ := isB_tkn hI.toInv0 hx
  have hp := page_lt hI.toInv0 hx.1
  have e1 : frS 128 s x = givG s p x := by unfold frS; rw [b1, Int.toNat_natCast, b3]; rfl
  rw [e1]
  unfold givG
  rw [hs]
  dsimp only
  split
  · unfold alE
    rw [hok]
    simp only [if_true]
    have : (alP 128 (put s p (0, [])) size).isSome = true := by
      unfold alP
      split
      · rfl
      · have : (pgNew 128 (put s p (0, []))).isSome = true := by
          unfold pgNew
          rw [List.find?_isSome]
          exact ⟨p, by simpa using hp.2, by rw [put_same]; simp; omega⟩
        split
        · rfl
        · simp_all
    split <;> simp_all
  · unfold alE
    rw [hok]
    simp only [if_true]
    have : (pgOf 128 (put s p (clsOf size, x :: l)) (clsOf size)).isSome = true := by
      unfold pgOf
      rw [List.find?_isSome]
      exact ⟨p, by simpa using hp.2, by simp [has, put_same]⟩
    have : (alP 128 (put s p (clsOf size, x :: l)) size).isSome = true := by
      unfold alP
      split
      · rfl
      · simp_all
    split <;> simp_all
/-- A block that is free again, its page having others: it is the next one. -/
theorem free_next {p x y : Nat} (hI : Inv 128 (Fl c t l)) (hx : Tkn (Fl c t l) p x) (hy : Tkn (Fl c t l) p y) (hne : y ≠ x) (hok : alOk size = true) (hc : clsOf size = c) : alV 128 (frS 128 (Fl c t l) x) size = x := by
  obtain ⟨b1, _, b3⟩ := isB_tkn hI.toInv0 hx
  have hp := page_lt hI.toInv0 hx.1
  obtain ⟨h0, h1, h2⟩ := Fl_page hx
  have hC := (clsOf_isC size).bd
  obtain ⟨lp, hs⟩ : ∃ lp, Fl c t l p = (c, lp) := ⟨(Fl c t l p).2, Prod.ext h2 rfl⟩
  have e1 : frS 128 (Fl c t l) x = givG (Fl c t l) p x := by unfold frS; rw [b1, Int.toNat_natCast, b3]; rfl
  have hF : allF p c (x :: lp) = false := by
    unfold allF
    rw [List.all_eq_false]
    have hy1 := hy.1
    have hy2 := hy.2
    rw [hs] at hy1 hy2
    exact ⟨y, hy1, by simp [hne, hy2]⟩
  rw [e1]
  unfold givG
  rw [hs]
  dsimp only
  rw [hF]
  simp only [if_false, Bool.false_eq_true]
  have hpo : pgOf 128 (put (Fl c t l) p (c, x :: lp)) c = some p := by
    unfold pgOf
    rw [List.find?_range_eq_some]
    refine ⟨by simp [has, put_same], by simpa using hp.2, fun j hj => ?_⟩
    have : j ≠ p := by omega
    by_cases e : j = 0
    · subst e
      have h3 : ¬ 0 = c := by omega
      simp [has, put_other _ _ this, Fl_null, h3]
    · simp [has, put_other _ _ this, Fl_below e (show j < t by omega)]
  unfold alV
  rw [hok]
  simp only [if_true]
  unfold alP
  rw [hc, hpo]
  dsimp only
  rw [put_same]
  rfl
end

/-- Whether no other of the first i lies in the page of x. -/
def aln (ats : List Nat) (x i : Nat) : Bool := (ats.take i).all fun y => decide (y = x) || !decide (y / 512 = x / 512)
theorem aln_succ {ats : List Nat} {x i y : Nat} (h : ats[i]? = some y) : aln ats x (i + 1) = (aln ats x i && (decide (y = x) || !decide (y / 512 = x / 512))) := by
  unfold aln
  rw [List.take_add_one, h]
  simp [List.all_append]
theorem aln_false {ats : List Nat} {x i : Nat} (h : aln ats x i = false) : ∃ y ∈ ats, y ≠ x ∧ y / 512 = x / 512 := by
  unfold aln at h
  rw [List.all_eq_false] at h
  obtain ⟨y, hy, h2⟩ := h
  simp at h2
  exact ⟨y, List.mem_of_mem_take hy, h2.1, h2.2⟩

set_option maxRecDepth 100000 in
set_option maxHeartbeats 4000000 in
theorem last_walk (size many which : Int) (w : World) (h0 : (Lit.int .u16 size).wf = true) (h1 : (Lit.int .u8 many).wf = true) (h2 : (Lit.int .u8 which).wf = true) (hT : Tbs w) (_hB : True) :
    Calls Tryd.prog 8 #[.int .u16 size, .int .u8 many, .int .u8 which] w fun e w' => e = .returned (.bool true) ∧ Below w.heap.size w w' := by
  have p0 := bounds_u16 h0
  have p1 := bounds_u8 h1
  have p2 := bounds_u8 h2
  obtain ⟨sz, hsz, hsz1, hsz2⟩ : ∃ sz : Nat, size.tmod 256 = (sz : Int) - 1 ∧ 1 ≤ sz ∧ sz ≤ 256 := ⟨(size.tmod 256 + 1).toNat, by rw [Int.tmod_eq_emod_of_nonneg (by omega)]; omega⟩
  have hsw : 1 + ((sz : Int) - 1) = sz := by omega
  obtain ⟨N, hN, hN1, hN2⟩ : ∃ N : Nat, many.tmod 30 = (N : Int) - 2 ∧ 2 ≤ N ∧ N ≤ 31 := ⟨(many.tmod 30 + 2).toNat, by rw [Int.tmod_eq_emod_of_nonneg (by omega)]; omega⟩
  have hNw : 2 + ((N : Int) - 2) = N := by omega
  have hok : alOk (sz : Int) = true := by unfold alOk; rw [decide_eq_true (by omega), decide_eq_true (by omega)]; rfl
  obtain ⟨j, hj, hjN⟩ : ∃ j : Nat, which.tmod N = (j : Int) ∧ j < N := ⟨(which % N).toNat, by
    rw [Int.tmod_eq_emod_of_nonneg (by omega)]
    have a1 := Int.emod_nonneg which (show (N : Int) ≠ 0 by omega)
    have a2 := Int.emod_lt_of_pos which (show (0 : Int) < N by omega)
    omega⟩
  obtain ⟨i0, hx, hz0, hz1, hz2⟩ := info_parts Tryd.info3
  have HT := Lib.hid hT
  have HX := Lib.hid hx
  have HZ0 := Lib.hid hz0
  have HZ1 := Lib.hid hz1
  have HZ2 := Lib.hid hz2
  have HJ := Lib.hid hj
  obtain ⟨c, hc⟩ : ∃ c, clsOf (sz : Int) = c := ⟨_, rfl⟩
  have HC := Lib.hid hc
  clear hT hx hz0 hz1 hz2 h0 h1 h2 hc hj
  go_enter Tryd.func8, Tryd.ntmps8
  go_wp2_with fail
  refine (shownS_any HT.out).mono ?_
  rintro e w1 ⟨rfl, hb⟩
  have H1 := Lib.hid (HT.out.below hb)
  have B1 := Lib.hid hb
  clear hb
  go_wp2_with fail
  refine (sb_new (w0 := w) 128 (by decide) (by decide) H1.out B1.out).mono ?_
  rintro e w2 ⟨L, rfl, h2⟩
  rw [← Fl_zero c] at h2
  have H2 := Lib.hid h2
  have LB := Lib.hid h2.lb
  have hB2 : w.heap.size ≤ w2.heap.size := h2.bl.size
  clear h2
  obtain ⟨B, hBB⟩ : ∃ B, B = w2.heap.size := ⟨_, rfl⟩
  rw [← hBB] at LB hB2
  have hle2 : B ≤ w2.heap.size := by omega
  clear hBB
  go_wp2_with fail
  go_loopw [11, 12] (fun v1 v wr => ∃ (k t : Nat) (l : List Nat) (f : Nat → Int) (ats : List Nat) (A1 : Option Addr) (c1 : Nat), k ≤ N ∧ v = .int .i64 k ∧ v1 = .slice A1 k c1 ∧ t ≤ k ∧ B ≤ wr.heap.size ∧ Hid (ats.length = k) ∧ Hid (l ≠ [] → t ≠ 0) ∧ Hid (Sb w wr L 128 (Fl c t l) f) ∧ Hid (RI wr B A1 c1 ats) ∧ Hid (∀ a ∈ ats, Tkn (Fl c t l) (a / 512) a)) (fun _ v _ => N - (intOf v).toNat)
  case atStart => exact ⟨0, 0, [], _, [], none, 0, Nat.zero_le _, rfl, rfl, Nat.zero_le _, hle2, Lib.hid rfl, Lib.hid fun h => absurd rfl h, H2, Lib.hid (RI.nil _ _), Lib.hid fun _ h => (nomatch h)⟩
  case round =>
    obtain ⟨k, t, l, f, ats, A1, c1, hk, rfl, rfl, htk, hBr, hAL, hTL, hS, hR1, hTK⟩ := hrel
    obtain ⟨l1, l2, l3, l4, l5⟩ := LB.out
    by_cases hkN : k < N
    · obtain ⟨t', l', m1, m2, m3, m4⟩ := Fl_more (size := (sz : Int)) (c := c) (t := t) (l := l) hok hTL.out (by omega) HC.out
      obtain ⟨p, a, l0, s1, hg⟩ := al_got hS.out.inv m1
      go_wp2_with fail
      refine (sb_alloc (sz : Int) hS.out).mono ?_
      rw [m1, hg.val, m2]
      rintro e w3 ⟨rfl, f3, h3, -, -, hF3⟩
      have hs3 : B ≤ w3.heap.size := Nat.le_trans hBr hF3.size
      have R13 := Lib.hid (hR1.out.fr hF3 l3 l4 l5)
      have H3 := Lib.hid h3
      have TK3 : Hid (∀ b ∈ ats ++ [a], Tkn (Fl c t' l') (b / 512) b) := Lib.hid fun b hb => by
        rw [← m2]
        rcases List.mem_append.1 hb with hb | hb
        · exact (hg.keep (hTK.out b hb)).1
        · simp at hb
          subst hb
          rw [hg.page.1]
          exact hg.tkn
      have M4 := Lib.hid m4
      have RA := Lib.hid (R13.out.alloc (.cells #[.int .i64 (a : Nat)] 3))
      have eAL := hAL.out
      clear m1 m2 m4 hg h3 hF3
      have RAr := RA.out.row
      rw [eAL] at RAr
      have RAR := Lib.hid RAr
      clear RAr eAL
      go_wp2_with (at_builtin; refine wpList_append_own _ rfl (.tmp 53) (.tmp 55) 34 rfl B 3 i0 (.int .i64 0) 1 8 Tryd.underlying34 HX.out HZ0.out HZ1.out HZ2.out rfl (by decide) _ k (ints ats) rfl RAR.out ⟨w3.heap.size, 0, none⟩ 1 1 [.int .i64 (a : Nat)] rfl rfl (one_news w3 _ _) (by simp [Value.oneCell']) (by unfold maxLen; omega) (by omega) (by simp; omega) ?_)
      intro v' w5 hown hgrow _
      rw [← hAL.out] at hown hgrow
      obtain ⟨A1', c1', rfl, hR5⟩ := RI.of hown
      have hb5 := below_of_grown hgrow (B := B) (by simp; omega) RA.out.own
      have H5 := Lib.hid ((H3.out.below ((Below.refl _ w3).alloc (Nat.le_refl _) _)).upto LB.out hb5)
      have R15 := Lib.hid hR5
      have hs5 : B ≤ w5.heap.size := Nat.le_trans (by simp; omega) hb5.size
      have AL5 : Hid ((ats ++ [a]).length = k + 1) := Lib.hid (by rw [List.length_append, hAL.out]; rfl)
      rw [hAL.out]
      clear hown hgrow hR5 hb5
      go_wp2
      go_roundw
      case rel => exact ⟨k + 1, t', l', f3, ats ++ [a], A1', c1', hkN, by go_num, rfl, by omega, hs5, AL5, M4, H5, R15, TK3⟩
      case measure => simp [intOf]; omega
    · obtain rfl : N = k := by omega
      have hjl : j < ats.length := by rw [hAL.out]; exact hjN
      obtain ⟨g1, rfl, cc1⟩ := hR1.out.at j hjl
      obtain ⟨x, hx⟩ : ∃ x, ats[j] = x := ⟨_, rfl⟩
      rw [hx] at cc1
      have XM := Lib.hid (show x ∈ ats by rw [← hx]; exact List.getElem_mem hjl)
      have hj := HJ.out
      clear hx
      go_wp2_with fail
      have hxt := hTK.out x XM.out
      have hxl := (page_lt hS.out.inv.toInv0 hxt.1)
      obtain ⟨px, hpx⟩ : ∃ px, px = x / 512 := ⟨_, rfl⟩
      have hxd : (x : Int).tdiv 512 = ((px : Nat) : Int) := by rw [Int.tdiv_eq_ediv_of_nonneg (by omega)]; omega
      have HPX := Lib.hid hpx
      have hpxb : px ≤ 65536 := by have := mem_le (isC_of hS.out.inv.toInv0 hxt.1) hxt.1; omega
      have hxb : x ≤ 65536 := by have := mem_le (isC_of hS.out.inv.toInv0 hxt.1) hxt.1; omega
      have HXT := Lib.hid hxt
      clear hxt hpx
      go_loop [16, 17] (fun u v => ∃ i : Nat, i ≤ N ∧ v = .int .i64 i ∧ u = .bool (aln ats x i)) (fun _ v => N - (intOf v).toNat)
      case atStart => exact ⟨0, Nat.zero_le _, rfl, by simp [aln]⟩
      case round =>
        obtain ⟨i, hi, rfl, rfl⟩ := hrel
        by_cases hiN : i < N
        · have hil : i < ats.length := by rw [hAL.out]; exact hiN
          obtain ⟨g1', eg, cc2⟩ := hR1.out.at i hil
          simp only [Option.some.injEq, Addr.mk.injEq, and_true] at eg
          subst eg
          obtain ⟨y, hy⟩ : ∃ y, ats[i] = y := ⟨_, rfl⟩
          rw [hy] at cc2
          have hsu := Lib.hid (aln_succ (x := x) (show ats[i]? = some y by rw [← hy]; exact List.getElem?_eq_getElem hil))
          have hyt := hTK.out y (by rw [← hy]; exact List.getElem_mem hil)
          have hyb : y ≤ 65536 := by have := mem_le (isC_of hS.out.inv.toInv0 hyt.1) hyt.1; have := page_lt hS.out.inv.toInv0 hyt.1; omega
          obtain ⟨py, hpy⟩ : ∃ py, py = y / 512 := ⟨_, rfl⟩
          have hyd : (y : Int).tdiv 512 = ((py : Nat) : Int) := by rw [Int.tdiv_eq_ediv_of_nonneg (by omega)]; omega
          have HPY := Lib.hid hpy
          have hpyb : py ≤ 65536 := by omega
          clear hy hyt hpy
          cases hb : aln ats x i with
          | false =>
            have HB := Lib.hid hb
            clear hb
            go_wp2
            go_round
            case rel => exact ⟨i + 1, hiN, by go_num, by rw [hsu.out, HB.out]; rfl⟩
            case measure => simp [intOf]; omega
          | true =>
            have HB := Lib.hid hb
            clear hb
            by_cases hyx : y = x
            · subst hyx
              go_wp2
              go_round
              case rel => exact ⟨i + 1, hiN, by go_num, by rw [hsu.out, HB.out]; simp⟩
              case measure => simp [intOf]; omega
            · have hyx' : (((y : Nat) : Int) == (x : Nat)) = false := by rw [beq_eq_false_iff_ne]; omega
              have HYX := Lib.hid hyx
              clear hyx
              by_cases hpg : py = px
              · have hp' : (((py : Nat) : Int) != ((px : Nat) : Int)) = false := by rw [hpg]; simp
                have HPG := Lib.hid (show y / 512 = x / 512 by rw [← HPX.out, ← HPY.out, hpg])
                clear hpg
                go_wp2
                go_round
                case rel => exact ⟨i + 1, hiN, by go_num, by rw [hsu.out, HB.out, HPG.out]; simp [HYX.out]⟩
                case measure => simp [intOf]; omega
              · have hp' : (((py : Nat) : Int) != ((px : Nat) : Int)) = true := by rw [bne_iff_ne]; omega
                have HPG := Lib.hid (show ¬ y / 512 = x / 512 by rw [← HPX.out, ← HPY.out]; exact hpg)
                clear hpg
                go_wp2
                go_round
                case rel => exact ⟨i + 1, hiN, by go_num, by rw [hsu.out, HB.out]; simp [HPG.out]⟩
                case measure => simp [intOf]; omega
        · obtain rfl : N = i := by omega
          obtain ⟨b1, _, b3⟩ := isB_tkn hS.out.inv.toInv0 HXT.out
          have hfe : frE 128 (Fl c t l) x = 0 := by unfold frE; rw [b1]; rfl
          have hfl := Fl_page HXT.out
          have hae : alE 128 (frS 128 (Fl c t l) x) (sz : Int) = 0 := free_some hS.out.inv HXT.out (Prod.ext (by rw [hfl.2.2, HC.out]) rfl) hok
          have HAE := Lib.hid hae
          have hlast : N - 1 < ats.length := by rw [hAL.out]; omega
          go_wp2_with fail
          refine (sb_free (x : Int) hS.out).mono ?_
          rw [hfe]
          rintro e w3 ⟨rfl, f3, h3, -, hF3⟩
          have H3 := Lib.hid h3
          have R3 := Lib.hid (hR1.out.fr hF3 l3 l4 l5)
          clear hfe hae b1 b3 hfl h3 hF3
          cases hb : aln ats x N with
          | true =>
            clear hb
            go_wp2_with fail
            refine (sb_alloc (sz : Int) H3.out).mono ?_
            rw [HAE.out]
            rintro e w4 ⟨rfl, f4, h4, -, -, hF4⟩
            have H4 := Lib.hid h4
            obtain ⟨g1', eg, cc3⟩ := (R3.out.fr hF4 l3 l4 l5).at (N - 1) hlast
            simp only [Option.some.injEq, Addr.mk.injEq, and_true] at eg
            subst eg
            generalize ats[N - 1] = la at cc3
            generalize alV 128 (frS 128 (Fl c t l) (x : Int)) (sz : Int) = av
            clear h4 hF4
            go_wp2
            go_ret
            exact ⟨rfl, H4.out.bl⟩
          | false =>
            obtain ⟨y, hy, hne, hpg⟩ := aln_false hb
            have hyt := hTK.out y hy
            rw [hpg] at hyt
            have hav := Lib.hid (free_next (size := (sz : Int)) hS.out.inv HXT.out hyt hne hok HC.out)
            clear hb hy hne hpg hyt
            go_wp2_with fail
            refine (sb_alloc (sz : Int) H3.out).mono ?_
            rw [HAE.out, hav.out]
            rintro e w4 ⟨rfl, f4, h4, -, -, hF4⟩
            have H4 := Lib.hid h4
            obtain ⟨g1', eg, cc3⟩ := (R3.out.fr hF4 l3 l4 l5).at (N - 1) hlast
            simp only [Option.some.injEq, Addr.mk.injEq, and_true] at eg
            subst eg
            generalize ats[N - 1] = la at cc3
            clear h4 hF4
            go_wp2
            go_ret
            exact ⟨rfl, H4.out.bl⟩
end Go.Proofs.YthblpnnbkjhmhaaDoor
