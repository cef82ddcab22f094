/- The contract of the slab's Free. Conditions: the tables lie in their blocks, below the slab's; the slab's blocks are known. -/
import Derived.Test.YthblpnnbkjhmhaaDoorSBlock
namespace Go.Proofs.YthblpnnbkjhmhaaDoor
open Go.RowKit
open Pool (num cnt upd Pl low setR num_testBit quiet_same)

section
variable {n i c a j : Nat} {s : St} {l : List Nat} {f : Nat → Int}
theorem isB_spec {at_ : Int} (h : isB n s at_ = true) : ∃ a c l, at_ = ((a : Nat) : Int) ∧ a < 512 * n ∧ s (a / 512) = (c, l) ∧ c ≠ 0 ∧ a % c = 0 ∧ a ∉ l := by
  unfold isB at h
  simp only [Bool.and_eq_true, decide_eq_true_eq, Bool.not_eq_true', decide_eq_false_iff_not] at h
  obtain ⟨⟨⟨⟨h1, h2⟩, h3⟩, h4⟩, h5⟩ := h
  exact ⟨at_.toNat, (s (at_.toNat / 512)).1, (s (at_.toNat / 512)).2, by omega, by omega, rfl, h3, h4, h5⟩
theorem b_andNot {x j : Nat} (hx : x < 4294967296) (hj : j < 32) : bits .andNot .u32 (x : Int) ((bt j : Nat) : Int) = ((x &&& (4294967295 - bt j) : Nat) : Int) := u32_andNot_nat _ _ hx (bt_lt hj)

theorem tk_off (hs : s i = (c, l)) (hC : IsC c) (hj : j < 512 / c) (ha : a = blk i c j) : upd (tk s i) j false = tk (put s i (c, a :: l)) i := by
  funext k
  unfold tk
  rw [put_same, hs]
  dsimp only
  by_cases e : k = j
  · subst e
    rw [upd_same, ← ha]
    simp
  · rw [upd_other _ _ e]
    have : blk i c k ≠ a := by rw [ha]; exact fun h => e (blk_inj hC h)
    simp [this]
theorem all_zero (hC : IsC c) : num (tk (put s i (c, l)) i) 32 = 0 ↔ allF i c l = true := by
  have hm := hC.many
  unfold allF
  rw [List.all_eq_true]
  constructor
  · intro h b hb
    obtain ⟨k, hk, e⟩ := mem_blks.1 hb
    have h2 : (num (tk (put s i (c, l)) i) 32).testBit k = false := by rw [h]; simp
    rw [num_testBit] at h2
    unfold tk at h2
    rw [put_same] at h2
    have h3 : k < 32 := by omega
    rw [e]
    simpa [h3, hk] using h2
  · intro h
    refine num_zero32 fun k _ => ?_
    unfold tk
    rw [put_same]
    dsimp only
    by_cases hk : k < 512 / c
    · have := h _ (mem_blks.2 ⟨k, hk, rfl⟩)
      simpa [hk] using this
    · simp [hk]
theorem raw_put0 : rput (rawOf s) i (0, 0, 0) = rawOf (put s i (0, [])) := by
  funext k
  by_cases e : k = i
  · subst e
    rw [rput_same]
    unfold rawOf
    rw [put_same, num_zero32 fun j _ => by unfold tk; rw [put_same]; simp]
    rfl
  · rw [rput_other _ _ e]
    unfold rawOf tk
    rw [put_other _ _ e]
theorem raw_put1 : rput (rawOf s) i (c, num (tk (put s i (c, a :: l)) i) 32, a) = rawOf (put s i (c, a :: l)) := by
  funext k
  by_cases e : k = i
  · subst e
    rw [rput_same]
    unfold rawOf
    rw [put_same]
    rfl
  · rw [rput_other _ _ e]
    unfold rawOf tk
    rw [put_other _ _ e]
theorem tkp_put0 (hi : i ≠ 0) : upd (tkp s n) i false = tkp (put s i (0, [])) n := by
  funext k
  unfold tkp
  by_cases e : k = i
  · subst e
    rw [upd_same, put_same]
    simp [hi]
  · rw [upd_other _ _ e, put_other _ _ e]
theorem tkp_put1 (hs : s i = (c, l)) (l' : List Nat) : tkp s n = tkp (put s i (c, l')) n := by
  funext k
  unfold tkp
  by_cases e : k = i
  · subst e; rw [put_same, hs]
  · rw [put_other _ _ e]
theorem inv_put0 (hI : Inv n s) : Inv n (put s i (0, [])) := by
  refine ⟨⟨?_, fun k hk => ?_, fun k => ?_, fun k hk => ?_, fun k b hb => ?_, fun k => ?_⟩, fun k hk => ?_⟩
  · by_cases e : 0 = i
    · subst e; rw [put_same]
    · rw [put_other _ _ e]; exact hI.page0
  all_goals by_cases e : k = i
  · subst e; rw [put_same]
  · rw [put_other _ _ e]; exact hI.off k hk
  · subst e; rw [put_same]; exact .inl rfl
  · rw [put_other _ _ e]; exact hI.cls k
  · subst e; rw [put_same]
  · rw [put_other _ _ e] at hk ⊢; exact hI.none k hk
  · subst e; rw [put_same] at hb; cases hb
  · rw [put_other _ _ e] at hb ⊢; exact hI.free k b hb
  · subst e; rw [put_same]; exact List.nodup_nil
  · rw [put_other _ _ e]; exact hI.once k
  · subst e; rw [put_same] at hk; exact absurd rfl hk
  · rw [put_other _ _ e] at hk ⊢; exact hI.some k hk
theorem inv_put1 (hI : Inv n s) (hs : s i = (c, l)) (ha : a ∈ blks i c) (hal : a ∉ l) (hF : allF i c (a :: l) = false) : Inv n (put s i (c, a :: l)) := by
  have hc : ∀ k, (put s i (c, a :: l) k).1 = (s k).1 := by
    intro k
    by_cases e : k = i
    · subst e; rw [put_same, hs]
    · rw [put_other _ _ e]
  refine ⟨⟨by rw [hc]; exact hI.page0, fun k hk => by rw [hc]; exact hI.off k hk, fun k => by rw [hc]; exact hI.cls k, fun k hk => ?_, fun k b hb => ?_, fun k => ?_⟩, fun k hk => ?_⟩
  all_goals by_cases e : k = i
  · subst e
    rw [put_same] at hk
    have hk : c = 0 := hk
    rw [hk, blks_zero] at ha
    cases ha
  · rw [put_other _ _ e] at hk ⊢; exact hI.none k hk
  · subst e
    rw [put_same] at hb ⊢
    rcases List.mem_cons.1 hb with rfl | hb
    · exact ha
    · have := hI.free k b (by rw [hs]; exact hb)
      rwa [hs] at this
  · rw [put_other _ _ e] at hb ⊢; exact hI.free k b hb
  · subst e
    rw [put_same]
    exact List.nodup_cons.2 ⟨hal, by have := hI.once k; rwa [hs] at this⟩
  · rw [put_other _ _ e]; exact hI.once k
  · subst e
    rw [put_same]
    unfold allF at hF
    rw [List.all_eq_false] at hF
    obtain ⟨b, hb, hn⟩ := hF
    exact ⟨b, hb, by simpa using hn⟩
  · rw [put_other _ _ e] at hk ⊢; exact hI.some k hk
theorem lnk_put0 (hL : ∀ k, Link f (s k).2) : ∀ k, Link f (put s i (0, []) k).2 := by
  intro k
  by_cases e : k = i
  · subst e; rw [put_same]; exact trivial
  · rw [put_other _ _ e]; exact hL k
theorem lnk_put1 (hI : Inv n s) (hs : s i = (c, l)) (ha : a ∈ blks i c) (hal : a ∉ l) (hn : n ≤ 128) (hL : ∀ k, Link f (s k).2) : ∀ k, Link (st f a (head0 l : Nat) 8) (put s i (c, a :: l) k).2 := by
  have hb : ∀ k, ∀ b ∈ (s k).2, b ≠ a → ∀ x, b ≤ x → x < b + 8 → f x = st f a (head0 l : Nat) 8 x := by
    intro k b hb hne x h1 h2
    have := far hI.toInv0 (i := i) (a := a) (by rw [hs]; exact ha) (hI.free k b hb) (fun e => hne e.symm)
    rw [hs] at this
    have h3 : IsC c := by have := isC_of hI.toInv0 (i := i) (a := a) (by rw [hs]; exact ha); rwa [hs] at this
    have := h3.bd
    have := (isC_of hI.toInv0 (hI.free k b hb)).bd
    unfold st
    rw [if_neg (by omega)]
  intro k
  by_cases e : k = i
  · subst e
    rw [put_same]
    have h0 := head0_le hI.toInv0 (i := k) hn
    rw [hs] at h0
    refine ⟨?_, ?_⟩
    · rw [ld_st _ _ _ 8 8 (Nat.le_refl _)]
      dsimp only at h0
      omega
    · have h := hL k
      rw [hs] at h
      exact h.congr fun b hb' => hb k b (by rw [hs]; exact hb') (by rintro rfl; exact hal hb')
  · rw [put_other _ _ e]
    refine (hL k).congr fun b hb' => hb k b hb' ?_
    rintro rfl
    have h3 : IsC c := by have := isC_of hI.toInv0 (i := i) (a := b) (by rw [hs]; exact ha); rwa [hs] at this
    have h1 := mem_le h3 ha
    have h2 := mem_le (isC_of hI.toInv0 (hI.free k b hb')) (hI.free k b hb')
    have := h3.bd
    have := (isC_of hI.toInv0 (hI.free k b hb')).bd
    omega
theorem kept_put1 (hI : Inv n s) (hs : s i = (c, l)) (ha : a ∈ blks i c) (v : Int) (x : Nat) (hx : inT (put s i (c, a :: l)) x) : st f a v 8 x = f x := by
  obtain ⟨k, b, ⟨hb, hbn⟩, h1, h2⟩ := hx
  have hc : (put s i (c, a :: l) k).1 = (s k).1 := by
    by_cases e : k = i
    · subst e; rw [put_same, hs]
    · rw [put_other _ _ e]
  rw [hc] at hb h2
  have hne : a ≠ b := by
    rintro rfl
    have h3 : IsC c := by have := isC_of hI.toInv0 (i := i) (a := a) (by rw [hs]; exact ha); rwa [hs] at this
    have h4 := mem_le h3 ha
    have h5 := mem_le (isC_of hI.toInv0 hb) hb
    have := h3.bd
    have := (isC_of hI.toInv0 hb).bd
    obtain rfl : k = i := by omega
    rw [put_same] at hbn
    exact hbn (by simp)
  have := far hI.toInv0 (i := i) (a := a) (by rw [hs]; exact ha) hb hne
  rw [hs] at this
  have h3 : IsC c := by have := isC_of hI.toInv0 (i := i) (a := a) (by rw [hs]; exact ha); rwa [hs] at this
  have := h3.bd
  unfold st
  rw [if_neg (by omega)]
end

section
variable {w w' : World} {L : Pt} {n : Nat} {s : St} {f : Nat → Int}
set_option maxRecDepth 100000 in
set_option maxHeartbeats 1000000 in
theorem free_any (at_ : Int) (hT : Tb w L) (h : Sl w L n s f) :
    Calls Tryd.prog 19 #[.pointer (some ⟨L.p, 0, none⟩), .int .i64 at_] w fun e w' =>
      e = .returned (.int .i64 (frE n s at_)) ∧ ∃ f', Sl w' L n (frS n s at_) f' ∧ (∀ x, inT (frS n s at_) x → f' x = f x) ∧ Fr L.ga L.pp L.gp w w' := by
  have HT := Lib.hid hT
  have H := Lib.hid h
  clear hT h
  cases hok : isB n s at_ with
  | false =>
    have e1 : frE n s at_ = 1 := by unfold frE; rw [hok]; rfl
    have e2 : frS n s at_ = s := by unfold frS; rw [hok]; rfl
    have HOK := Lib.hid hok
    rw [e1, e2]
    clear e1 e2 hok
    go_enter Tryd.func19, Tryd.ntmps19
    go_wp2_with fail
    refine (block_any at_ H.out).mono ?_
    rw [HOK.out]
    rintro e w1 ⟨rfl, hB⟩
    have S1 := Lib.hid (H.out.fr_below hB)
    have F1 := Lib.hid (Fr.of_below (a := L.ga) (b := L.pp) (c := L.gp) hB (Nat.le_refl _))
    clear hB
    go_wp2
    go_ret
    exact ⟨rfl, f, S1.out, fun _ _ => rfl, F1.out⟩
  | true =>
    obtain ⟨a, c, l, rfl, ha, hs, hc0, hm, hal⟩ := isB_spec hok
    have hI := H.out.inv
    have hC : IsC c := by have := hI.cls (a / 512); rw [hs] at this; rcases this with h | h; exact absurd h hc0; exact h
    obtain ⟨hj, hbk⟩ := blk_of hC hm
    have hmem : a ∈ blks (a / 512) c := mem_blks.2 ⟨_, hj, hbk⟩
    have hpl := page_lt hI.toInv0 (i := a / 512) (a := a) (by rw [hs]; exact hmem)
    have hn := H.out.raw.small
    have e1 : frE n s a = 0 := by unfold frE; rw [hok]; rfl
    have e2 : frS n s a = givG s (a / 512) a := by unfold frS; rw [hok]; simp
    have e3 : givG s (a / 512) a = if allF (a / 512) c (a :: l) then put s (a / 512) (0, []) else put s (a / 512) (c, a :: l) := by unfold givG; rw [hs]
    have hq : (a : Int).tdiv 512 = ((a / 512 : Nat) : Int) := by rw [Int.tdiv_eq_ediv_of_nonneg (by omega)]; omega
    have hr : rawOf s (a / 512) = (c, num (tk s (a / 512)) 32, head0 l) := by unfold rawOf; rw [hs]
    have hj32 : a % 512 / c < 32 := idx_lt hC hmem
    have hz : num (tk s (a / 512)) 32 &&& (4294967295 - bt (a % 512 / c)) = num (tk (put s (a / 512) (c, a :: l)) (a / 512)) 32 := by rw [num_andNot32 _ _ hj32, tk_off hs hC hj hbk]
    have hnot := b_andNot (num_lt32 (tk s (a / 512))) hj32
    rw [hz] at hnot
    obtain ⟨S, hSS⟩ : ∃ S, S = if allF (a / 512) c (a :: l) then put s (a / 512) (0, []) else put s (a / 512) (c, a :: l) := ⟨_, rfl⟩
    rw [e1, e2, e3, ← hSS]
    have hle := mem_le hC hmem
    have hbd := hC.bd
    have htp : tkp s n (a / 512) = true := by
      unfold tkp
      rw [hs]
      simp [hpl.2, hc0]
    have HSS := Lib.hid hSS
    have HOK := Lib.hid hok
    have HTP := Lib.hid htp
    have HI := Lib.hid hI
    have HS := Lib.hid hs
    have HC := Lib.hid hC
    have HM := Lib.hid hmem
    have HAL := Lib.hid hal
    have HRW := Lib.hid hr
    have HZL := Lib.hid (all_zero (s := s) (i := a / 512) (l := a :: l) hC)
    have hzl := num_lt32 (tk (put s (a / 512) (c, a :: l)) (a / 512))
    have RP1 := Lib.hid (raw_put1 (s := s) (i := a / 512) (c := c) (a := a) (l := l))
    have hi : a / 512 < n := hpl.2
    have hi0 : a / 512 ≠ 0 := by omega
    clear hSS htp hok hI hs hC hmem hal hr e1 e2 e3 hbk hj hm hz hpl
    generalize hjj : a % 512 / c = j at *
    generalize hii : a / 512 = i at *
    generalize num (tk s i) 32 = tkn at *
    generalize num (tk (put s i (c, a :: l)) i) 32 = z at *
    go_enter Tryd.func19, Tryd.ntmps19
    go_wp2_with fail
    refine (block_any a H.out).mono ?_
    rw [HOK.out]
    rintro e w1 ⟨rfl, hB⟩
    have hS1 := H.out.fr_below hB
    have S1 := Lib.hid hS1
    have F1 := Lib.hid (Fr.of_below (a := L.ga) (b := L.pp) (c := L.gp) hB (Nat.le_refl _))
    have h2 := hS1.raw.h2
    have c0 := hS1.raw.p0 i hi
    have c1 := hS1.raw.p1 i hi
    have fz := hS1.raw.fz (i * 3 + 1)
    rw [HRW.out] at c0 c1
    dsimp only at c0 c1
    have C0 := Lib.hid c0
    have BT : Hid (Calls Tryd.prog 36 #[.pointer (some ⟨L.gp, i * 3, none⟩), .int .i64 a] w1.drew fun e w' => e = .returned (.int .u32 (bt j : Nat)) ∧ w1.drew = w') := Lib.hid (by
      have := bit_any (w := w1.drew) L.gp (i * 3) a c c0 HC.out (by omega)
      rw [hjj] at this
      exact this)
    clear hS1 hB
    generalize bkV n s (a : Int) = bv
    go_wp2_with fail
    go_region_with (go_at_call 36; refine (BT.out).mono ?_; rintro e w' ⟨rfl, rfl⟩)
    all_goals
      obtain ⟨w2, hw2⟩ : ∃ w2, w2 = (w1.setCell ⟨L.gp, i * 3 + 1, none⟩ (.int .u32 z)).drew := ⟨_, rfl⟩
      rw [← hw2]
      have hR2 : Rw w2 L n (rput (rawOf s) i (c, z, head0 l)) f (tkp s n) := by
        have := (S1.out.raw.set1 i z).drew1
        rw [HRW.out] at this
        rw [hw2]
        exact this
      have hF2 : Fr L.ga L.pp L.gp w w2 := by
        rw [hw2]
        exact (F1.out.trans (Fr.of_only (Only.setCellAt _ _ _ _) (.inr (.inr rfl)))).trans (Fr.drew1 _ _ _ _)
      have d0 := hR2.p0 i hi
      have d1 := hR2.p1 i hi
      have d2 := hR2.p2 i hi
      rw [rput_same] at d0 d1 d2
      dsimp only at d0 d1 d2
      have k0 := hR2.h0
      have k1 := hR2.h1
      have z0 := hR2.fz (i * 3)
      have z1 := hR2.fz (i * 3 + 1)
      have z2 := hR2.fz (i * 3 + 2)
      have R2 := Lib.hid hR2
      have F2 := Lib.hid hF2
      clear hw2 hR2 hF2 c0 c1 fz h2
      cases hF : allF i c (a :: l) with
      | true =>
        have hz0 : z = 0 := HZL.out.2 hF
        have HF := Lib.hid hF
        clear hF
        subst hz0
        go_wp2_with fail
        obtain ⟨w3, hw3⟩ : ∃ w3, w3 = ((w2.setCell ⟨L.gp, i * 3, none⟩ (.int .i64 0)).setCell ⟨L.gp, i * 3 + 1, none⟩ (.int .u32 0)).setCell ⟨L.gp, i * 3 + 2, none⟩ (.int .i64 0) := ⟨_, rfl⟩
        rw [← hw3]
        have hR3 : Rw w3 L n (rawOf (put s i (0, []))) f (tkp s n) := by
          have := ((R2.out.set0 i 0).set1 i 0).set2 i 0
          simp only [rput_same, rput_rput] at this
          rw [raw_put0] at this
          rw [hw3]
          exact this
        have hF3 : Fr L.ga L.pp L.gp w w3 := by
          rw [hw3]
          exact ((F2.out.trans (Fr.of_only (Only.setCellAt _ _ _ _) (.inr (.inr rfl)))).trans (Fr.of_only (Only.setCellAt _ _ _ _) (.inr (.inr rfl)))).trans (Fr.of_only (Only.setCellAt _ _ _ _) (.inr (.inr rfl)))
        clear hw3
        refine (Pool.give_ok L.pp n (tkp s n) i hR3.pl hi HTP.out).mono ?_
        rintro e w4 ⟨rfl, hP, hO⟩
        have R4 := Lib.hid (hR3.ofPl hO hP)
        have F4 := Lib.hid (hF3.trans (Fr.of_only hO (.inr (.inl rfl))))
        clear hR3 hF3 hP hO
        go_wp2
        go_ret
        have eS : S = put s i (0, []) := by rw [HSS.out, HF.out]; rfl
        rw [eS]
        rw [tkp_put0 hi0] at R4
        exact ⟨rfl, f, ⟨R4.out, inv_put0 HI.out, lnk_put0 H.out.lnk⟩, fun _ _ => rfl, F4.out⟩
      | false =>
        have hz0 : z ≠ 0 := fun e => by have := HZL.out.1 e; rw [hF] at this; cases this
        have hzi : ((z : Nat) : Int) ≠ 0 := by omega
        have hzb : (((z : Nat) : Int) == 0) = false := by simpa using hzi
        have HF := Lib.hid hF
        clear hF hz0
        go_wp2_with fail
        refine (push_any i a (head0 l) (HT.out.fr F2.out).tab R2.out hi (by rw [rput_same]) ?_ (by omega)).mono ?_
        · have := head0_le HI.out.toInv0 (i := i) hn
          rw [HS.out] at this
          exact this
        rintro e w3 ⟨⟨v, rfl⟩, hR3, hF3⟩
        rw [rput_same, rput_rput, RP1.out] at hR3
        have R3 := Lib.hid hR3
        have F3 := Lib.hid (F2.out.trans hF3)
        clear hR3 hF3
        go_wp2
        go_ret
        have eS : S = put s i (c, a :: l) := by rw [HSS.out, HF.out]; rfl
        rw [eS]
        rw [tkp_put1 HS.out (a :: l)] at R3
        exact ⟨rfl, _, ⟨R3.out, inv_put1 HI.out HS.out HM.out HAL.out HF.out, lnk_put1 HI.out HS.out HM.out HAL.out hn H.out.lnk⟩, fun x hx => kept_put1 HI.out HS.out HM.out _ x hx, F3.out⟩
end
end Go.Proofs.YthblpnnbkjhmhaaDoor
