/- The contract of the document's Parse. Condition: the bytes can be read. -/
import Derived.Test.YtnkjlocjfljjlaaTParse
import Derived.Test.YtnkjlocjfljjlaaTRCheck
import Derived.StillTailTactics
import Derived.Deep.RegionLaw
namespace Go.Proofs.Ytnkjlocjfljjlaa
open Go.RowKit
set_option maxRecDepth 100000
set_option maxHeartbeats 4000000
theorem fos_app : ∀ (m : Nat) (a b : List Int), a.length = 5 * m → fos (a ++ b) = fos a ++ fos b
  | 0, a, b, h => by
    have : a = [] := List.eq_nil_of_length_eq_zero (by omega)
    subst this
    rfl
  | m + 1, a, b, h => by
    obtain ⟨x0, x1, x2, x3, x4, r, rfl, hr⟩ := five_of (n := 5 * m) (by omega)
    simp only [List.cons_append, fos]
    rw [fos_app m r b hr]
theorem take_five {l : List Int} {i : Nat} {x0 x1 x2 x3 x4 : Int} (h0 : l[i]? = some x0) (h1 : l[i + 1]? = some x1) (h2 : l[i + 2]? = some x2) (h3 : l[i + 3]? = some x3) (h4 : l[i + 4]? = some x4) : l.take (i + 5) = l.take i ++ [x0, x1, x2, x3, x4] := by
  rw [show i + 5 = i + 4 + 1 from rfl, take_snoc h4, show i + 4 = i + 3 + 1 from rfl, take_snoc h3, show i + 3 = i + 2 + 1 from rfl, take_snoc h2, take_snoc h1, take_snoc h0]
  simp
theorem fos_take {l : List Int} {m : Nat} {x0 x1 x2 x3 x4 : Int} (hl : 5 * m ≤ l.length) (h0 : l[5 * m]? = some x0) (h1 : l[5 * m + 1]? = some x1) (h2 : l[5 * m + 2]? = some x2) (h3 : l[5 * m + 3]? = some x3) (h4 : l[5 * m + 4]? = some x4) :
    fos (l.take (5 * (m + 1))) = fos (l.take (5 * m)) ++ [⟨x0, x1, x2, x3, x4⟩] := by
  rw [show 5 * (m + 1) = 5 * m + 5 from by omega, take_five h0 h1 h2 h3 h4, fos_app m _ _ (by rw [List.length_take]; omega)]
  rfl
theorem fos_len : ∀ (m : Nat) (a : List Int), a.length = 5 * m → (fos a).length = m
  | 0, a, h => by
    have : a = [] := List.eq_nil_of_length_eq_zero (by omega)
    subst this
    rfl
  | m + 1, a, h => by
    obtain ⟨x0, x1, x2, x3, x4, r, rfl, hr⟩ := five_of (n := 5 * m) (by omega)
    simp only [fos, List.length_cons]
    rw [fos_len m r hr]
theorem Rd.zero {w : World} {A : Option Addr} {k c : Nat} (hk : k = 0) (h : c ≤ 9223372036854775807) (hn : A = none → c = 0) : Rd w A k c [] := by
  subst hk
  exact Rd.empty h hn
theorem xE_nil : xE [] = 2 := by rfl
theorem iE_nil : iE [] = 2 := by rfl
theorem tt_text {bs : List Nat} {q : Nat} (h : xE bs = q) (hq : q ≠ 0) : ttE bs = q := by unfold ttE; rw [h, if_pos hq]
theorem tt_ints {bs : List Nat} {q : Nat} (h : xE bs = 0) (h2 : iE (ttR bs) = q) (hq : q ≠ 0) : ttE bs = q := by unfold ttE; rw [h, if_neg (by decide), h2, if_pos hq]
theorem tt_form {bs : List Nat} (h : xE bs = 0) (h2 : iE (ttR bs) = 0) (h3 : (ttL bs).length % 5 ≠ 1 ∨ 3 < (ttL bs).getD 0 0) : ttE bs = 3 := by unfold ttE; rw [h, if_neg (by decide), h2, if_neg (by decide), if_pos h3]
theorem tt_fine {bs : List Nat} (h : xE bs = 0) (h2 : iE (ttR bs) = 0) (h3 : (ttL bs).length % 5 = 1) (h4 : (ttL bs).getD 0 0 ≤ 3) : ttE bs = 0 := by unfold ttE; rw [h, if_neg (by decide), h2, if_neg (by decide), if_neg (by omega)]
theorem xW_pos {bs : List Nat} (hB : Byt bs) (h : xE bs = 0) : 0 < xW bs := by
  have hxc := (x_cases bs hB).resolve_right (fun e => e.1 h)
  rcases Nat.eq_zero_or_pos (xW bs) with h0 | h0
  · have h1 := hxc.2.2.2.2
    rw [h0] at h1
    unfold txV at h1
    rw [if_pos hxc.2.1] at h1
    have h2 := congrArg List.length h1
    have h3 := num_pos (xV bs).length
    rw [List.length_append, List.take_zero, List.length_nil] at h2
    omega
  · exact h0
section
variable {w : World}
theorem rparse_any (A : Option Addr) (k cap : Nat) (bs : List Nat) (h : Rd w A k cap bs) :
    Calls Try.prog 20 #[.slice A k cap] w fun e w' => ∃ A' k' c', e = .returned (.tuple #[.slice A' k' c', .int .i64 (paW bs : Nat), .int .i64 (paE bs : Nat)]) ∧ Lt w' A' k' c' (paV bs) ∧ Below w.heap.size w w' := by
  have hle := h.le
  have hmx := h.max
  have HL := Lib.hid h.len
  have HB := Lib.hid h.byt
  have H := Lib.hid h
  clear h
  have LN := fun w' : World => (⟨fun i t hi => by simp at hi, rfl, Nat.le_refl _, by omega⟩ : Lt w' none 0 0 [])
  have LNH := Lib.hid LN
  clear LN
  obtain ⟨q, hq⟩ : ∃ q, tE bs = q := ⟨_, rfl⟩
  have HQ := Lib.hid hq
  by_cases hq0 : q = 0
  case neg =>
    have hp := pa_head (bs := bs) (by rw [hq]; exact hq0)
    rw [hq] at hp
    have HP := Lib.hid hp
    have HN := Lib.hid (pa_no hp hq0)
    have hqn : ((q : Int) != 0) = true := by simpa using hq0
    clear hq hp
    go_enter Try.func20, Try.ntmps20
    go_wp2_with (go_at_call 39; refine (rtake_any _ _ _ bs H.out).mono ?_; rintro e w1 ⟨rfl, rfl⟩; rw [HQ.out])
    go_ret3
    rw [HP.out, HN.out.1, HN.out.2]
    exact ⟨_, _, _, rfl, LNH.out _, Below.refl _ _⟩
  subst hq0
  have ht := (tk_cases bs HB.out).resolve_right fun e => by omega
  obtain ⟨N, hN⟩ : ∃ N, tN bs = N := ⟨_, rfl⟩
  obtain ⟨P, hP⟩ : ∃ P, tW bs = P := ⟨_, rfl⟩
  have HNN := Lib.hid hN
  have HPP := Lib.hid hP
  have hPk : P ≤ k := by rw [← hP, ← HL.out]; exact ht.2.2.2.1
  have hP0 : 0 < P := by rw [← hP]; exact ht.2.2.1
  have hN64 : N < 18446744073709551616 := by rw [← hN]; exact ht.2.2.2.2.1
  clear ht
  by_cases hbig : 32 < N
  · have hp := pa_many hq (by rw [hN]; exact hbig)
    have HP := Lib.hid hp
    have HN := Lib.hid (pa_no hp (by decide))
    clear hq hp hN hP
    have hb2 : (32 : Int) < (N : Int) := by omega
    go_enter Try.func20, Try.ntmps20
    go_wp2_with (go_at_call 39; refine (rtake_any _ _ _ bs H.out).mono ?_; rintro e w1 ⟨rfl, rfl⟩; rw [HQ.out, HNN.out, HPP.out])
    go_ret3
    rw [HP.out, HN.out.1, HN.out.2]
    exact ⟨_, _, _, rfl, LNH.out _, Below.refl _ _⟩
  have hb2 : ¬ (32 : Int) < (N : Int) := by omega
  obtain ⟨R0, hR0⟩ : ∃ R0, paR bs = R0 := ⟨_, rfl⟩
  have HR0 := Lib.hid (show R0 = bs.drop P by rw [← hR0]; unfold paR; rw [hP])
  have HBAD := Lib.hid (show ∀ x, psE N R0 = x → x ≠ 0 → paE bs = x from fun x hx hx0 => by
    have := pa_bad hq (by rw [hN]; exact hbig) (by rw [hN, hR0, hx]; exact hx0)
    rw [this, hN, hR0, hx])
  have HCK := Lib.hid (show psE N R0 = 0 → paE bs = ckE (psV N R0) from fun hx => by
    have := pa_ck hq (by rw [hN]; exact hbig) (by rw [hN, hR0, hx])
    rw [this, hN, hR0])
  have HOK := Lib.hid (show paE bs = 0 → paV bs = psV N R0 ∧ paW bs = P + psW N R0 from fun hx => by
    have := pa_ok hx
    rw [hN, hR0, hP] at this
    exact this)
  obtain ⟨b, o, rfl, hbl, _⟩ := H.out.base (by omega)
  obtain ⟨i0, hi, hz0, hz1, hz2⟩ := info_parts infoF
  have IZ := Lib.hid (And.intro hi (And.intro hz0 (And.intro hz1 hz2)))
  clear hi hz0 hz1 hz2 hq hN hP hR0
  go_enter Try.func20, Try.ntmps20
  go_wp2_with (go_at_call 39; refine (rtake_any _ _ _ bs H.out).mono ?_; rintro e w1 ⟨rfl, rfl⟩; rw [HQ.out, HNN.out, HPP.out])
  go_loopw [6, 8, 9] (fun a u i wr => ∃ (j at' : Nat) (l : List Tq), j ≤ N ∧ at' ≤ k ∧ i = .int .i64 j ∧ a = .int .i64 at' ∧ Hid (l.length = j) ∧ Hid (psE N R0 = psE (N - j) (bs.drop at')) ∧ Hid (psV N R0 = l.map (·.t) ++ psV (N - j) (bs.drop at')) ∧ Hid (P + psW N R0 = at' + psW (N - j) (bs.drop at')) ∧ Hid (Tl wr w.heap.size u l) ∧ Hid (Below w.heap.size w wr)) (fun _ _ i _ => N - (intOf i).toNat)
  case atStart => exact ⟨0, P, [], Nat.zero_le _, hPk, rfl, rfl, rfl, by show _ = _; rw [HR0.out]; rfl, by show _ = _; rw [HR0.out]; rfl, by show _ = _; rw [HR0.out]; rfl, Tl.nil _ _, Below.refl _ _⟩
  case round =>
    obtain ⟨j, at', l, hj, hat, rfl, rfl, HLN, HE, HV, HW2, HT, HW⟩ := hrel
    have hws := HW.out.size
    by_cases hlt : j < N
    case neg =>
      obtain rfl : j = N := by omega
      have hE0 : psE j R0 = 0 := by rw [HE.out, Nat.sub_self]; rfl
      have hV0 : psV j R0 = l.map (·.t) := by rw [HV.out, Nat.sub_self]; simp [psV]
      have hW0 : P + psW j R0 = at' := by rw [HW2.out, Nat.sub_self]; rfl
      have hp := HCK.out hE0
      rw [hV0] at hp
      obtain ⟨ts, hts⟩ : ∃ ts, l.map (·.t) = ts := ⟨_, rfl⟩
      obtain ⟨A', k', c', rfl, lt⟩ := HT.out.form
      rw [hts] at hp lt hV0
      have HLT := Lib.hid lt
      obtain ⟨q, hq⟩ : ∃ q, ckE ts = q := ⟨_, rfl⟩
      have HQC := Lib.hid hq
      rw [hq] at hp
      have HP := Lib.hid hp
      by_cases hq0 : q = 0
      · subst hq0
        have HVW := Lib.hid (HOK.out hp)
        rw [hV0, hW0] at HVW
        clear hE0 hV0 hW0 hp hts lt hq
        go_wp2_with (go_at_call 13; refine (rcheck_any _ _ _ ts HLT.out).mono ?_; rintro e w2 ⟨rfl, h2⟩; rw [HQC.out]; have X2 := Lib.hid (HW.out.trans (h2.mono hws)); have LT2 := Lib.hid (HLT.out.below h2 (Nat.le_refl _)); clear h2)
        go_ret3
        rw [HP.out, HVW.out.1, HVW.out.2]
        exact ⟨_, _, _, rfl, LT2.out, X2.out⟩
      · have HN := Lib.hid (pa_no hp hq0)
        have hqn : ((q : Int) != 0) = true := by simpa using hq0
        clear hE0 hV0 hW0 hp hts lt hq
        go_wp2_with (go_at_call 13; refine (rcheck_any _ _ _ ts HLT.out).mono ?_; rintro e w2 ⟨rfl, h2⟩; rw [HQC.out]; have X2 := Lib.hid (HW.out.trans (h2.mono hws)); clear h2)
        go_ret3
        rw [HP.out, HN.out.1, HN.out.2]
        exact ⟨_, _, _, rfl, LNH.out _, X2.out⟩
    have hji : (j : Int) < (N : Int) := by omega
    obtain ⟨R, hR⟩ : ∃ R, bs.drop at' = R := ⟨_, rfl⟩
    obtain ⟨M, hM⟩ : ∃ M, N - j = M + 1 := ⟨N - j - 1, by omega⟩
    have HM := Lib.hid (show N - (j + 1) = M by omega)
    have HRB := Lib.hid (show Byt R by rw [← hR]; exact byt_drop HB.out _)
    have hRl : R.length = k - at' := by rw [← hR, List.length_drop, HL.out]
    have HR := Lib.hid hR
    rw [hM, hR] at HE HV HW2
    clear hM hR
    have HBD := Lib.hid (show ∀ x, ttE R = x → x ≠ 0 → paE bs = x from fun x hx hx0 => HBAD.out x (by rw [HE.out]; show (if ttE R ≠ 0 then ttE R else _) = x; rw [hx, if_pos hx0]) hx0)
    have hai : (at' : Int) ≤ (k : Int) := by omega
    obtain ⟨qx, hqx⟩ : ∃ qx, xE R = qx := ⟨_, rfl⟩
    have HQX := Lib.hid hqx
    by_cases hcp : cap = at'
    · have hR0' : R = [] := List.eq_nil_of_length_eq_zero (by omega)
      have HRN := Lib.hid hR0'
      have h2 : qx = 2 := by rw [← hqx, hR0', xE_nil]
      subst h2
      have HP := Lib.hid (HBD.out 2 (tt_text hqx (by decide)) (by decide))
      have HN := Lib.hid (pa_no HP.out (by decide))
      have hkz : k = at' := by omega
      subst hkz
      subst hcp
      clear hqx hR0'
      go_wp2_with (go_at_call 40; refine (rtakeText_any _ _ _ R (by rw [HRN.out]; exact Rd.empty (by omega) (by intro hh; first | omega | cases hh))).mono ?_; rintro e w2 ⟨rfl, h2⟩; rw [HQX.out]; have X2 := Lib.hid (HW.out.trans (h2.mono hws)); clear h2)
      go_ret3
      rw [HP.out, HN.out.1, HN.out.2]
      exact ⟨_, _, _, rfl, LNH.out _, X2.out⟩
    have hcp2 : ¬ (cap : Int) = (at' : Int) := by omega
    have HRD := Lib.hid (show Rd w (some ⟨b, o + at', none⟩) (k - at') (cap - at') R by rw [← HR.out]; exact H.out.from at' hat)
    by_cases hx0 : qx = 0
    case neg =>
      have HP := Lib.hid (HBD.out qx (tt_text hqx hx0) hx0)
      have HN := Lib.hid (pa_no HP.out hx0)
      have hqn : ((qx : Int) != 0) = true := by simpa using hx0
      clear hqx
      go_wp2_with (go_at_call 40; refine (rtakeText_any _ _ _ R (HRD.out.below HW.out (Nat.le_refl _))).mono ?_; rintro e w2 ⟨rfl, h2⟩; rw [HQX.out]; have X2 := Lib.hid (HW.out.trans (h2.mono hws)); clear h2)
      go_ret3
      rw [HP.out, HN.out.1, HN.out.2]
      exact ⟨_, _, _, rfl, LNH.out _, X2.out⟩
    subst hx0
    have hxc := (x_cases R HRB.out).resolve_right (fun h => h.1 hqx)
    obtain ⟨P1, hP1⟩ : ∃ P1, xW R = P1 := ⟨_, rfl⟩
    have HXW := Lib.hid hP1
    have hP1k : at' + P1 ≤ k := by rw [← hP1]; have := hxc.2.2.1; omega
    have hP10 : 0 < P1 := by rw [← hP1]; exact xW_pos HRB.out hqx
    have hP1b : P1 ≤ 26 := by rw [← hP1]; exact hxc.2.2.2.1
    have HR2 := Lib.hid (show ttR R = bs.drop (at' + P1) by unfold ttR; rw [hP1, ← HR.out, drop_drop'])
    obtain ⟨R2, hR2⟩ : ∃ R2, ttR R = R2 := ⟨_, rfl⟩
    have HTR := Lib.hid hR2
    rw [hR2] at HR2
    have HR2B := Lib.hid (show Byt R2 by rw [HR2.out]; exact byt_drop HB.out _)
    obtain ⟨qi, hqi⟩ : ∃ qi, iE R2 = qi := ⟨_, rfl⟩
    have HQI := Lib.hid hqi
    have HXE := Lib.hid hqx
    clear hxc hP1 hR2 hqx
    by_cases hcp1 : cap = at' + P1
    · have hR0' : R2 = [] := by rw [HR2.out]; exact List.drop_eq_nil_of_le (by rw [HL.out]; omega)
      have HRN := Lib.hid hR0'
      have h2 : qi = 2 := by rw [← hqi, hR0', iE_nil]
      subst h2
      have HP := Lib.hid (HBD.out 2 (tt_ints HXE.out (by rw [HTR.out]; exact hqi) (by decide)) (by decide))
      have HN := Lib.hid (pa_no HP.out (by decide))
      have HK := Lib.hid (show k = at' + P1 by omega)
      have HC := Lib.hid hcp1
      clear hqi hR0' hcp1
      go_wp2_with (go_at_call 40; refine (rtakeText_any _ _ _ R (HRD.out.below HW.out (Nat.le_refl _))).mono ?_; rintro e w2 ⟨rfl, h2⟩; rw [HQX.out, HXW.out]; have X2 := Lib.hid (HW.out.trans (h2.mono hws)); have HT2 := Lib.hid (HT.out.below h2); have hs2 := X2.out.size; have hs20 := h2.size; clear h2; have hcK := HK.out; have hcC := HC.out)
      go_wp2_with (go_at_call 41; refine (rtakeInts_any _ _ _ R2 (by rw [HRN.out]; exact Rd.zero (by omega) (by omega) (by intro hh; first | omega | cases hh))).mono ?_; rintro e w3 ⟨v3, rfl, o3, h3⟩; rw [HQI.out]; have X3 := Lib.hid (X2.out.trans (h3.mono hs2)); clear h3 o3)
      go_ret3
      rw [HP.out, HN.out.1, HN.out.2]
      exact ⟨_, _, _, rfl, LNH.out _, X3.out⟩
    have hcp3 : ¬ (cap : Int) = (at' : Int) + (P1 : Int) := by omega
    have hai1 : (at' : Int) + (P1 : Int) ≤ (k : Int) := by omega
    have HRD2 := Lib.hid (show Rd w (some ⟨b, o + (at' + P1), none⟩) (k - (at' + P1)) (cap - (at' + P1)) R2 by rw [HR2.out]; exact H.out.from (at' + P1) hP1k)
    by_cases hi0 : qi = 0
    case neg =>
      have HP := Lib.hid (HBD.out qi (tt_ints HXE.out (by rw [HTR.out]; exact hqi) hi0) hi0)
      have HN := Lib.hid (pa_no HP.out hi0)
      have hqn : ((qi : Int) != 0) = true := by simpa using hi0
      clear hqi
      go_wp2_with (go_at_call 40; refine (rtakeText_any _ _ _ R (HRD.out.below HW.out (Nat.le_refl _))).mono ?_; rintro e w2 ⟨rfl, h2⟩; rw [HQX.out, HXW.out]; have X2 := Lib.hid (HW.out.trans (h2.mono hws)); have HT2 := Lib.hid (HT.out.below h2); have hs2 := X2.out.size; have hs20 := h2.size; clear h2)
      go_wp2_with (go_at_call 41; refine (rtakeInts_any _ _ _ R2 (HRD2.out.below X2.out (Nat.le_refl _))).mono ?_; rintro e w3 ⟨v3, rfl, o3, h3⟩; rw [HQI.out]; have X3 := Lib.hid (X2.out.trans (h3.mono hs2)); have HT3 := Lib.hid (HT2.out.below h3); have hs3 := h3.size; clear h3 o3)
      go_ret3
      rw [HP.out, HN.out.1, HN.out.2]
      exact ⟨_, _, _, rfl, LNH.out _, X3.out⟩
    subst hi0
    have HIC := Lib.hid ((i_cases R2 HR2B.out).resolve_right (fun h => h.1 hqi))
    obtain ⟨I, hI⟩ : ∃ I, iW R2 = I := ⟨_, rfl⟩
    have HI := Lib.hid hI
    have hIb : I ≤ 5010 := by rw [← hI]; exact HIC.out.2.2.2.2.1
    have hIk : at' + P1 + I ≤ k := by
      have h1 := HIC.out.2.2.2.1
      rw [hI] at h1
      have h2 : R2.length = k - (at' + P1) := by rw [HR2.out, List.length_drop, HL.out]
      omega
    obtain ⟨L, hL⟩ : ∃ L, iV R2 = L := ⟨_, rfl⟩
    have HLL := Lib.hid hL
    have HTL := Lib.hid (show ttL R = L by unfold ttL; rw [HTR.out, hL])
    have HFT := Lib.hid (zs_fit HIC.out.2.2.1)
    have hLb : L.length ≤ 1000 := by rw [← hL]; exact HIC.out.2.1
    rw [hL] at HFT
    have HQI0 := Lib.hid (show iE (ttR R) = 0 by rw [HTR.out]; exact hqi)
    clear hqi hI hL
    by_cases h5 : L.length % 5 = 1
    case neg =>
      have HP := Lib.hid (HBD.out 3 (tt_form HXE.out HQI0.out (by rw [HTL.out]; exact .inl h5)) (by decide))
      have HN := Lib.hid (pa_no HP.out (by decide))
      obtain ⟨tm, ht5⟩ : ∃ tm, ((L.length : Nat) : Int).tmod 5 = tm := ⟨_, rfl⟩
      have htm : (tm != 1) = true := by rw [← ht5, Int.tmod_eq_emod_of_nonneg (by omega)]; simp; omega
      have HO5 := Lib.hid h5
      clear h5
      go_wp2_with (go_at_call 40; refine (rtakeText_any _ _ _ R (HRD.out.below HW.out (Nat.le_refl _))).mono ?_; rintro e w2 ⟨rfl, h2⟩; rw [HQX.out, HXW.out]; have X2 := Lib.hid (HW.out.trans (h2.mono hws)); have HT2 := Lib.hid (HT.out.below h2); have hs2 := X2.out.size; have hs20 := h2.size; clear h2)
      go_wp2_with (go_at_call 41; refine (rtakeInts_any _ _ _ R2 (HRD2.out.below X2.out (Nat.le_refl _))).mono ?_; rintro e w3 ⟨v3, rfl, o3, h3⟩; rw [HQI.out]; have X3 := Lib.hid (X2.out.trans (h3.mono hs2)); have HT3 := Lib.hid (HT2.out.below h3); have hs3 := h3.size; rw [HI.out]; rw [HLL.out] at o3; obtain ⟨A2, k2, c2, rfl, l2⟩ := o3.form HFT.out; have hk2 : L.length = k2 := (by rw [← l2.len, zs_len]); subst hk2; clear h3 o3 l2)
      go_ret3
      rw [HP.out, HN.out.1, HN.out.2]
      exact ⟨_, _, _, rfl, LNH.out _, X3.out⟩
    obtain ⟨x, r, hLx⟩ : ∃ x r, L = x :: r := by
      cases L with
      | nil => simp at h5
      | cons x r => exact ⟨x, r, rfl⟩
    subst hLx
    have ht5 : (((r.length + 1 : Nat) : Int)).tmod 5 = 1 := by rw [Int.tmod_eq_emod_of_nonneg (by omega)]; simp at h5; omega
    obtain ⟨m, hm⟩ : ∃ m, r.length = 5 * m := ⟨r.length / 5, by simp at h5; omega⟩
    have HM5 := Lib.hid hm
    have hrb : r.length ≤ 1000 := by simp at hLb; omega
    have HL5 := Lib.hid h5
    clear h5 hm hLb
    by_cases hx3 : 3 < x
    · have HP := Lib.hid (HBD.out 3 (tt_form HXE.out HQI0.out (by rw [HTL.out]; exact .inr hx3)) (by decide))
      have HN := Lib.hid (pa_no HP.out (by decide))
      have hx3i : (3 : Int) < (x : Int) := by omega
      go_wp2_with (go_at_call 40; refine (rtakeText_any _ _ _ R (HRD.out.below HW.out (Nat.le_refl _))).mono ?_; rintro e w2 ⟨rfl, h2⟩; rw [HQX.out, HXW.out]; have X2 := Lib.hid (HW.out.trans (h2.mono hws)); have HT2 := Lib.hid (HT.out.below h2); have hs2 := X2.out.size; have hs20 := h2.size; clear h2)
      go_wp2_with (go_at_call 41; refine (rtakeInts_any _ _ _ R2 (HRD2.out.below X2.out (Nat.le_refl _))).mono ?_; rintro e w3 ⟨v3, rfl, o3, h3⟩; rw [HQI.out]; have X3 := Lib.hid (X2.out.trans (h3.mono hs2)); have HT3 := Lib.hid (HT2.out.below h3); have hs3 := h3.size; rw [HI.out]; rw [HLL.out] at o3; obtain ⟨A2, k2, c2, rfl, l2⟩ := o3.form HFT.out; have hk2 : r.length + 1 = k2 := (by rw [← l2.len, zs_len]; rfl); subst hk2; have hc2 := l2.le; obtain ⟨b2, o2, y, rfl, hy, _, _, hb2, hcy⟩ := l2.intAt 0 (by simp); have hye : y = (x : Int) := (by simpa [zs] using hy.out.symm); subst hye; rw [Nat.add_zero] at hcy; clear h3 o3 l2 hy)
      go_ret3
      rw [HP.out, HN.out.1, HN.out.2]
      exact ⟨_, _, _, rfl, LNH.out _, X3.out⟩
    have HTF := Lib.hid (tt_fine HXE.out HQI0.out (by rw [HTL.out]; exact HL5.out) (by rw [HTL.out]; simp; omega))
    have HTW := Lib.hid (show ttW R = P1 + I by unfold ttW; rw [HXW.out, HTR.out, HI.out])
    have HTV := Lib.hid (show ttV R = ⟨sb (xV R), decide (x % 2 = 1), decide (2 ≤ x), fos (zs r)⟩ by unfold ttV; rw [HTL.out]; rfl)
    have HDD := Lib.hid (show R.drop (P1 + I) = bs.drop (at' + P1 + I) by rw [← HR.out, drop_drop', Nat.add_assoc])
    have HE2 := Lib.hid (show psE N R0 = psE M (bs.drop (at' + P1 + I)) by rw [HE.out, ← HDD.out, ← HTW.out]; show (if ttE R ≠ 0 then ttE R else _) = _; rw [HTF.out]; rfl)
    have HV2 := Lib.hid (show psV N R0 = l.map (·.t) ++ (ttV R :: psV M (bs.drop (at' + P1 + I))) by rw [HV.out, ← HDD.out, ← HTW.out]; rfl)
    have HW3 := Lib.hid (show P + psW N R0 = at' + (P1 + I + psW M (bs.drop (at' + P1 + I))) by rw [HW2.out, ← HDD.out, ← HTW.out]; rfl)
    have HNL0 := name_len R HRB.out
    rw [HTV.out] at HV2 HNL0
    simp only at HNL0
    obtain ⟨tn, htn⟩ : ∃ tn, sb (xV R) = tn := ⟨_, rfl⟩
    have HTN := Lib.hid htn
    rw [htn] at HV2 HNL0
    have HNL := Lib.hid HNL0
    have hl3 : l.length ≤ 100000 := by rw [HLN.out]; omega
    have HL3 := Lib.hid hl3
    have HFR := Lib.hid (show Fit (zs r) from fun y hy => HFT.out y (by simp only [zs, List.map_cons] at hy ⊢; exact List.mem_cons_of_mem _ hy))
    have hx4 : x = 0 ∨ x = 1 ∨ x = 2 ∨ x = 3 := by omega
    clear htn HNL0 hl3 hx3
    rcases hx4 with rfl | rfl | rfl | rfl
    · go_wp2_with (go_at_call 40; refine (rtakeText_any _ _ _ R (HRD.out.below HW.out (Nat.le_refl _))).mono ?_; rintro e w2 ⟨rfl, h2⟩; rw [HQX.out, HXW.out, HTN.out]; have X2 := Lib.hid (HW.out.trans (h2.mono hws)); have HT2 := Lib.hid (HT.out.below h2); have hs2 := X2.out.size; have hs20 := h2.size; clear h2)
      go_wp2_with (go_at_call 41; refine (rtakeInts_any _ _ _ R2 (HRD2.out.below X2.out (Nat.le_refl _))).mono ?_; rintro e w3 ⟨v3, rfl, o3, h3⟩; rw [HQI.out]; have X3 := Lib.hid (X2.out.trans (h3.mono hs2)); have HT3 := Lib.hid (HT2.out.below h3); have hs3 := h3.size; rw [HI.out]; rw [HLL.out] at o3; obtain ⟨A2, k2, c2, rfl, l2⟩ := o3.form HFT.out; have hk2 : r.length + 1 = k2 := (by rw [← l2.len, zs_len]; rfl); subst hk2; have hc2 := l2.le; have hm2 := l2.max; obtain ⟨b2, o2, y, rfl, hy, _, _, hb2, hcy⟩ := l2.intAt 0 (by simp); have hye := hy.out; simp [zs] at hye; subst hye; rw [Nat.add_zero] at hcy; have LI := Lib.hid l2; clear h3 o3 l2 hy)
      go_region_held3 (fun w' => w'.cell? ⟨b2, o2, none⟩ = some (.int .i64 0)) (first | go_keep) (first | fail)
      obtain ⟨w4, hw4⟩ : ∃ w4, w4 = (w3.alloc (Obj.cells #[.string tn, .bool false, .bool false, .slice none 0 0] 32)).drew := ⟨_, rfl⟩
      rw [← hw4]
      have B4 := Lib.hid (show Blk w4 w3.heap.size 32 #[.string tn, .bool false, .bool false, .slice none 0 0] by rw [hw4]; exact Blk.new w3 _ _)
      have X4 := Lib.hid (show Below w3.heap.size w3 w4 by rw [hw4]; exact ((Below.refl _ _).alloc (Nat.le_refl _) _).drew)
      clear hw4 hcy
      go_wp2_with fail
      go_loopw [17] (fun i wx => ∃ (m' jj : Nat) (v : Value), m' ≤ m ∧ jj ≤ r.length + 1 ∧ i = .int .i64 jj ∧ Hid (jj = 5 * m' + 1) ∧ Hid (Blk wx w3.heap.size 32 #[.string tn, .bool false, .bool false, v]) ∧ Hid (Of wx (w3.heap.size + 1) v (fos ((zs r).take (5 * m')))) ∧ Hid (Below w3.heap.size w3 wx)) (fun i _ => r.length + 1 - (intOf i).toNat)
      case atStart => exact ⟨0, 1, .slice none 0 0, Nat.zero_le _, by omega, rfl, rfl, B4.out, by show Of _ _ _ _; simpa [fos] using Of.nil _ _, X4.out⟩
      case round =>
        clear B4 X4
        obtain ⟨m', jj, v, hmm, hjl, rfl, HJJ, HBx, HOx, HXx⟩ := hrel
        have hwsx := HXx.out.size
        have htbx := HBx.out.lt
        by_cases hlm : m' < m
        case neg =>
          obtain rfl : m' = m := by omega
          have hjr : ¬ (jj : Int) < (r.length : Int) + 1 := by have h1 := HJJ.out; have h2 := HM5.out; omega
          have HTA := Lib.hid (show (zs r).take (5 * m') = zs r by rw [← HM5.out]; exact List.take_of_length_le (by rw [zs_len]; omega))
          rw [HTA.out] at HOx
          obtain ⟨FA, fk, fc, rfl, lf, far⟩ := HOx.out.form (fos_ok _ HFR.out)
          have LFX := Lib.hid (And.intro lf far)
          obtain ⟨c0, c1, c2', c3'⟩ := four HBx.out (Below.refl wr.heap.size wr) htbx
          have HTX := Lib.hid (HT3.out.below HXx.out)
          clear lf far
          go_wp2_with (at_builtin; refine wpList_tapp rfl _ _ rfl w.heap.size u8 l rfl HTX.out.row ⟨⟨tn, false, false, fos (zs r)⟩, FA, fk, fc⟩ _ rfl rfl HL3.out (by omega) ?_; intro g4 cc4 w4 hown4 hgrow hat4 hlt4; have HT4 := Lib.hid (HTX.out.app (q := ⟨⟨tn, false, false, fos (zs r)⟩, FA, fk, fc⟩) HNL.out LFX.out.1 (fun b' o' e => (by have h5 := LFX.out.2 b' o' e; refine ⟨h5.2, fun e2 => ?_⟩; have h6 := (HT3.out.row.lt e2).2; omega)) hown4 hgrow hat4); have X4 := Lib.hid ((X3.out.trans (HXx.out.mono (by omega))).grown hgrow (by omega) (fun r hr => (HTX.out.row.lt hr).1)); clear hown4 hgrow hat4 hlt4)
          go_roundw
          case rel =>
            refine ⟨j + 1, at' + P1 + I, l ++ [⟨⟨tn, false, false, fos (zs r)⟩, FA, fk, fc⟩], by omega, hIk, by go_num, by go_num, ?_, ?_, ?_, ?_, ?_, X4.out⟩
            · show _ = _
              rw [List.length_append, HLN.out]
              rfl
            · show _ = _
              rw [HM.out]
              exact HE2.out
            · show _ = _
              rw [HM.out, HV2.out]
              simp
            · show _ = _
              rw [HM.out, HW3.out]
              omega
            · show Tl _ _ _ _
              exact HT4.out
          case measure => simp [intOf]; omega
        have hj5 : jj + 5 ≤ r.length + 1 := by have h1 := HJJ.out; have h2 := HM5.out; omega
        obtain ⟨x0, hx0, _, _, c0⟩ := LI.out.at jj (by omega)
        obtain ⟨x1, hx1, _, _, c1⟩ := LI.out.at (jj + 1) (by omega)
        obtain ⟨x2, hx2, _, _, c2'⟩ := LI.out.at (jj + 2) (by omega)
        obtain ⟨x3, hx3, _, _, c3'⟩ := LI.out.at (jj + 3) (by omega)
        obtain ⟨x4, hx4, _, _, c4⟩ := LI.out.at (jj + 4) (by omega)
        have HSV := Lib.hid (And.intro c0 (And.intro c1 (And.intro c2' (And.intro c3' c4))))
        have HS := Lib.hid (show ∀ W, Below w3.heap.size w3 W → (W.cell? ⟨b2, o2 + jj, none⟩ = some (.int .i64 x0) ∧ W.cell? ⟨b2, o2 + (jj + 1), none⟩ = some (.int .i64 x1) ∧ W.cell? ⟨b2, o2 + (jj + 2), none⟩ = some (.int .i64 x2) ∧ W.cell? ⟨b2, o2 + (jj + 3), none⟩ = some (.int .i64 x3) ∧ W.cell? ⟨b2, o2 + (jj + 4), none⟩ = some (.int .i64 x4)) from fun W hW =>
          ⟨(hW.cell (p := ⟨b2, o2 + jj, none⟩) hb2).trans HSV.out.1, (hW.cell (p := ⟨b2, o2 + (jj + 1), none⟩) hb2).trans HSV.out.2.1, (hW.cell (p := ⟨b2, o2 + (jj + 2), none⟩) hb2).trans HSV.out.2.2.1, (hW.cell (p := ⟨b2, o2 + (jj + 3), none⟩) hb2).trans HSV.out.2.2.2.1, (hW.cell (p := ⟨b2, o2 + (jj + 4), none⟩) hb2).trans HSV.out.2.2.2.2⟩)
        have HFK := Lib.hid (show fos ((zs r).take (5 * (m' + 1))) = fos ((zs r).take (5 * m')) ++ [⟨x0, x1, x2, x3, x4⟩] by
          have e := HJJ.out
          have z : zs (0 :: r) = ((0 : Nat) : Int) :: zs r := rfl
          have g0 := hx0.out
          have g1 := hx1.out
          have g2 := hx2.out
          have g3 := hx3.out
          have g4 := hx4.out
          rw [z, e] at g0 g1 g2 g3 g4
          exact fos_take (by rw [zs_len, HM5.out]; omega) (by simpa using g0) (by simpa [Nat.add_right_comm] using g1) (by simpa [Nat.add_right_comm] using g2) (by simpa [Nat.add_right_comm] using g3) (by simpa [Nat.add_right_comm] using g4))
        have hal : (fos ((zs r).take (5 * m'))).length ≤ 1000 := by rw [fos_len m' _ (by rw [List.length_take, zs_len, HM5.out]; omega)]; have := HM5.out; omega
        obtain ⟨acc, hacc⟩ : ∃ acc, fos ((zs r).take (5 * m')) = acc := ⟨_, rfl⟩
        rw [hacc] at HOx HFK hal
        have NE := Lib.hid (show some w3.heap.size ≠ v.ownBlock from fun e1 => by have := (HOx.out.lt e1.symm).1; omega)
        clear c0 c1 c2' c3' c4 hx0 hx1 hx2 hx3 hx4 hacc
        obtain ⟨c0, c1, c2', c3', c4⟩ := HS.out _ HXx.out
        have t3 := HBx.out.cell 3
        simp at t3
        have b0 : (jj : Int) < (r.length : Int) + 1 := by omega
        have b1 : (jj : Int) + 1 < (r.length : Int) + 1 := by omega
        have b2' : (jj : Int) + 2 < (r.length : Int) + 1 := by omega
        have b3 : (jj : Int) + 3 < (r.length : Int) + 1 := by omega
        have b4 : (jj : Int) + 4 < (r.length : Int) + 1 := by omega
        have y1 : IntKind.i64.wrap ((jj : Int) + 1) = (jj : Int) + 1 := by rw [IntKind.wrap_i64]; omega
        have y2 : IntKind.i64.wrap ((jj : Int) + 2) = (jj : Int) + 2 := by rw [IntKind.wrap_i64]; omega
        have y3 : IntKind.i64.wrap ((jj : Int) + 3) = (jj : Int) + 3 := by rw [IntKind.wrap_i64]; omega
        have y4 : IntKind.i64.wrap ((jj : Int) + 4) = (jj : Int) + 4 := by rw [IntKind.wrap_i64]; omega
        have b1' : (jj : Int) < (r.length : Int) := by omega
        have n1 : (0 : Int) ≤ (jj : Int) + 1 := by omega
        have n2 : (0 : Int) ≤ (jj : Int) + 2 := by omega
        have n3 : (0 : Int) ≤ (jj : Int) + 3 := by omega
        have n4 : (0 : Int) ≤ (jj : Int) + 4 := by omega
        have k1 : ((jj : Int) + 1).toNat = jj + 1 := by omega
        have k2 : ((jj : Int) + 2).toNat = jj + 2 := by omega
        have k3 : ((jj : Int) + 3).toNat = jj + 3 := by omega
        have k4 : ((jj : Int) + 4).toNat = jj + 4 := by omega
        go_wp2_with fail
        refine wp_region_noPanic ?_
        refine wp_region_held_drew (S := fun w' => w'.cell? ⟨b2, o2 + jj, none⟩ = some (.int .i64 x0) ∧ w'.cell? ⟨b2, o2 + (jj + 1), none⟩ = some (.int .i64 x1) ∧ w'.cell? ⟨b2, o2 + (jj + 2), none⟩ = some (.int .i64 x2) ∧ w'.cell? ⟨b2, o2 + (jj + 3), none⟩ = some (.int .i64 x3) ∧ w'.cell? ⟨b2, o2 + (jj + 4), none⟩ = some (.int .i64 x4)) (by kernel_rfl) (HS.out _ HXx.out.drew) (fun hHeld => ?_)
        refine wpAnyH_take (i := 0) (v := .pointer (some ⟨w3.heap.size, 3, none⟩)) rfl (by kernel_rfl) (by kernel_rfl) (by kernel_rfl) (fun _ _ _ h => h) (Or.inl ⟨by rfl, ?_⟩) hHeld ?_
        · intro w hSw; (try dsimp only at hSw); go_simp; (try (with_reducible rfl))
        refine wpAnyH_take (i := 2) (v := .slice (some ⟨b2, o2, none⟩) (r.length + 1) c2) rfl (by kernel_rfl) (by kernel_rfl) (by kernel_rfl) (fun _ _ _ h => h) (Or.inl ⟨by rfl, ?_⟩) hHeld ?_
        · intro w hSw; (try dsimp only at hSw); go_simp; (try (with_reducible rfl))
        refine wpAnyH_take (i := 3) (v := .int .i64 (jj : Int)) rfl (by kernel_rfl) (by kernel_rfl) (by kernel_rfl) (fun _ _ _ h => h) (Or.inl ⟨by rfl, ?_⟩) hHeld ?_
        · intro w hSw; (try dsimp only at hSw); go_simp; (try (with_reducible rfl))
        refine wpAnyH_take (i := 4) (v := .pointer (some ⟨b2, o2 + jj, none⟩)) rfl (by kernel_rfl) (by kernel_rfl) (by kernel_rfl) (fun _ _ _ h => h) (Or.inl ⟨by rfl, ?_⟩) hHeld ?_
        · intro w hSw; (try dsimp only at hSw); go_simp; (try (with_reducible rfl))
        refine wpAnyH_take (i := 5) (v := .int .i64 x0) rfl (by kernel_rfl) (by kernel_rfl) (by kernel_rfl) (fun _ _ _ h => h) (Or.inl ⟨by rfl, ?_⟩) hHeld ?_
        · intro w hSw; (try dsimp only at hSw); go_simp; (try (with_reducible rfl))
        refine wpAnyH_take (i := 6) (v := .slice (some ⟨b2, o2, none⟩) (r.length + 1) c2) rfl (by kernel_rfl) (by kernel_rfl) (by kernel_rfl) (fun _ _ _ h => h) (Or.inl ⟨by rfl, ?_⟩) hHeld ?_
        · intro w hSw; (try dsimp only at hSw); go_simp; (try (with_reducible rfl))
        refine wpAnyH_take (i := 7) (v := .int .i64 (jj : Int)) rfl (by kernel_rfl) (by kernel_rfl) (by kernel_rfl) (fun _ _ _ h => h) (Or.inl ⟨by rfl, ?_⟩) hHeld ?_
        · intro w hSw; (try dsimp only at hSw); go_simp; (try (with_reducible rfl))
        refine wpAnyH_take (i := 8) (v := .int .i64 ((jj : Int) + 1)) rfl (by kernel_rfl) (by kernel_rfl) (by kernel_rfl) (fun _ _ _ h => h) (Or.inl ⟨by rfl, ?_⟩) hHeld ?_
        · intro w hSw; (try dsimp only at hSw); go_simp; (try (with_reducible rfl))
        refine wpAnyH_take (i := 9) (v := .pointer (some ⟨b2, o2 + (jj + 1), none⟩)) rfl (by kernel_rfl) (by kernel_rfl) (by kernel_rfl) (fun _ _ _ h => h) (Or.inl ⟨by rfl, ?_⟩) hHeld ?_
        · intro w hSw; (try dsimp only at hSw); go_simp; (try (with_reducible rfl))
        refine wpAnyH_take (i := 10) (v := .int .i64 x1) rfl (by kernel_rfl) (by kernel_rfl) (by kernel_rfl) (fun _ _ _ h => h) (Or.inl ⟨by rfl, ?_⟩) hHeld ?_
        · intro w hSw; (try dsimp only at hSw); go_simp; (try (with_reducible rfl))
        refine wpAnyH_take (i := 11) (v := .slice (some ⟨b2, o2, none⟩) (r.length + 1) c2) rfl (by kernel_rfl) (by kernel_rfl) (by kernel_rfl) (fun _ _ _ h => h) (Or.inl ⟨by rfl, ?_⟩) hHeld ?_
        · intro w hSw; (try dsimp only at hSw); go_simp; (try (with_reducible rfl))
        refine wpAnyH_take (i := 12) (v := .int .i64 (jj : Int)) rfl (by kernel_rfl) (by kernel_rfl) (by kernel_rfl) (fun _ _ _ h => h) (Or.inl ⟨by rfl, ?_⟩) hHeld ?_
        · intro w hSw; (try dsimp only at hSw); go_simp; (try (with_reducible rfl))
        refine wpAnyH_take (i := 13) (v := .int .i64 ((jj : Int) + 2)) rfl (by kernel_rfl) (by kernel_rfl) (by kernel_rfl) (fun _ _ _ h => h) (Or.inl ⟨by rfl, ?_⟩) hHeld ?_
        · intro w hSw; (try dsimp only at hSw); go_simp; (try (with_reducible rfl))
        refine wpAnyH_take (i := 14) (v := .pointer (some ⟨b2, o2 + (jj + 2), none⟩)) rfl (by kernel_rfl) (by kernel_rfl) (by kernel_rfl) (fun _ _ _ h => h) (Or.inl ⟨by rfl, ?_⟩) hHeld ?_
        · intro w hSw; (try dsimp only at hSw); go_simp; (try (with_reducible rfl))
        refine wpAnyH_take (i := 15) (v := .int .i64 x2) rfl (by kernel_rfl) (by kernel_rfl) (by kernel_rfl) (fun _ _ _ h => h) (Or.inl ⟨by rfl, ?_⟩) hHeld ?_
        · intro w hSw; (try dsimp only at hSw); go_simp; (try (with_reducible rfl))
        refine wpAnyH_take (i := 16) (v := .slice (some ⟨b2, o2, none⟩) (r.length + 1) c2) rfl (by kernel_rfl) (by kernel_rfl) (by kernel_rfl) (fun _ _ _ h => h) (Or.inl ⟨by rfl, ?_⟩) hHeld ?_
        · intro w hSw; (try dsimp only at hSw); go_simp; (try (with_reducible rfl))
        refine wpAnyH_take (i := 17) (v := .int .i64 (jj : Int)) rfl (by kernel_rfl) (by kernel_rfl) (by kernel_rfl) (fun _ _ _ h => h) (Or.inl ⟨by rfl, ?_⟩) hHeld ?_
        · intro w hSw; (try dsimp only at hSw); go_simp; (try (with_reducible rfl))
        refine wpAnyH_take (i := 18) (v := .int .i64 ((jj : Int) + 3)) rfl (by kernel_rfl) (by kernel_rfl) (by kernel_rfl) (fun _ _ _ h => h) (Or.inl ⟨by rfl, ?_⟩) hHeld ?_
        · intro w hSw; (try dsimp only at hSw); go_simp; (try (with_reducible rfl))
        refine wpAnyH_take (i := 19) (v := .pointer (some ⟨b2, o2 + (jj + 3), none⟩)) rfl (by kernel_rfl) (by kernel_rfl) (by kernel_rfl) (fun _ _ _ h => h) (Or.inl ⟨by rfl, ?_⟩) hHeld ?_
        · intro w hSw; (try dsimp only at hSw); go_simp; (try (with_reducible rfl))
        refine wpAnyH_take (i := 20) (v := .int .i64 x3) rfl (by kernel_rfl) (by kernel_rfl) (by kernel_rfl) (fun _ _ _ h => h) (Or.inl ⟨by rfl, ?_⟩) hHeld ?_
        · intro w hSw; (try dsimp only at hSw); go_simp; (try (with_reducible rfl))
        refine wpAnyH_take (i := 21) (v := .slice (some ⟨b2, o2, none⟩) (r.length + 1) c2) rfl (by kernel_rfl) (by kernel_rfl) (by kernel_rfl) (fun _ _ _ h => h) (Or.inl ⟨by rfl, ?_⟩) hHeld ?_
        · intro w hSw; (try dsimp only at hSw); go_simp; (try (with_reducible rfl))
        refine wpAnyH_take (i := 22) (v := .int .i64 (jj : Int)) rfl (by kernel_rfl) (by kernel_rfl) (by kernel_rfl) (fun _ _ _ h => h) (Or.inl ⟨by rfl, ?_⟩) hHeld ?_
        · intro w hSw; (try dsimp only at hSw); go_simp; (try (with_reducible rfl))
        refine wpAnyH_take (i := 23) (v := .int .i64 ((jj : Int) + 4)) rfl (by kernel_rfl) (by kernel_rfl) (by kernel_rfl) (fun _ _ _ h => h) (Or.inl ⟨by rfl, ?_⟩) hHeld ?_
        · intro w hSw; (try dsimp only at hSw); go_simp; (try (with_reducible rfl))
        refine wpAnyH_take (i := 24) (v := .pointer (some ⟨b2, o2 + (jj + 4), none⟩)) rfl (by kernel_rfl) (by kernel_rfl) (by kernel_rfl) (fun _ _ _ h => h) (Or.inl ⟨by rfl, ?_⟩) hHeld ?_
        · intro w hSw; (try dsimp only at hSw); go_simp; (try (with_reducible rfl))
        refine wpAnyH_take (i := 25) (v := .int .i64 x4) rfl (by kernel_rfl) (by kernel_rfl) (by kernel_rfl) (fun _ _ _ h => h) (Or.inl ⟨by rfl, ?_⟩) hHeld ?_
        · intro w hSw; (try dsimp only at hSw); go_simp; (try (with_reducible rfl))
        refine wpAnyH_take (i := 26) (v := .agg #[.int .i64 x0, .int .i64 x1, .int .i64 x2, .int .i64 x3, .int .i64 x4]) rfl (by kernel_rfl) (by kernel_rfl) (by kernel_rfl) (fun _ _ _ h => h) (Or.inl ⟨by rfl, ?_⟩) hHeld ?_
        · intro w hSw; (try dsimp only at hSw); go_simp; (try (with_reducible rfl))
        refine wpAnyH_ready (rs := [1, 27]) (by kernel_rfl) (by simp) ?_
        refine AllReadyH.cons (i := 1) rfl (fun K hK => ?_) ?_
        · go_simp
          refine hK.out _ _ (HS.out _ HXx.out.drew) (fun hHeld => ?_)
          clear hK K
          refine wpAnyH_ready (rs := [27]) (by kernel_rfl) (by simp) ?_
          refine AllReadyH.cons (i := 27) rfl (fun K hK => ?_) AllReadyH.nil
          go_simp
          refine hK.out _ _ (HS.out _ (HXx.out.alloc hwsx _).drew) (fun hHeld => ?_)
          clear hK K
          refine wpAnyH_ready (rs := [28]) (by kernel_rfl) (by simp) ?_
          refine AllReadyH.cons (i := 28) rfl (fun K hK => ?_) AllReadyH.nil
          (refine step_append_lies _ (by rfl) (.tmp 91) (.tmp 117) _ (by rfl) (w3.heap.size + 1) 53 i0 _ 5 40 Try.underlying30 IZ.out.1 IZ.out.2.1 IZ.out.2.2.1 IZ.out.2.2.2 (by kernel_rfl) (by omega) v acc.length (fcs acc) (by rfl) ((World.ownsRow.alloc HOx.out _).drew) ⟨wr.heap.size, 0, none⟩ 1 1 (fc5 ⟨x0, x1, x2, x3, x4⟩) (by rfl) (by rfl) (World.news_of_block (cs := #[.int .i64 x0, .int .i64 x1, .int .i64 x2, .int .i64 x3, .int .i64 x4]) (t := 53) (fr := (0, 0)) (heap_alloc_new wr _)) (fun u hu => fcs_one [⟨x0, x1, x2, x3, x4⟩] u (by simpa [fcs] using hu)) (by omega) (by unfold maxLen; omega) (by omega) (by simp; omega) (wr.heap.size + 1) (by simp) ?_; intro g5 cc5 w5 hown5 hgrow hat5 hlt5; have H5 := Lib.hid (of_snoc hown5); have X5 := Lib.hid ((HXx.out.alloc hwsx _).drew.grown hgrow (by simp; omega) (fun r hr => (by have := (HOx.out.lt hr).1; omega))); have B5 := Lib.hid (show Blk w5 w3.heap.size 32 _ from (hgrow.block _ (by simp; omega) NE.out).trans (HBx.out.alloc _)); have z3 := B5.out.frozen 3; have d3 := B5.out.cell 3; simp at d3; have hg5 := (H5.out.lt (g := g5) rfl).1; clear hown5 hgrow hat5)
          refine hK.out _ _ (HS.out _ X5.out) (fun hHeld => ?_)
          clear hK K
          refine wpAnyH_ready (rs := [29]) (by kernel_rfl) (by simp) ?_
          refine AllReadyH.cons (i := 29) rfl (fun K hK => ?_) AllReadyH.nil
          go_simp
          refine hK.out _ _ (HS.out _ X5.out) (fun hHeld => ?_)
          clear hK K
          refine wpAnyH_ready (rs := [30]) (by kernel_rfl) (by simp) ?_
          refine AllReadyH.cons (i := 30) rfl (fun K hK => ?_) AllReadyH.nil
          go_simp
          refine hK.out _ _ (HS.out _ (X5.out.setCell (Nat.le_refl _) _)) (fun hHeld => ?_)
          clear hK K
          refine wpAnyH_done (by kernel_rfl) ?_ _
          refine NoPanic.normal ?_
          go_wp2_with fail
          go_roundw
          case rel =>
            refine ⟨m' + 1, jj + 5, _, by omega, hj5, by go_num, ?_, B5.out.put 3 _, ?_, X5.out.setCell (Nat.le_refl _) _⟩
            · show _ = _
              have := HJJ.out
              omega
            · show Of _ _ _ _
              rw [HFK.out]
              refine H5.out.keepB fun g hg => ?_
              injection hg with hg
              subst hg
              exact Below.heap_setCell _ _ _ _ (by simp only; omega)
          case measure => simp [intOf]; omega
        · refine AllReadyH.cons (i := 27) rfl (fun K hK => ?_) AllReadyH.nil
          go_simp
          refine hK.out _ _ (HS.out _ (HXx.out.alloc hwsx _).drew) (fun hHeld => ?_)
          clear hK K
          refine wpAnyH_ready (rs := [1]) (by kernel_rfl) (by simp) ?_
          refine AllReadyH.cons (i := 1) rfl (fun K hK => ?_) AllReadyH.nil
          go_simp
          refine hK.out _ _ (HS.out _ (HXx.out.alloc hwsx _).drew) (fun hHeld => ?_)
          clear hK K
          refine wpAnyH_ready (rs := [28]) (by kernel_rfl) (by simp) ?_
          refine AllReadyH.cons (i := 28) rfl (fun K hK => ?_) AllReadyH.nil
          (refine step_append_lies _ (by rfl) (.tmp 91) (.tmp 117) _ (by rfl) (w3.heap.size + 1) 53 i0 _ 5 40 Try.underlying30 IZ.out.1 IZ.out.2.1 IZ.out.2.2.1 IZ.out.2.2.2 (by kernel_rfl) (by omega) v acc.length (fcs acc) (by rfl) ((World.ownsRow.alloc HOx.out _).drew) ⟨wr.heap.size, 0, none⟩ 1 1 (fc5 ⟨x0, x1, x2, x3, x4⟩) (by rfl) (by rfl) (World.news_of_block (cs := #[.int .i64 x0, .int .i64 x1, .int .i64 x2, .int .i64 x3, .int .i64 x4]) (t := 53) (fr := (0, 0)) (heap_alloc_new wr _)) (fun u hu => fcs_one [⟨x0, x1, x2, x3, x4⟩] u (by simpa [fcs] using hu)) (by omega) (by unfold maxLen; omega) (by omega) (by simp; omega) (wr.heap.size + 1) (by simp) ?_; intro g5 cc5 w5 hown5 hgrow hat5 hlt5; have H5 := Lib.hid (of_snoc hown5); have X5 := Lib.hid ((HXx.out.alloc hwsx _).drew.grown hgrow (by simp; omega) (fun r hr => (by have := (HOx.out.lt hr).1; omega))); have B5 := Lib.hid (show Blk w5 w3.heap.size 32 _ from (hgrow.block _ (by simp; omega) NE.out).trans (HBx.out.alloc _)); have z3 := B5.out.frozen 3; have d3 := B5.out.cell 3; simp at d3; have hg5 := (H5.out.lt (g := g5) rfl).1; clear hown5 hgrow hat5)
          refine hK.out _ _ (HS.out _ X5.out) (fun hHeld => ?_)
          clear hK K
          refine wpAnyH_ready (rs := [29]) (by kernel_rfl) (by simp) ?_
          refine AllReadyH.cons (i := 29) rfl (fun K hK => ?_) AllReadyH.nil
          go_simp
          refine hK.out _ _ (HS.out _ X5.out) (fun hHeld => ?_)
          clear hK K
          refine wpAnyH_ready (rs := [30]) (by kernel_rfl) (by simp) ?_
          refine AllReadyH.cons (i := 30) rfl (fun K hK => ?_) AllReadyH.nil
          go_simp
          refine hK.out _ _ (HS.out _ (X5.out.setCell (Nat.le_refl _) _)) (fun hHeld => ?_)
          clear hK K
          refine wpAnyH_done (by kernel_rfl) ?_ _
          refine NoPanic.normal ?_
          go_wp2_with fail
          go_roundw
          case rel =>
            refine ⟨m' + 1, jj + 5, _, by omega, hj5, by go_num, ?_, B5.out.put 3 _, ?_, X5.out.setCell (Nat.le_refl _) _⟩
            · show _ = _
              have := HJJ.out
              omega
            · show Of _ _ _ _
              rw [HFK.out]
              refine H5.out.keepB fun g hg => ?_
              injection hg with hg
              subst hg
              exact Below.heap_setCell _ _ _ _ (by simp only; omega)
          case measure => simp [intOf]; omega
    · go_wp2_with (go_at_call 40; refine (rtakeText_any _ _ _ R (HRD.out.below HW.out (Nat.le_refl _))).mono ?_; rintro e w2 ⟨rfl, h2⟩; rw [HQX.out, HXW.out, HTN.out]; have X2 := Lib.hid (HW.out.trans (h2.mono hws)); have HT2 := Lib.hid (HT.out.below h2); have hs2 := X2.out.size; have hs20 := h2.size; clear h2)
      go_wp2_with (go_at_call 41; refine (rtakeInts_any _ _ _ R2 (HRD2.out.below X2.out (Nat.le_refl _))).mono ?_; rintro e w3 ⟨v3, rfl, o3, h3⟩; rw [HQI.out]; have X3 := Lib.hid (X2.out.trans (h3.mono hs2)); have HT3 := Lib.hid (HT2.out.below h3); have hs3 := h3.size; rw [HI.out]; rw [HLL.out] at o3; obtain ⟨A2, k2, c2, rfl, l2⟩ := o3.form HFT.out; have hk2 : r.length + 1 = k2 := (by rw [← l2.len, zs_len]; rfl); subst hk2; have hc2 := l2.le; have hm2 := l2.max; obtain ⟨b2, o2, y, rfl, hy, _, _, hb2, hcy⟩ := l2.intAt 0 (by simp); have hye := hy.out; simp [zs] at hye; subst hye; rw [Nat.add_zero] at hcy; have LI := Lib.hid l2; clear h3 o3 l2 hy)
      go_region_held3 (fun w' => w'.cell? ⟨b2, o2, none⟩ = some (.int .i64 1)) (first | go_keep) (first | fail)
      obtain ⟨w4, hw4⟩ : ∃ w4, w4 = (w3.alloc (Obj.cells #[.string tn, .bool true, .bool false, .slice none 0 0] 32)).drew := ⟨_, rfl⟩
      rw [← hw4]
      have B4 := Lib.hid (show Blk w4 w3.heap.size 32 #[.string tn, .bool true, .bool false, .slice none 0 0] by rw [hw4]; exact Blk.new w3 _ _)
      have X4 := Lib.hid (show Below w3.heap.size w3 w4 by rw [hw4]; exact ((Below.refl _ _).alloc (Nat.le_refl _) _).drew)
      clear hw4 hcy
      go_wp2_with fail
      go_loopw [17] (fun i wx => ∃ (m' jj : Nat) (v : Value), m' ≤ m ∧ jj ≤ r.length + 1 ∧ i = .int .i64 jj ∧ Hid (jj = 5 * m' + 1) ∧ Hid (Blk wx w3.heap.size 32 #[.string tn, .bool true, .bool false, v]) ∧ Hid (Of wx (w3.heap.size + 1) v (fos ((zs r).take (5 * m')))) ∧ Hid (Below w3.heap.size w3 wx)) (fun i _ => r.length + 1 - (intOf i).toNat)
      case atStart => exact ⟨0, 1, .slice none 0 0, Nat.zero_le _, by omega, rfl, rfl, B4.out, by show Of _ _ _ _; simpa [fos] using Of.nil _ _, X4.out⟩
      case round =>
        clear B4 X4
        obtain ⟨m', jj, v, hmm, hjl, rfl, HJJ, HBx, HOx, HXx⟩ := hrel
        have hwsx := HXx.out.size
        have htbx := HBx.out.lt
        by_cases hlm : m' < m
        case neg =>
          obtain rfl : m' = m := by omega
          have hjr : ¬ (jj : Int) < (r.length : Int) + 1 := by have h1 := HJJ.out; have h2 := HM5.out; omega
          have HTA := Lib.hid (show (zs r).take (5 * m') = zs r by rw [← HM5.out]; exact List.take_of_length_le (by rw [zs_len]; omega))
          rw [HTA.out] at HOx
          obtain ⟨FA, fk, fc, rfl, lf, far⟩ := HOx.out.form (fos_ok _ HFR.out)
          have LFX := Lib.hid (And.intro lf far)
          obtain ⟨c0, c1, c2', c3'⟩ := four HBx.out (Below.refl wr.heap.size wr) htbx
          have HTX := Lib.hid (HT3.out.below HXx.out)
          clear lf far
          go_wp2_with (at_builtin; refine wpList_tapp rfl _ _ rfl w.heap.size u8 l rfl HTX.out.row ⟨⟨tn, true, false, fos (zs r)⟩, FA, fk, fc⟩ _ rfl rfl HL3.out (by omega) ?_; intro g4 cc4 w4 hown4 hgrow hat4 hlt4; have HT4 := Lib.hid (HTX.out.app (q := ⟨⟨tn, true, false, fos (zs r)⟩, FA, fk, fc⟩) HNL.out LFX.out.1 (fun b' o' e => (by have h5 := LFX.out.2 b' o' e; refine ⟨h5.2, fun e2 => ?_⟩; have h6 := (HT3.out.row.lt e2).2; omega)) hown4 hgrow hat4); have X4 := Lib.hid ((X3.out.trans (HXx.out.mono (by omega))).grown hgrow (by omega) (fun r hr => (HTX.out.row.lt hr).1)); clear hown4 hgrow hat4 hlt4)
          go_roundw
          case rel =>
            refine ⟨j + 1, at' + P1 + I, l ++ [⟨⟨tn, true, false, fos (zs r)⟩, FA, fk, fc⟩], by omega, hIk, by go_num, by go_num, ?_, ?_, ?_, ?_, ?_, X4.out⟩
            · show _ = _
              rw [List.length_append, HLN.out]
              rfl
            · show _ = _
              rw [HM.out]
              exact HE2.out
            · show _ = _
              rw [HM.out, HV2.out]
              simp
            · show _ = _
              rw [HM.out, HW3.out]
              omega
            · show Tl _ _ _ _
              exact HT4.out
          case measure => simp [intOf]; omega
        have hj5 : jj + 5 ≤ r.length + 1 := by have h1 := HJJ.out; have h2 := HM5.out; omega
        obtain ⟨x0, hx0, _, _, c0⟩ := LI.out.at jj (by omega)
        obtain ⟨x1, hx1, _, _, c1⟩ := LI.out.at (jj + 1) (by omega)
        obtain ⟨x2, hx2, _, _, c2'⟩ := LI.out.at (jj + 2) (by omega)
        obtain ⟨x3, hx3, _, _, c3'⟩ := LI.out.at (jj + 3) (by omega)
        obtain ⟨x4, hx4, _, _, c4⟩ := LI.out.at (jj + 4) (by omega)
        have HSV := Lib.hid (And.intro c0 (And.intro c1 (And.intro c2' (And.intro c3' c4))))
        have HS := Lib.hid (show ∀ W, Below w3.heap.size w3 W → (W.cell? ⟨b2, o2 + jj, none⟩ = some (.int .i64 x0) ∧ W.cell? ⟨b2, o2 + (jj + 1), none⟩ = some (.int .i64 x1) ∧ W.cell? ⟨b2, o2 + (jj + 2), none⟩ = some (.int .i64 x2) ∧ W.cell? ⟨b2, o2 + (jj + 3), none⟩ = some (.int .i64 x3) ∧ W.cell? ⟨b2, o2 + (jj + 4), none⟩ = some (.int .i64 x4)) from fun W hW =>
          ⟨(hW.cell (p := ⟨b2, o2 + jj, none⟩) hb2).trans HSV.out.1, (hW.cell (p := ⟨b2, o2 + (jj + 1), none⟩) hb2).trans HSV.out.2.1, (hW.cell (p := ⟨b2, o2 + (jj + 2), none⟩) hb2).trans HSV.out.2.2.1, (hW.cell (p := ⟨b2, o2 + (jj + 3), none⟩) hb2).trans HSV.out.2.2.2.1, (hW.cell (p := ⟨b2, o2 + (jj + 4), none⟩) hb2).trans HSV.out.2.2.2.2⟩)
        have HFK := Lib.hid (show fos ((zs r).take (5 * (m' + 1))) = fos ((zs r).take (5 * m')) ++ [⟨x0, x1, x2, x3, x4⟩] by
          have e := HJJ.out
          have z : zs (1 :: r) = ((1 : Nat) : Int) :: zs r := rfl
          have g0 := hx0.out
          have g1 := hx1.out
          have g2 := hx2.out
          have g3 := hx3.out
          have g4 := hx4.out
          rw [z, e] at g0 g1 g2 g3 g4
          exact fos_take (by rw [zs_len, HM5.out]; omega) (by simpa using g0) (by simpa [Nat.add_right_comm] using g1) (by simpa [Nat.add_right_comm] using g2) (by simpa [Nat.add_right_comm] using g3) (by simpa [Nat.add_right_comm] using g4))
        have hal : (fos ((zs r).take (5 * m'))).length ≤ 1000 := by rw [fos_len m' _ (by rw [List.length_take, zs_len, HM5.out]; omega)]; have := HM5.out; omega
        obtain ⟨acc, hacc⟩ : ∃ acc, fos ((zs r).take (5 * m')) = acc := ⟨_, rfl⟩
        rw [hacc] at HOx HFK hal
        have NE := Lib.hid (show some w3.heap.size ≠ v.ownBlock from fun e1 => by have := (HOx.out.lt e1.symm).1; omega)
        clear c0 c1 c2' c3' c4 hx0 hx1 hx2 hx3 hx4 hacc
        obtain ⟨c0, c1, c2', c3', c4⟩ := HS.out _ HXx.out
        have t3 := HBx.out.cell 3
        simp at t3
        have b0 : (jj : Int) < (r.length : Int) + 1 := by omega
        have b1 : (jj : Int) + 1 < (r.length : Int) + 1 := by omega
        have b2' : (jj : Int) + 2 < (r.length : Int) + 1 := by omega
        have b3 : (jj : Int) + 3 < (r.length : Int) + 1 := by omega
        have b4 : (jj : Int) + 4 < (r.length : Int) + 1 := by omega
        have y1 : IntKind.i64.wrap ((jj : Int) + 1) = (jj : Int) + 1 := by rw [IntKind.wrap_i64]; omega
        have y2 : IntKind.i64.wrap ((jj : Int) + 2) = (jj : Int) + 2 := by rw [IntKind.wrap_i64]; omega
        have y3 : IntKind.i64.wrap ((jj : Int) + 3) = (jj : Int) + 3 := by rw [IntKind.wrap_i64]; omega
        have y4 : IntKind.i64.wrap ((jj : Int) + 4) = (jj : Int) + 4 := by rw [IntKind.wrap_i64]; omega
        have b1' : (jj : Int) < (r.length : Int) := by omega
        have n1 : (0 : Int) ≤ (jj : Int) + 1 := by omega
        have n2 : (0 : Int) ≤ (jj : Int) + 2 := by omega
        have n3 : (0 : Int) ≤ (jj : Int) + 3 := by omega
        have n4 : (0 : Int) ≤ (jj : Int) + 4 := by omega
        have k1 : ((jj : Int) + 1).toNat = jj + 1 := by omega
        have k2 : ((jj : Int) + 2).toNat = jj + 2 := by omega
        have k3 : ((jj : Int) + 3).toNat = jj + 3 := by omega
        have k4 : ((jj : Int) + 4).toNat = jj + 4 := by omega
        go_wp2_with fail
        refine wp_region_noPanic ?_
        refine wp_region_held_drew (S := fun w' => w'.cell? ⟨b2, o2 + jj, none⟩ = some (.int .i64 x0) ∧ w'.cell? ⟨b2, o2 + (jj + 1), none⟩ = some (.int .i64 x1) ∧ w'.cell? ⟨b2, o2 + (jj + 2), none⟩ = some (.int .i64 x2) ∧ w'.cell? ⟨b2, o2 + (jj + 3), none⟩ = some (.int .i64 x3) ∧ w'.cell? ⟨b2, o2 + (jj + 4), none⟩ = some (.int .i64 x4)) (by kernel_rfl) (HS.out _ HXx.out.drew) (fun hHeld => ?_)
        refine wpAnyH_take (i := 0) (v := .pointer (some ⟨w3.heap.size, 3, none⟩)) rfl (by kernel_rfl) (by kernel_rfl) (by kernel_rfl) (fun _ _ _ h => h) (Or.inl ⟨by rfl, ?_⟩) hHeld ?_
        · intro w hSw; (try dsimp only at hSw); go_simp; (try (with_reducible rfl))
        refine wpAnyH_take (i := 2) (v := .slice (some ⟨b2, o2, none⟩) (r.length + 1) c2) rfl (by kernel_rfl) (by kernel_rfl) (by kernel_rfl) (fun _ _ _ h => h) (Or.inl ⟨by rfl, ?_⟩) hHeld ?_
        · intro w hSw; (try dsimp only at hSw); go_simp; (try (with_reducible rfl))
        refine wpAnyH_take (i := 3) (v := .int .i64 (jj : Int)) rfl (by kernel_rfl) (by kernel_rfl) (by kernel_rfl) (fun _ _ _ h => h) (Or.inl ⟨by rfl, ?_⟩) hHeld ?_
        · intro w hSw; (try dsimp only at hSw); go_simp; (try (with_reducible rfl))
        refine wpAnyH_take (i := 4) (v := .pointer (some ⟨b2, o2 + jj, none⟩)) rfl (by kernel_rfl) (by kernel_rfl) (by kernel_rfl) (fun _ _ _ h => h) (Or.inl ⟨by rfl, ?_⟩) hHeld ?_
        · intro w hSw; (try dsimp only at hSw); go_simp; (try (with_reducible rfl))
        refine wpAnyH_take (i := 5) (v := .int .i64 x0) rfl (by kernel_rfl) (by kernel_rfl) (by kernel_rfl) (fun _ _ _ h => h) (Or.inl ⟨by rfl, ?_⟩) hHeld ?_
        · intro w hSw; (try dsimp only at hSw); go_simp; (try (with_reducible rfl))
        refine wpAnyH_take (i := 6) (v := .slice (some ⟨b2, o2, none⟩) (r.length + 1) c2) rfl (by kernel_rfl) (by kernel_rfl) (by kernel_rfl) (fun _ _ _ h => h) (Or.inl ⟨by rfl, ?_⟩) hHeld ?_
        · intro w hSw; (try dsimp only at hSw); go_simp; (try (with_reducible rfl))
        refine wpAnyH_take (i := 7) (v := .int .i64 (jj : Int)) rfl (by kernel_rfl) (by kernel_rfl) (by kernel_rfl) (fun _ _ _ h => h) (Or.inl ⟨by rfl, ?_⟩) hHeld ?_
        · intro w hSw; (try dsimp only at hSw); go_simp; (try (with_reducible rfl))
        refine wpAnyH_take (i := 8) (v := .int .i64 ((jj : Int) + 1)) rfl (by kernel_rfl) (by kernel_rfl) (by kernel_rfl) (fun _ _ _ h => h) (Or.inl ⟨by rfl, ?_⟩) hHeld ?_
        · intro w hSw; (try dsimp only at hSw); go_simp; (try (with_reducible rfl))
        refine wpAnyH_take (i := 9) (v := .pointer (some ⟨b2, o2 + (jj + 1), none⟩)) rfl (by kernel_rfl) (by kernel_rfl) (by kernel_rfl) (fun _ _ _ h => h) (Or.inl ⟨by rfl, ?_⟩) hHeld ?_
        · intro w hSw; (try dsimp only at hSw); go_simp; (try (with_reducible rfl))
        refine wpAnyH_take (i := 10) (v := .int .i64 x1) rfl (by kernel_rfl) (by kernel_rfl) (by kernel_rfl) (fun _ _ _ h => h) (Or.inl ⟨by rfl, ?_⟩) hHeld ?_
        · intro w hSw; (try dsimp only at hSw); go_simp; (try (with_reducible rfl))
        refine wpAnyH_take (i := 11) (v := .slice (some ⟨b2, o2, none⟩) (r.length + 1) c2) rfl (by kernel_rfl) (by kernel_rfl) (by kernel_rfl) (fun _ _ _ h => h) (Or.inl ⟨by rfl, ?_⟩) hHeld ?_
        · intro w hSw; (try dsimp only at hSw); go_simp; (try (with_reducible rfl))
        refine wpAnyH_take (i := 12) (v := .int .i64 (jj : Int)) rfl (by kernel_rfl) (by kernel_rfl) (by kernel_rfl) (fun _ _ _ h => h) (Or.inl ⟨by rfl, ?_⟩) hHeld ?_
        · intro w hSw; (try dsimp only at hSw); go_simp; (try (with_reducible rfl))
        refine wpAnyH_take (i := 13) (v := .int .i64 ((jj : Int) + 2)) rfl (by kernel_rfl) (by kernel_rfl) (by kernel_rfl) (fun _ _ _ h => h) (Or.inl ⟨by rfl, ?_⟩) hHeld ?_
        · intro w hSw; (try dsimp only at hSw); go_simp; (try (with_reducible rfl))
        refine wpAnyH_take (i := 14) (v := .pointer (some ⟨b2, o2 + (jj + 2), none⟩)) rfl (by kernel_rfl) (by kernel_rfl) (by kernel_rfl) (fun _ _ _ h => h) (Or.inl ⟨by rfl, ?_⟩) hHeld ?_
        · intro w hSw; (try dsimp only at hSw); go_simp; (try (with_reducible rfl))
        refine wpAnyH_take (i := 15) (v := .int .i64 x2) rfl (by kernel_rfl) (by kernel_rfl) (by kernel_rfl) (fun _ _ _ h => h) (Or.inl ⟨by rfl, ?_⟩) hHeld ?_
        · intro w hSw; (try dsimp only at hSw); go_simp; (try (with_reducible rfl))
        refine wpAnyH_take (i := 16) (v := .slice (some ⟨b2, o2, none⟩) (r.length + 1) c2) rfl (by kernel_rfl) (by kernel_rfl) (by kernel_rfl) (fun _ _ _ h => h) (Or.inl ⟨by rfl, ?_⟩) hHeld ?_
        · intro w hSw; (try dsimp only at hSw); go_simp; (try (with_reducible rfl))
        refine wpAnyH_take (i := 17) (v := .int .i64 (jj : Int)) rfl (by kernel_rfl) (by kernel_rfl) (by kernel_rfl) (fun _ _ _ h => h) (Or.inl ⟨by rfl, ?_⟩) hHeld ?_
        · intro w hSw; (try dsimp only at hSw); go_simp; (try (with_reducible rfl))
        refine wpAnyH_take (i := 18) (v := .int .i64 ((jj : Int) + 3)) rfl (by kernel_rfl) (by kernel_rfl) (by kernel_rfl) (fun _ _ _ h => h) (Or.inl ⟨by rfl, ?_⟩) hHeld ?_
        · intro w hSw; (try dsimp only at hSw); go_simp; (try (with_reducible rfl))
        refine wpAnyH_take (i := 19) (v := .pointer (some ⟨b2, o2 + (jj + 3), none⟩)) rfl (by kernel_rfl) (by kernel_rfl) (by kernel_rfl) (fun _ _ _ h => h) (Or.inl ⟨by rfl, ?_⟩) hHeld ?_
        · intro w hSw; (try dsimp only at hSw); go_simp; (try (with_reducible rfl))
        refine wpAnyH_take (i := 20) (v := .int .i64 x3) rfl (by kernel_rfl) (by kernel_rfl) (by kernel_rfl) (fun _ _ _ h => h) (Or.inl ⟨by rfl, ?_⟩) hHeld ?_
        · intro w hSw; (try dsimp only at hSw); go_simp; (try (with_reducible rfl))
        refine wpAnyH_take (i := 21) (v := .slice (some ⟨b2, o2, none⟩) (r.length + 1) c2) rfl (by kernel_rfl) (by kernel_rfl) (by kernel_rfl) (fun _ _ _ h => h) (Or.inl ⟨by rfl, ?_⟩) hHeld ?_
        · intro w hSw; (try dsimp only at hSw); go_simp; (try (with_reducible rfl))
        refine wpAnyH_take (i := 22) (v := .int .i64 (jj : Int)) rfl (by kernel_rfl) (by kernel_rfl) (by kernel_rfl) (fun _ _ _ h => h) (Or.inl ⟨by rfl, ?_⟩) hHeld ?_
        · intro w hSw; (try dsimp only at hSw); go_simp; (try (with_reducible rfl))
        refine wpAnyH_take (i := 23) (v := .int .i64 ((jj : Int) + 4)) rfl (by kernel_rfl) (by kernel_rfl) (by kernel_rfl) (fun _ _ _ h => h) (Or.inl ⟨by rfl, ?_⟩) hHeld ?_
        · intro w hSw; (try dsimp only at hSw); go_simp; (try (with_reducible rfl))
        refine wpAnyH_take (i := 24) (v := .pointer (some ⟨b2, o2 + (jj + 4), none⟩)) rfl (by kernel_rfl) (by kernel_rfl) (by kernel_rfl) (fun _ _ _ h => h) (Or.inl ⟨by rfl, ?_⟩) hHeld ?_
        · intro w hSw; (try dsimp only at hSw); go_simp; (try (with_reducible rfl))
        refine wpAnyH_take (i := 25) (v := .int .i64 x4) rfl (by kernel_rfl) (by kernel_rfl) (by kernel_rfl) (fun _ _ _ h => h) (Or.inl ⟨by rfl, ?_⟩) hHeld ?_
        · intro w hSw; (try dsimp only at hSw); go_simp; (try (with_reducible rfl))
        refine wpAnyH_take (i := 26) (v := .agg #[.int .i64 x0, .int .i64 x1, .int .i64 x2, .int .i64 x3, .int .i64 x4]) rfl (by kernel_rfl) (by kernel_rfl) (by kernel_rfl) (fun _ _ _ h => h) (Or.inl ⟨by rfl, ?_⟩) hHeld ?_
        · intro w hSw; (try dsimp only at hSw); go_simp; (try (with_reducible rfl))
        refine wpAnyH_ready (rs := [1, 27]) (by kernel_rfl) (by simp) ?_
        refine AllReadyH.cons (i := 1) rfl (fun K hK => ?_) ?_
        · go_simp
          refine hK.out _ _ (HS.out _ HXx.out.drew) (fun hHeld => ?_)
          clear hK K
          refine wpAnyH_ready (rs := [27]) (by kernel_rfl) (by simp) ?_
          refine AllReadyH.cons (i := 27) rfl (fun K hK => ?_) AllReadyH.nil
          go_simp
          refine hK.out _ _ (HS.out _ (HXx.out.alloc hwsx _).drew) (fun hHeld => ?_)
          clear hK K
          refine wpAnyH_ready (rs := [28]) (by kernel_rfl) (by simp) ?_
          refine AllReadyH.cons (i := 28) rfl (fun K hK => ?_) AllReadyH.nil
          (refine step_append_lies _ (by rfl) (.tmp 91) (.tmp 117) _ (by rfl) (w3.heap.size + 1) 53 i0 _ 5 40 Try.underlying30 IZ.out.1 IZ.out.2.1 IZ.out.2.2.1 IZ.out.2.2.2 (by kernel_rfl) (by omega) v acc.length (fcs acc) (by rfl) ((World.ownsRow.alloc HOx.out _).drew) ⟨wr.heap.size, 0, none⟩ 1 1 (fc5 ⟨x0, x1, x2, x3, x4⟩) (by rfl) (by rfl) (World.news_of_block (cs := #[.int .i64 x0, .int .i64 x1, .int .i64 x2, .int .i64 x3, .int .i64 x4]) (t := 53) (fr := (0, 0)) (heap_alloc_new wr _)) (fun u hu => fcs_one [⟨x0, x1, x2, x3, x4⟩] u (by simpa [fcs] using hu)) (by omega) (by unfold maxLen; omega) (by omega) (by simp; omega) (wr.heap.size + 1) (by simp) ?_; intro g5 cc5 w5 hown5 hgrow hat5 hlt5; have H5 := Lib.hid (of_snoc hown5); have X5 := Lib.hid ((HXx.out.alloc hwsx _).drew.grown hgrow (by simp; omega) (fun r hr => (by have := (HOx.out.lt hr).1; omega))); have B5 := Lib.hid (show Blk w5 w3.heap.size 32 _ from (hgrow.block _ (by simp; omega) NE.out).trans (HBx.out.alloc _)); have z3 := B5.out.frozen 3; have d3 := B5.out.cell 3; simp at d3; have hg5 := (H5.out.lt (g := g5) rfl).1; clear hown5 hgrow hat5)
          refine hK.out _ _ (HS.out _ X5.out) (fun hHeld => ?_)
          clear hK K
          refine wpAnyH_ready (rs := [29]) (by kernel_rfl) (by simp) ?_
          refine AllReadyH.cons (i := 29) rfl (fun K hK => ?_) AllReadyH.nil
          go_simp
          refine hK.out _ _ (HS.out _ X5.out) (fun hHeld => ?_)
          clear hK K
          refine wpAnyH_ready (rs := [30]) (by kernel_rfl) (by simp) ?_
          refine AllReadyH.cons (i := 30) rfl (fun K hK => ?_) AllReadyH.nil
          go_simp
          refine hK.out _ _ (HS.out _ (X5.out.setCell (Nat.le_refl _) _)) (fun hHeld => ?_)
          clear hK K
          refine wpAnyH_done (by kernel_rfl) ?_ _
          refine NoPanic.normal ?_
          go_wp2_with fail
          go_roundw
          case rel =>
            refine ⟨m' + 1, jj + 5, _, by omega, hj5, by go_num, ?_, B5.out.put 3 _, ?_, X5.out.setCell (Nat.le_refl _) _⟩
            · show _ = _
              have := HJJ.out
              omega
            · show Of _ _ _ _
              rw [HFK.out]
              refine H5.out.keepB fun g hg => ?_
              injection hg with hg
              subst hg
              exact Below.heap_setCell _ _ _ _ (by simp only; omega)
          case measure => simp [intOf]; omega
        · refine AllReadyH.cons (i := 27) rfl (fun K hK => ?_) AllReadyH.nil
          go_simp
          refine hK.out _ _ (HS.out _ (HXx.out.alloc hwsx _).drew) (fun hHeld => ?_)
          clear hK K
          refine wpAnyH_ready (rs := [1]) (by kernel_rfl) (by simp) ?_
          refine AllReadyH.cons (i := 1) rfl (fun K hK => ?_) AllReadyH.nil
          go_simp
          refine hK.out _ _ (HS.out _ (HXx.out.alloc hwsx _).drew) (fun hHeld => ?_)
          clear hK K
          refine wpAnyH_ready (rs := [28]) (by kernel_rfl) (by simp) ?_
          refine AllReadyH.cons (i := 28) rfl (fun K hK => ?_) AllReadyH.nil
          (refine step_append_lies _ (by rfl) (.tmp 91) (.tmp 117) _ (by rfl) (w3.heap.size + 1) 53 i0 _ 5 40 Try.underlying30 IZ.out.1 IZ.out.2.1 IZ.out.2.2.1 IZ.out.2.2.2 (by kernel_rfl) (by omega) v acc.length (fcs acc) (by rfl) ((World.ownsRow.alloc HOx.out _).drew) ⟨wr.heap.size, 0, none⟩ 1 1 (fc5 ⟨x0, x1, x2, x3, x4⟩) (by rfl) (by rfl) (World.news_of_block (cs := #[.int .i64 x0, .int .i64 x1, .int .i64 x2, .int .i64 x3, .int .i64 x4]) (t := 53) (fr := (0, 0)) (heap_alloc_new wr _)) (fun u hu => fcs_one [⟨x0, x1, x2, x3, x4⟩] u (by simpa [fcs] using hu)) (by omega) (by unfold maxLen; omega) (by omega) (by simp; omega) (wr.heap.size + 1) (by simp) ?_; intro g5 cc5 w5 hown5 hgrow hat5 hlt5; have H5 := Lib.hid (of_snoc hown5); have X5 := Lib.hid ((HXx.out.alloc hwsx _).drew.grown hgrow (by simp; omega) (fun r hr => (by have := (HOx.out.lt hr).1; omega))); have B5 := Lib.hid (show Blk w5 w3.heap.size 32 _ from (hgrow.block _ (by simp; omega) NE.out).trans (HBx.out.alloc _)); have z3 := B5.out.frozen 3; have d3 := B5.out.cell 3; simp at d3; have hg5 := (H5.out.lt (g := g5) rfl).1; clear hown5 hgrow hat5)
          refine hK.out _ _ (HS.out _ X5.out) (fun hHeld => ?_)
          clear hK K
          refine wpAnyH_ready (rs := [29]) (by kernel_rfl) (by simp) ?_
          refine AllReadyH.cons (i := 29) rfl (fun K hK => ?_) AllReadyH.nil
          go_simp
          refine hK.out _ _ (HS.out _ X5.out) (fun hHeld => ?_)
          clear hK K
          refine wpAnyH_ready (rs := [30]) (by kernel_rfl) (by simp) ?_
          refine AllReadyH.cons (i := 30) rfl (fun K hK => ?_) AllReadyH.nil
          go_simp
          refine hK.out _ _ (HS.out _ (X5.out.setCell (Nat.le_refl _) _)) (fun hHeld => ?_)
          clear hK K
          refine wpAnyH_done (by kernel_rfl) ?_ _
          refine NoPanic.normal ?_
          go_wp2_with fail
          go_roundw
          case rel =>
            refine ⟨m' + 1, jj + 5, _, by omega, hj5, by go_num, ?_, B5.out.put 3 _, ?_, X5.out.setCell (Nat.le_refl _) _⟩
            · show _ = _
              have := HJJ.out
              omega
            · show Of _ _ _ _
              rw [HFK.out]
              refine H5.out.keepB fun g hg => ?_
              injection hg with hg
              subst hg
              exact Below.heap_setCell _ _ _ _ (by simp only; omega)
          case measure => simp [intOf]; omega
    · go_wp2_with (go_at_call 40; refine (rtakeText_any _ _ _ R (HRD.out.below HW.out (Nat.le_refl _))).mono ?_; rintro e w2 ⟨rfl, h2⟩; rw [HQX.out, HXW.out, HTN.out]; have X2 := Lib.hid (HW.out.trans (h2.mono hws)); have HT2 := Lib.hid (HT.out.below h2); have hs2 := X2.out.size; have hs20 := h2.size; clear h2)
      go_wp2_with (go_at_call 41; refine (rtakeInts_any _ _ _ R2 (HRD2.out.below X2.out (Nat.le_refl _))).mono ?_; rintro e w3 ⟨v3, rfl, o3, h3⟩; rw [HQI.out]; have X3 := Lib.hid (X2.out.trans (h3.mono hs2)); have HT3 := Lib.hid (HT2.out.below h3); have hs3 := h3.size; rw [HI.out]; rw [HLL.out] at o3; obtain ⟨A2, k2, c2, rfl, l2⟩ := o3.form HFT.out; have hk2 : r.length + 1 = k2 := (by rw [← l2.len, zs_len]; rfl); subst hk2; have hc2 := l2.le; have hm2 := l2.max; obtain ⟨b2, o2, y, rfl, hy, _, _, hb2, hcy⟩ := l2.intAt 0 (by simp); have hye := hy.out; simp [zs] at hye; subst hye; rw [Nat.add_zero] at hcy; have LI := Lib.hid l2; clear h3 o3 l2 hy)
      go_region_held3 (fun w' => w'.cell? ⟨b2, o2, none⟩ = some (.int .i64 2)) (first | go_keep) (first | fail)
      obtain ⟨w4, hw4⟩ : ∃ w4, w4 = (w3.alloc (Obj.cells #[.string tn, .bool false, .bool true, .slice none 0 0] 32)).drew := ⟨_, rfl⟩
      rw [← hw4]
      have B4 := Lib.hid (show Blk w4 w3.heap.size 32 #[.string tn, .bool false, .bool true, .slice none 0 0] by rw [hw4]; exact Blk.new w3 _ _)
      have X4 := Lib.hid (show Below w3.heap.size w3 w4 by rw [hw4]; exact ((Below.refl _ _).alloc (Nat.le_refl _) _).drew)
      clear hw4 hcy
      go_wp2_with fail
      go_loopw [17] (fun i wx => ∃ (m' jj : Nat) (v : Value), m' ≤ m ∧ jj ≤ r.length + 1 ∧ i = .int .i64 jj ∧ Hid (jj = 5 * m' + 1) ∧ Hid (Blk wx w3.heap.size 32 #[.string tn, .bool false, .bool true, v]) ∧ Hid (Of wx (w3.heap.size + 1) v (fos ((zs r).take (5 * m')))) ∧ Hid (Below w3.heap.size w3 wx)) (fun i _ => r.length + 1 - (intOf i).toNat)
      case atStart => exact ⟨0, 1, .slice none 0 0, Nat.zero_le _, by omega, rfl, rfl, B4.out, by show Of _ _ _ _; simpa [fos] using Of.nil _ _, X4.out⟩
      case round =>
        clear B4 X4
        obtain ⟨m', jj, v, hmm, hjl, rfl, HJJ, HBx, HOx, HXx⟩ := hrel
        have hwsx := HXx.out.size
        have htbx := HBx.out.lt
        by_cases hlm : m' < m
        case neg =>
          obtain rfl : m' = m := by omega
          have hjr : ¬ (jj : Int) < (r.length : Int) + 1 := by have h1 := HJJ.out; have h2 := HM5.out; omega
          have HTA := Lib.hid (show (zs r).take (5 * m') = zs r by rw [← HM5.out]; exact List.take_of_length_le (by rw [zs_len]; omega))
          rw [HTA.out] at HOx
          obtain ⟨FA, fk, fc, rfl, lf, far⟩ := HOx.out.form (fos_ok _ HFR.out)
          have LFX := Lib.hid (And.intro lf far)
          obtain ⟨c0, c1, c2', c3'⟩ := four HBx.out (Below.refl wr.heap.size wr) htbx
          have HTX := Lib.hid (HT3.out.below HXx.out)
          clear lf far
          go_wp2_with (at_builtin; refine wpList_tapp rfl _ _ rfl w.heap.size u8 l rfl HTX.out.row ⟨⟨tn, false, true, fos (zs r)⟩, FA, fk, fc⟩ _ rfl rfl HL3.out (by omega) ?_; intro g4 cc4 w4 hown4 hgrow hat4 hlt4; have HT4 := Lib.hid (HTX.out.app (q := ⟨⟨tn, false, true, fos (zs r)⟩, FA, fk, fc⟩) HNL.out LFX.out.1 (fun b' o' e => (by have h5 := LFX.out.2 b' o' e; refine ⟨h5.2, fun e2 => ?_⟩; have h6 := (HT3.out.row.lt e2).2; omega)) hown4 hgrow hat4); have X4 := Lib.hid ((X3.out.trans (HXx.out.mono (by omega))).grown hgrow (by omega) (fun r hr => (HTX.out.row.lt hr).1)); clear hown4 hgrow hat4 hlt4)
          go_roundw
          case rel =>
            refine ⟨j + 1, at' + P1 + I, l ++ [⟨⟨tn, false, true, fos (zs r)⟩, FA, fk, fc⟩], by omega, hIk, by go_num, by go_num, ?_, ?_, ?_, ?_, ?_, X4.out⟩
            · show _ = _
              rw [List.length_append, HLN.out]
              rfl
            · show _ = _
              rw [HM.out]
              exact HE2.out
            · show _ = _
              rw [HM.out, HV2.out]
              simp
            · show _ = _
              rw [HM.out, HW3.out]
              omega
            · show Tl _ _ _ _
              exact HT4.out
          case measure => simp [intOf]; omega
        have hj5 : jj + 5 ≤ r.length + 1 := by have h1 := HJJ.out; have h2 := HM5.out; omega
        obtain ⟨x0, hx0, _, _, c0⟩ := LI.out.at jj (by omega)
        obtain ⟨x1, hx1, _, _, c1⟩ := LI.out.at (jj + 1) (by omega)
        obtain ⟨x2, hx2, _, _, c2'⟩ := LI.out.at (jj + 2) (by omega)
        obtain ⟨x3, hx3, _, _, c3'⟩ := LI.out.at (jj + 3) (by omega)
        obtain ⟨x4, hx4, _, _, c4⟩ := LI.out.at (jj + 4) (by omega)
        have HSV := Lib.hid (And.intro c0 (And.intro c1 (And.intro c2' (And.intro c3' c4))))
        have HS := Lib.hid (show ∀ W, Below w3.heap.size w3 W → (W.cell? ⟨b2, o2 + jj, none⟩ = some (.int .i64 x0) ∧ W.cell? ⟨b2, o2 + (jj + 1), none⟩ = some (.int .i64 x1) ∧ W.cell? ⟨b2, o2 + (jj + 2), none⟩ = some (.int .i64 x2) ∧ W.cell? ⟨b2, o2 + (jj + 3), none⟩ = some (.int .i64 x3) ∧ W.cell? ⟨b2, o2 + (jj + 4), none⟩ = some (.int .i64 x4)) from fun W hW =>
          ⟨(hW.cell (p := ⟨b2, o2 + jj, none⟩) hb2).trans HSV.out.1, (hW.cell (p := ⟨b2, o2 + (jj + 1), none⟩) hb2).trans HSV.out.2.1, (hW.cell (p := ⟨b2, o2 + (jj + 2), none⟩) hb2).trans HSV.out.2.2.1, (hW.cell (p := ⟨b2, o2 + (jj + 3), none⟩) hb2).trans HSV.out.2.2.2.1, (hW.cell (p := ⟨b2, o2 + (jj + 4), none⟩) hb2).trans HSV.out.2.2.2.2⟩)
        have HFK := Lib.hid (show fos ((zs r).take (5 * (m' + 1))) = fos ((zs r).take (5 * m')) ++ [⟨x0, x1, x2, x3, x4⟩] by
          have e := HJJ.out
          have z : zs (2 :: r) = ((2 : Nat) : Int) :: zs r := rfl
          have g0 := hx0.out
          have g1 := hx1.out
          have g2 := hx2.out
          have g3 := hx3.out
          have g4 := hx4.out
          rw [z, e] at g0 g1 g2 g3 g4
          exact fos_take (by rw [zs_len, HM5.out]; omega) (by simpa using g0) (by simpa [Nat.add_right_comm] using g1) (by simpa [Nat.add_right_comm] using g2) (by simpa [Nat.add_right_comm] using g3) (by simpa [Nat.add_right_comm] using g4))
        have hal : (fos ((zs r).take (5 * m'))).length ≤ 1000 := by rw [fos_len m' _ (by rw [List.length_take, zs_len, HM5.out]; omega)]; have := HM5.out; omega
        obtain ⟨acc, hacc⟩ : ∃ acc, fos ((zs r).take (5 * m')) = acc := ⟨_, rfl⟩
        rw [hacc] at HOx HFK hal
        have NE := Lib.hid (show some w3.heap.size ≠ v.ownBlock from fun e1 => by have := (HOx.out.lt e1.symm).1; omega)
        clear c0 c1 c2' c3' c4 hx0 hx1 hx2 hx3 hx4 hacc
        obtain ⟨c0, c1, c2', c3', c4⟩ := HS.out _ HXx.out
        have t3 := HBx.out.cell 3
        simp at t3
        have b0 : (jj : Int) < (r.length : Int) + 1 := by omega
        have b1 : (jj : Int) + 1 < (r.length : Int) + 1 := by omega
        have b2' : (jj : Int) + 2 < (r.length : Int) + 1 := by omega
        have b3 : (jj : Int) + 3 < (r.length : Int) + 1 := by omega
        have b4 : (jj : Int) + 4 < (r.length : Int) + 1 := by omega
        have y1 : IntKind.i64.wrap ((jj : Int) + 1) = (jj : Int) + 1 := by rw [IntKind.wrap_i64]; omega
        have y2 : IntKind.i64.wrap ((jj : Int) + 2) = (jj : Int) + 2 := by rw [IntKind.wrap_i64]; omega
        have y3 : IntKind.i64.wrap ((jj : Int) + 3) = (jj : Int) + 3 := by rw [IntKind.wrap_i64]; omega
        have y4 : IntKind.i64.wrap ((jj : Int) + 4) = (jj : Int) + 4 := by rw [IntKind.wrap_i64]; omega
        have b1' : (jj : Int) < (r.length : Int) := by omega
        have n1 : (0 : Int) ≤ (jj : Int) + 1 := by omega
        have n2 : (0 : Int) ≤ (jj : Int) + 2 := by omega
        have n3 : (0 : Int) ≤ (jj : Int) + 3 := by omega
        have n4 : (0 : Int) ≤ (jj : Int) + 4 := by omega
        have k1 : ((jj : Int) + 1).toNat = jj + 1 := by omega
        have k2 : ((jj : Int) + 2).toNat = jj + 2 := by omega
        have k3 : ((jj : Int) + 3).toNat = jj + 3 := by omega
        have k4 : ((jj : Int) + 4).toNat = jj + 4 := by omega
        go_wp2_with fail
        refine wp_region_noPanic ?_
        refine wp_region_held_drew (S := fun w' => w'.cell? ⟨b2, o2 + jj, none⟩ = some (.int .i64 x0) ∧ w'.cell? ⟨b2, o2 + (jj + 1), none⟩ = some (.int .i64 x1) ∧ w'.cell? ⟨b2, o2 + (jj + 2), none⟩ = some (.int .i64 x2) ∧ w'.cell? ⟨b2, o2 + (jj + 3), none⟩ = some (.int .i64 x3) ∧ w'.cell? ⟨b2, o2 + (jj + 4), none⟩ = some (.int .i64 x4)) (by kernel_rfl) (HS.out _ HXx.out.drew) (fun hHeld => ?_)
        refine wpAnyH_take (i := 0) (v := .pointer (some ⟨w3.heap.size, 3, none⟩)) rfl (by kernel_rfl) (by kernel_rfl) (by kernel_rfl) (fun _ _ _ h => h) (Or.inl ⟨by rfl, ?_⟩) hHeld ?_
        · intro w hSw; (try dsimp only at hSw); go_simp; (try (with_reducible rfl))
        refine wpAnyH_take (i := 2) (v := .slice (some ⟨b2, o2, none⟩) (r.length + 1) c2) rfl (by kernel_rfl) (by kernel_rfl) (by kernel_rfl) (fun _ _ _ h => h) (Or.inl ⟨by rfl, ?_⟩) hHeld ?_
        · intro w hSw; (try dsimp only at hSw); go_simp; (try (with_reducible rfl))
        refine wpAnyH_take (i := 3) (v := .int .i64 (jj : Int)) rfl (by kernel_rfl) (by kernel_rfl) (by kernel_rfl) (fun _ _ _ h => h) (Or.inl ⟨by rfl, ?_⟩) hHeld ?_
        · intro w hSw; (try dsimp only at hSw); go_simp; (try (with_reducible rfl))
        refine wpAnyH_take (i := 4) (v := .pointer (some ⟨b2, o2 + jj, none⟩)) rfl (by kernel_rfl) (by kernel_rfl) (by kernel_rfl) (fun _ _ _ h => h) (Or.inl ⟨by rfl, ?_⟩) hHeld ?_
        · intro w hSw; (try dsimp only at hSw); go_simp; (try (with_reducible rfl))
        refine wpAnyH_take (i := 5) (v := .int .i64 x0) rfl (by kernel_rfl) (by kernel_rfl) (by kernel_rfl) (fun _ _ _ h => h) (Or.inl ⟨by rfl, ?_⟩) hHeld ?_
        · intro w hSw; (try dsimp only at hSw); go_simp; (try (with_reducible rfl))
        refine wpAnyH_take (i := 6) (v := .slice (some ⟨b2, o2, none⟩) (r.length + 1) c2) rfl (by kernel_rfl) (by kernel_rfl) (by kernel_rfl) (fun _ _ _ h => h) (Or.inl ⟨by rfl, ?_⟩) hHeld ?_
        · intro w hSw; (try dsimp only at hSw); go_simp; (try (with_reducible rfl))
        refine wpAnyH_take (i := 7) (v := .int .i64 (jj : Int)) rfl (by kernel_rfl) (by kernel_rfl) (by kernel_rfl) (fun _ _ _ h => h) (Or.inl ⟨by rfl, ?_⟩) hHeld ?_
        · intro w hSw; (try dsimp only at hSw); go_simp; (try (with_reducible rfl))
        refine wpAnyH_take (i := 8) (v := .int .i64 ((jj : Int) + 1)) rfl (by kernel_rfl) (by kernel_rfl) (by kernel_rfl) (fun _ _ _ h => h) (Or.inl ⟨by rfl, ?_⟩) hHeld ?_
        · intro w hSw; (try dsimp only at hSw); go_simp; (try (with_reducible rfl))
        refine wpAnyH_take (i := 9) (v := .pointer (some ⟨b2, o2 + (jj + 1), none⟩)) rfl (by kernel_rfl) (by kernel_rfl) (by kernel_rfl) (fun _ _ _ h => h) (Or.inl ⟨by rfl, ?_⟩) hHeld ?_
        · intro w hSw; (try dsimp only at hSw); go_simp; (try (with_reducible rfl))
        refine wpAnyH_take (i := 10) (v := .int .i64 x1) rfl (by kernel_rfl) (by kernel_rfl) (by kernel_rfl) (fun _ _ _ h => h) (Or.inl ⟨by rfl, ?_⟩) hHeld ?_
        · intro w hSw; (try dsimp only at hSw); go_simp; (try (with_reducible rfl))
        refine wpAnyH_take (i := 11) (v := .slice (some ⟨b2, o2, none⟩) (r.length + 1) c2) rfl (by kernel_rfl) (by kernel_rfl) (by kernel_rfl) (fun _ _ _ h => h) (Or.inl ⟨by rfl, ?_⟩) hHeld ?_
        · intro w hSw; (try dsimp only at hSw); go_simp; (try (with_reducible rfl))
        refine wpAnyH_take (i := 12) (v := .int .i64 (jj : Int)) rfl (by kernel_rfl) (by kernel_rfl) (by kernel_rfl) (fun _ _ _ h => h) (Or.inl ⟨by rfl, ?_⟩) hHeld ?_
        · intro w hSw; (try dsimp only at hSw); go_simp; (try (with_reducible rfl))
        refine wpAnyH_take (i := 13) (v := .int .i64 ((jj : Int) + 2)) rfl (by kernel_rfl) (by kernel_rfl) (by kernel_rfl) (fun _ _ _ h => h) (Or.inl ⟨by rfl, ?_⟩) hHeld ?_
        · intro w hSw; (try dsimp only at hSw); go_simp; (try (with_reducible rfl))
        refine wpAnyH_take (i := 14) (v := .pointer (some ⟨b2, o2 + (jj + 2), none⟩)) rfl (by kernel_rfl) (by kernel_rfl) (by kernel_rfl) (fun _ _ _ h => h) (Or.inl ⟨by rfl, ?_⟩) hHeld ?_
        · intro w hSw; (try dsimp only at hSw); go_simp; (try (with_reducible rfl))
        refine wpAnyH_take (i := 15) (v := .int .i64 x2) rfl (by kernel_rfl) (by kernel_rfl) (by kernel_rfl) (fun _ _ _ h => h) (Or.inl ⟨by rfl, ?_⟩) hHeld ?_
        · intro w hSw; (try dsimp only at hSw); go_simp; (try (with_reducible rfl))
        refine wpAnyH_take (i := 16) (v := .slice (some ⟨b2, o2, none⟩) (r.length + 1) c2) rfl (by kernel_rfl) (by kernel_rfl) (by kernel_rfl) (fun _ _ _ h => h) (Or.inl ⟨by rfl, ?_⟩) hHeld ?_
        · intro w hSw; (try dsimp only at hSw); go_simp; (try (with_reducible rfl))
        refine wpAnyH_take (i := 17) (v := .int .i64 (jj : Int)) rfl (by kernel_rfl) (by kernel_rfl) (by kernel_rfl) (fun _ _ _ h => h) (Or.inl ⟨by rfl, ?_⟩) hHeld ?_
        · intro w hSw; (try dsimp only at hSw); go_simp; (try (with_reducible rfl))
        refine wpAnyH_take (i := 18) (v := .int .i64 ((jj : Int) + 3)) rfl (by kernel_rfl) (by kernel_rfl) (by kernel_rfl) (fun _ _ _ h => h) (Or.inl ⟨by rfl, ?_⟩) hHeld ?_
        · intro w hSw; (try dsimp only at hSw); go_simp; (try (with_reducible rfl))
        refine wpAnyH_take (i := 19) (v := .pointer (some ⟨b2, o2 + (jj + 3), none⟩)) rfl (by kernel_rfl) (by kernel_rfl) (by kernel_rfl) (fun _ _ _ h => h) (Or.inl ⟨by rfl, ?_⟩) hHeld ?_
        · intro w hSw; (try dsimp only at hSw); go_simp; (try (with_reducible rfl))
        refine wpAnyH_take (i := 20) (v := .int .i64 x3) rfl (by kernel_rfl) (by kernel_rfl) (by kernel_rfl) (fun _ _ _ h => h) (Or.inl ⟨by rfl, ?_⟩) hHeld ?_
        · intro w hSw; (try dsimp only at hSw); go_simp; (try (with_reducible rfl))
        refine wpAnyH_take (i := 21) (v := .slice (some ⟨b2, o2, none⟩) (r.length + 1) c2) rfl (by kernel_rfl) (by kernel_rfl) (by kernel_rfl) (fun _ _ _ h => h) (Or.inl ⟨by rfl, ?_⟩) hHeld ?_
        · intro w hSw; (try dsimp only at hSw); go_simp; (try (with_reducible rfl))
        refine wpAnyH_take (i := 22) (v := .int .i64 (jj : Int)) rfl (by kernel_rfl) (by kernel_rfl) (by kernel_rfl) (fun _ _ _ h => h) (Or.inl ⟨by rfl, ?_⟩) hHeld ?_
        · intro w hSw; (try dsimp only at hSw); go_simp; (try (with_reducible rfl))
        refine wpAnyH_take (i := 23) (v := .int .i64 ((jj : Int) + 4)) rfl (by kernel_rfl) (by kernel_rfl) (by kernel_rfl) (fun _ _ _ h => h) (Or.inl ⟨by rfl, ?_⟩) hHeld ?_
        · intro w hSw; (try dsimp only at hSw); go_simp; (try (with_reducible rfl))
        refine wpAnyH_take (i := 24) (v := .pointer (some ⟨b2, o2 + (jj + 4), none⟩)) rfl (by kernel_rfl) (by kernel_rfl) (by kernel_rfl) (fun _ _ _ h => h) (Or.inl ⟨by rfl, ?_⟩) hHeld ?_
        · intro w hSw; (try dsimp only at hSw); go_simp; (try (with_reducible rfl))
        refine wpAnyH_take (i := 25) (v := .int .i64 x4) rfl (by kernel_rfl) (by kernel_rfl) (by kernel_rfl) (fun _ _ _ h => h) (Or.inl ⟨by rfl, ?_⟩) hHeld ?_
        · intro w hSw; (try dsimp only at hSw); go_simp; (try (with_reducible rfl))
        refine wpAnyH_take (i := 26) (v := .agg #[.int .i64 x0, .int .i64 x1, .int .i64 x2, .int .i64 x3, .int .i64 x4]) rfl (by kernel_rfl) (by kernel_rfl) (by kernel_rfl) (fun _ _ _ h => h) (Or.inl ⟨by rfl, ?_⟩) hHeld ?_
        · intro w hSw; (try dsimp only at hSw); go_simp; (try (with_reducible rfl))
        refine wpAnyH_ready (rs := [1, 27]) (by kernel_rfl) (by simp) ?_
        refine AllReadyH.cons (i := 1) rfl (fun K hK => ?_) ?_
        · go_simp
          refine hK.out _ _ (HS.out _ HXx.out.drew) (fun hHeld => ?_)
          clear hK K
          refine wpAnyH_ready (rs := [27]) (by kernel_rfl) (by simp) ?_
          refine AllReadyH.cons (i := 27) rfl (fun K hK => ?_) AllReadyH.nil
          go_simp
          refine hK.out _ _ (HS.out _ (HXx.out.alloc hwsx _).drew) (fun hHeld => ?_)
          clear hK K
          refine wpAnyH_ready (rs := [28]) (by kernel_rfl) (by simp) ?_
          refine AllReadyH.cons (i := 28) rfl (fun K hK => ?_) AllReadyH.nil
          (refine step_append_lies _ (by rfl) (.tmp 91) (.tmp 117) _ (by rfl) (w3.heap.size + 1) 53 i0 _ 5 40 Try.underlying30 IZ.out.1 IZ.out.2.1 IZ.out.2.2.1 IZ.out.2.2.2 (by kernel_rfl) (by omega) v acc.length (fcs acc) (by rfl) ((World.ownsRow.alloc HOx.out _).drew) ⟨wr.heap.size, 0, none⟩ 1 1 (fc5 ⟨x0, x1, x2, x3, x4⟩) (by rfl) (by rfl) (World.news_of_block (cs := #[.int .i64 x0, .int .i64 x1, .int .i64 x2, .int .i64 x3, .int .i64 x4]) (t := 53) (fr := (0, 0)) (heap_alloc_new wr _)) (fun u hu => fcs_one [⟨x0, x1, x2, x3, x4⟩] u (by simpa [fcs] using hu)) (by omega) (by unfold maxLen; omega) (by omega) (by simp; omega) (wr.heap.size + 1) (by simp) ?_; intro g5 cc5 w5 hown5 hgrow hat5 hlt5; have H5 := Lib.hid (of_snoc hown5); have X5 := Lib.hid ((HXx.out.alloc hwsx _).drew.grown hgrow (by simp; omega) (fun r hr => (by have := (HOx.out.lt hr).1; omega))); have B5 := Lib.hid (show Blk w5 w3.heap.size 32 _ from (hgrow.block _ (by simp; omega) NE.out).trans (HBx.out.alloc _)); have z3 := B5.out.frozen 3; have d3 := B5.out.cell 3; simp at d3; have hg5 := (H5.out.lt (g := g5) rfl).1; clear hown5 hgrow hat5)
          refine hK.out _ _ (HS.out _ X5.out) (fun hHeld => ?_)
          clear hK K
          refine wpAnyH_ready (rs := [29]) (by kernel_rfl) (by simp) ?_
          refine AllReadyH.cons (i := 29) rfl (fun K hK => ?_) AllReadyH.nil
          go_simp
          refine hK.out _ _ (HS.out _ X5.out) (fun hHeld => ?_)
          clear hK K
          refine wpAnyH_ready (rs := [30]) (by kernel_rfl) (by simp) ?_
          refine AllReadyH.cons (i := 30) rfl (fun K hK => ?_) AllReadyH.nil
          go_simp
          refine hK.out _ _ (HS.out _ (X5.out.setCell (Nat.le_refl _) _)) (fun hHeld => ?_)
          clear hK K
          refine wpAnyH_done (by kernel_rfl) ?_ _
          refine NoPanic.normal ?_
          go_wp2_with fail
          go_roundw
          case rel =>
            refine ⟨m' + 1, jj + 5, _, by omega, hj5, by go_num, ?_, B5.out.put 3 _, ?_, X5.out.setCell (Nat.le_refl _) _⟩
            · show _ = _
              have := HJJ.out
              omega
            · show Of _ _ _ _
              rw [HFK.out]
              refine H5.out.keepB fun g hg => ?_
              injection hg with hg
              subst hg
              exact Below.heap_setCell _ _ _ _ (by simp only; omega)
          case measure => simp [intOf]; omega
        · refine AllReadyH.cons (i := 27) rfl (fun K hK => ?_) AllReadyH.nil
          go_simp
          refine hK.out _ _ (HS.out _ (HXx.out.alloc hwsx _).drew) (fun hHeld => ?_)
          clear hK K
          refine wpAnyH_ready (rs := [1]) (by kernel_rfl) (by simp) ?_
          refine AllReadyH.cons (i := 1) rfl (fun K hK => ?_) AllReadyH.nil
          go_simp
          refine hK.out _ _ (HS.out _ (HXx.out.alloc hwsx _).drew) (fun hHeld => ?_)
          clear hK K
          refine wpAnyH_ready (rs := [28]) (by kernel_rfl) (by simp) ?_
          refine AllReadyH.cons (i := 28) rfl (fun K hK => ?_) AllReadyH.nil
          (refine step_append_lies _ (by rfl) (.tmp 91) (.tmp 117) _ (by rfl) (w3.heap.size + 1) 53 i0 _ 5 40 Try.underlying30 IZ.out.1 IZ.out.2.1 IZ.out.2.2.1 IZ.out.2.2.2 (by kernel_rfl) (by omega) v acc.length (fcs acc) (by rfl) ((World.ownsRow.alloc HOx.out _).drew) ⟨wr.heap.size, 0, none⟩ 1 1 (fc5 ⟨x0, x1, x2, x3, x4⟩) (by rfl) (by rfl) (World.news_of_block (cs := #[.int .i64 x0, .int .i64 x1, .int .i64 x2, .int .i64 x3, .int .i64 x4]) (t := 53) (fr := (0, 0)) (heap_alloc_new wr _)) (fun u hu => fcs_one [⟨x0, x1, x2, x3, x4⟩] u (by simpa [fcs] using hu)) (by omega) (by unfold maxLen; omega) (by omega) (by simp; omega) (wr.heap.size + 1) (by simp) ?_; intro g5 cc5 w5 hown5 hgrow hat5 hlt5; have H5 := Lib.hid (of_snoc hown5); have X5 := Lib.hid ((HXx.out.alloc hwsx _).drew.grown hgrow (by simp; omega) (fun r hr => (by have := (HOx.out.lt hr).1; omega))); have B5 := Lib.hid (show Blk w5 w3.heap.size 32 _ from (hgrow.block _ (by simp; omega) NE.out).trans (HBx.out.alloc _)); have z3 := B5.out.frozen 3; have d3 := B5.out.cell 3; simp at d3; have hg5 := (H5.out.lt (g := g5) rfl).1; clear hown5 hgrow hat5)
          refine hK.out _ _ (HS.out _ X5.out) (fun hHeld => ?_)
          clear hK K
          refine wpAnyH_ready (rs := [29]) (by kernel_rfl) (by simp) ?_
          refine AllReadyH.cons (i := 29) rfl (fun K hK => ?_) AllReadyH.nil
          go_simp
          refine hK.out _ _ (HS.out _ X5.out) (fun hHeld => ?_)
          clear hK K
          refine wpAnyH_ready (rs := [30]) (by kernel_rfl) (by simp) ?_
          refine AllReadyH.cons (i := 30) rfl (fun K hK => ?_) AllReadyH.nil
          go_simp
          refine hK.out _ _ (HS.out _ (X5.out.setCell (Nat.le_refl _) _)) (fun hHeld => ?_)
          clear hK K
          refine wpAnyH_done (by kernel_rfl) ?_ _
          refine NoPanic.normal ?_
          go_wp2_with fail
          go_roundw
          case rel =>
            refine ⟨m' + 1, jj + 5, _, by omega, hj5, by go_num, ?_, B5.out.put 3 _, ?_, X5.out.setCell (Nat.le_refl _) _⟩
            · show _ = _
              have := HJJ.out
              omega
            · show Of _ _ _ _
              rw [HFK.out]
              refine H5.out.keepB fun g hg => ?_
              injection hg with hg
              subst hg
              exact Below.heap_setCell _ _ _ _ (by simp only; omega)
          case measure => simp [intOf]; omega
    · go_wp2_with (go_at_call 40; refine (rtakeText_any _ _ _ R (HRD.out.below HW.out (Nat.le_refl _))).mono ?_; rintro e w2 ⟨rfl, h2⟩; rw [HQX.out, HXW.out, HTN.out]; have X2 := Lib.hid (HW.out.trans (h2.mono hws)); have HT2 := Lib.hid (HT.out.below h2); have hs2 := X2.out.size; have hs20 := h2.size; clear h2)
      go_wp2_with (go_at_call 41; refine (rtakeInts_any _ _ _ R2 (HRD2.out.below X2.out (Nat.le_refl _))).mono ?_; rintro e w3 ⟨v3, rfl, o3, h3⟩; rw [HQI.out]; have X3 := Lib.hid (X2.out.trans (h3.mono hs2)); have HT3 := Lib.hid (HT2.out.below h3); have hs3 := h3.size; rw [HI.out]; rw [HLL.out] at o3; obtain ⟨A2, k2, c2, rfl, l2⟩ := o3.form HFT.out; have hk2 : r.length + 1 = k2 := (by rw [← l2.len, zs_len]; rfl); subst hk2; have hc2 := l2.le; have hm2 := l2.max; obtain ⟨b2, o2, y, rfl, hy, _, _, hb2, hcy⟩ := l2.intAt 0 (by simp); have hye := hy.out; simp [zs] at hye; subst hye; rw [Nat.add_zero] at hcy; have LI := Lib.hid l2; clear h3 o3 l2 hy)
      go_region_held3 (fun w' => w'.cell? ⟨b2, o2, none⟩ = some (.int .i64 3)) (first | go_keep) (first | fail)
      obtain ⟨w4, hw4⟩ : ∃ w4, w4 = (w3.alloc (Obj.cells #[.string tn, .bool true, .bool true, .slice none 0 0] 32)).drew := ⟨_, rfl⟩
      rw [← hw4]
      have B4 := Lib.hid (show Blk w4 w3.heap.size 32 #[.string tn, .bool true, .bool true, .slice none 0 0] by rw [hw4]; exact Blk.new w3 _ _)
      have X4 := Lib.hid (show Below w3.heap.size w3 w4 by rw [hw4]; exact ((Below.refl _ _).alloc (Nat.le_refl _) _).drew)
      clear hw4 hcy
      go_wp2_with fail
      go_loopw [17] (fun i wx => ∃ (m' jj : Nat) (v : Value), m' ≤ m ∧ jj ≤ r.length + 1 ∧ i = .int .i64 jj ∧ Hid (jj = 5 * m' + 1) ∧ Hid (Blk wx w3.heap.size 32 #[.string tn, .bool true, .bool true, v]) ∧ Hid (Of wx (w3.heap.size + 1) v (fos ((zs r).take (5 * m')))) ∧ Hid (Below w3.heap.size w3 wx)) (fun i _ => r.length + 1 - (intOf i).toNat)
      case atStart => exact ⟨0, 1, .slice none 0 0, Nat.zero_le _, by omega, rfl, rfl, B4.out, by show Of _ _ _ _; simpa [fos] using Of.nil _ _, X4.out⟩
      case round =>
        clear B4 X4
        obtain ⟨m', jj, v, hmm, hjl, rfl, HJJ, HBx, HOx, HXx⟩ := hrel
        have hwsx := HXx.out.size
        have htbx := HBx.out.lt
        by_cases hlm : m' < m
        case neg =>
          obtain rfl : m' = m := by omega
          have hjr : ¬ (jj : Int) < (r.length : Int) + 1 := by have h1 := HJJ.out; have h2 := HM5.out; omega
          have HTA := Lib.hid (show (zs r).take (5 * m') = zs r by rw [← HM5.out]; exact List.take_of_length_le (by rw [zs_len]; omega))
          rw [HTA.out] at HOx
          obtain ⟨FA, fk, fc, rfl, lf, far⟩ := HOx.out.form (fos_ok _ HFR.out)
          have LFX := Lib.hid (And.intro lf far)
          obtain ⟨c0, c1, c2', c3'⟩ := four HBx.out (Below.refl wr.heap.size wr) htbx
          have HTX := Lib.hid (HT3.out.below HXx.out)
          clear lf far
          go_wp2_with (at_builtin; refine wpList_tapp rfl _ _ rfl w.heap.size u8 l rfl HTX.out.row ⟨⟨tn, true, true, fos (zs r)⟩, FA, fk, fc⟩ _ rfl rfl HL3.out (by omega) ?_; intro g4 cc4 w4 hown4 hgrow hat4 hlt4; have HT4 := Lib.hid (HTX.out.app (q := ⟨⟨tn, true, true, fos (zs r)⟩, FA, fk, fc⟩) HNL.out LFX.out.1 (fun b' o' e => (by have h5 := LFX.out.2 b' o' e; refine ⟨h5.2, fun e2 => ?_⟩; have h6 := (HT3.out.row.lt e2).2; omega)) hown4 hgrow hat4); have X4 := Lib.hid ((X3.out.trans (HXx.out.mono (by omega))).grown hgrow (by omega) (fun r hr => (HTX.out.row.lt hr).1)); clear hown4 hgrow hat4 hlt4)
          go_roundw
          case rel =>
            refine ⟨j + 1, at' + P1 + I, l ++ [⟨⟨tn, true, true, fos (zs r)⟩, FA, fk, fc⟩], by omega, hIk, by go_num, by go_num, ?_, ?_, ?_, ?_, ?_, X4.out⟩
            · show _ = _
              rw [List.length_append, HLN.out]
              rfl
            · show _ = _
              rw [HM.out]
              exact HE2.out
            · show _ = _
              rw [HM.out, HV2.out]
              simp
            · show _ = _
              rw [HM.out, HW3.out]
              omega
            · show Tl _ _ _ _
              exact HT4.out
          case measure => simp [intOf]; omega
        have hj5 : jj + 5 ≤ r.length + 1 := by have h1 := HJJ.out; have h2 := HM5.out; omega
        obtain ⟨x0, hx0, _, _, c0⟩ := LI.out.at jj (by omega)
        obtain ⟨x1, hx1, _, _, c1⟩ := LI.out.at (jj + 1) (by omega)
        obtain ⟨x2, hx2, _, _, c2'⟩ := LI.out.at (jj + 2) (by omega)
        obtain ⟨x3, hx3, _, _, c3'⟩ := LI.out.at (jj + 3) (by omega)
        obtain ⟨x4, hx4, _, _, c4⟩ := LI.out.at (jj + 4) (by omega)
        have HSV := Lib.hid (And.intro c0 (And.intro c1 (And.intro c2' (And.intro c3' c4))))
        have HS := Lib.hid (show ∀ W, Below w3.heap.size w3 W → (W.cell? ⟨b2, o2 + jj, none⟩ = some (.int .i64 x0) ∧ W.cell? ⟨b2, o2 + (jj + 1), none⟩ = some (.int .i64 x1) ∧ W.cell? ⟨b2, o2 + (jj + 2), none⟩ = some (.int .i64 x2) ∧ W.cell? ⟨b2, o2 + (jj + 3), none⟩ = some (.int .i64 x3) ∧ W.cell? ⟨b2, o2 + (jj + 4), none⟩ = some (.int .i64 x4)) from fun W hW =>
          ⟨(hW.cell (p := ⟨b2, o2 + jj, none⟩) hb2).trans HSV.out.1, (hW.cell (p := ⟨b2, o2 + (jj + 1), none⟩) hb2).trans HSV.out.2.1, (hW.cell (p := ⟨b2, o2 + (jj + 2), none⟩) hb2).trans HSV.out.2.2.1, (hW.cell (p := ⟨b2, o2 + (jj + 3), none⟩) hb2).trans HSV.out.2.2.2.1, (hW.cell (p := ⟨b2, o2 + (jj + 4), none⟩) hb2).trans HSV.out.2.2.2.2⟩)
        have HFK := Lib.hid (show fos ((zs r).take (5 * (m' + 1))) = fos ((zs r).take (5 * m')) ++ [⟨x0, x1, x2, x3, x4⟩] by
          have e := HJJ.out
          have z : zs (3 :: r) = ((3 : Nat) : Int) :: zs r := rfl
          have g0 := hx0.out
          have g1 := hx1.out
          have g2 := hx2.out
          have g3 := hx3.out
          have g4 := hx4.out
          rw [z, e] at g0 g1 g2 g3 g4
          exact fos_take (by rw [zs_len, HM5.out]; omega) (by simpa using g0) (by simpa [Nat.add_right_comm] using g1) (by simpa [Nat.add_right_comm] using g2) (by simpa [Nat.add_right_comm] using g3) (by simpa [Nat.add_right_comm] using g4))
        have hal : (fos ((zs r).take (5 * m'))).length ≤ 1000 := by rw [fos_len m' _ (by rw [List.length_take, zs_len, HM5.out]; omega)]; have := HM5.out; omega
        obtain ⟨acc, hacc⟩ : ∃ acc, fos ((zs r).take (5 * m')) = acc := ⟨_, rfl⟩
        rw [hacc] at HOx HFK hal
        have NE := Lib.hid (show some w3.heap.size ≠ v.ownBlock from fun e1 => by have := (HOx.out.lt e1.symm).1; omega)
        clear c0 c1 c2' c3' c4 hx0 hx1 hx2 hx3 hx4 hacc
        obtain ⟨c0, c1, c2', c3', c4⟩ := HS.out _ HXx.out
        have t3 := HBx.out.cell 3
        simp at t3
        have b0 : (jj : Int) < (r.length : Int) + 1 := by omega
        have b1 : (jj : Int) + 1 < (r.length : Int) + 1 := by omega
        have b2' : (jj : Int) + 2 < (r.length : Int) + 1 := by omega
        have b3 : (jj : Int) + 3 < (r.length : Int) + 1 := by omega
        have b4 : (jj : Int) + 4 < (r.length : Int) + 1 := by omega
        have y1 : IntKind.i64.wrap ((jj : Int) + 1) = (jj : Int) + 1 := by rw [IntKind.wrap_i64]; omega
        have y2 : IntKind.i64.wrap ((jj : Int) + 2) = (jj : Int) + 2 := by rw [IntKind.wrap_i64]; omega
        have y3 : IntKind.i64.wrap ((jj : Int) + 3) = (jj : Int) + 3 := by rw [IntKind.wrap_i64]; omega
        have y4 : IntKind.i64.wrap ((jj : Int) + 4) = (jj : Int) + 4 := by rw [IntKind.wrap_i64]; omega
        have b1' : (jj : Int) < (r.length : Int) := by omega
        have n1 : (0 : Int) ≤ (jj : Int) + 1 := by omega
        have n2 : (0 : Int) ≤ (jj : Int) + 2 := by omega
        have n3 : (0 : Int) ≤ (jj : Int) + 3 := by omega
        have n4 : (0 : Int) ≤ (jj : Int) + 4 := by omega
        have k1 : ((jj : Int) + 1).toNat = jj + 1 := by omega
        have k2 : ((jj : Int) + 2).toNat = jj + 2 := by omega
        have k3 : ((jj : Int) + 3).toNat = jj + 3 := by omega
        have k4 : ((jj : Int) + 4).toNat = jj + 4 := by omega
        go_wp2_with fail
        refine wp_region_noPanic ?_
        refine wp_region_held_drew (S := fun w' => w'.cell? ⟨b2, o2 + jj, none⟩ = some (.int .i64 x0) ∧ w'.cell? ⟨b2, o2 + (jj + 1), none⟩ = some (.int .i64 x1) ∧ w'.cell? ⟨b2, o2 + (jj + 2), none⟩ = some (.int .i64 x2) ∧ w'.cell? ⟨b2, o2 + (jj + 3), none⟩ = some (.int .i64 x3) ∧ w'.cell? ⟨b2, o2 + (jj + 4), none⟩ = some (.int .i64 x4)) (by kernel_rfl) (HS.out _ HXx.out.drew) (fun hHeld => ?_)
        refine wpAnyH_take (i := 0) (v := .pointer (some ⟨w3.heap.size, 3, none⟩)) rfl (by kernel_rfl) (by kernel_rfl) (by kernel_rfl) (fun _ _ _ h => h) (Or.inl ⟨by rfl, ?_⟩) hHeld ?_
        · intro w hSw; (try dsimp only at hSw); go_simp; (try (with_reducible rfl))
        refine wpAnyH_take (i := 2) (v := .slice (some ⟨b2, o2, none⟩) (r.length + 1) c2) rfl (by kernel_rfl) (by kernel_rfl) (by kernel_rfl) (fun _ _ _ h => h) (Or.inl ⟨by rfl, ?_⟩) hHeld ?_
        · intro w hSw; (try dsimp only at hSw); go_simp; (try (with_reducible rfl))
        refine wpAnyH_take (i := 3) (v := .int .i64 (jj : Int)) rfl (by kernel_rfl) (by kernel_rfl) (by kernel_rfl) (fun _ _ _ h => h) (Or.inl ⟨by rfl, ?_⟩) hHeld ?_
        · intro w hSw; (try dsimp only at hSw); go_simp; (try (with_reducible rfl))
        refine wpAnyH_take (i := 4) (v := .pointer (some ⟨b2, o2 + jj, none⟩)) rfl (by kernel_rfl) (by kernel_rfl) (by kernel_rfl) (fun _ _ _ h => h) (Or.inl ⟨by rfl, ?_⟩) hHeld ?_
        · intro w hSw; (try dsimp only at hSw); go_simp; (try (with_reducible rfl))
        refine wpAnyH_take (i := 5) (v := .int .i64 x0) rfl (by kernel_rfl) (by kernel_rfl) (by kernel_rfl) (fun _ _ _ h => h) (Or.inl ⟨by rfl, ?_⟩) hHeld ?_
        · intro w hSw; (try dsimp only at hSw); go_simp; (try (with_reducible rfl))
        refine wpAnyH_take (i := 6) (v := .slice (some ⟨b2, o2, none⟩) (r.length + 1) c2) rfl (by kernel_rfl) (by kernel_rfl) (by kernel_rfl) (fun _ _ _ h => h) (Or.inl ⟨by rfl, ?_⟩) hHeld ?_
        · intro w hSw; (try dsimp only at hSw); go_simp; (try (with_reducible rfl))
        refine wpAnyH_take (i := 7) (v := .int .i64 (jj : Int)) rfl (by kernel_rfl) (by kernel_rfl) (by kernel_rfl) (fun _ _ _ h => h) (Or.inl ⟨by rfl, ?_⟩) hHeld ?_
        · intro w hSw; (try dsimp only at hSw); go_simp; (try (with_reducible rfl))
        refine wpAnyH_take (i := 8) (v := .int .i64 ((jj : Int) + 1)) rfl (by kernel_rfl) (by kernel_rfl) (by kernel_rfl) (fun _ _ _ h => h) (Or.inl ⟨by rfl, ?_⟩) hHeld ?_
        · intro w hSw; (try dsimp only at hSw); go_simp; (try (with_reducible rfl))
        refine wpAnyH_take (i := 9) (v := .pointer (some ⟨b2, o2 + (jj + 1), none⟩)) rfl (by kernel_rfl) (by kernel_rfl) (by kernel_rfl) (fun _ _ _ h => h) (Or.inl ⟨by rfl, ?_⟩) hHeld ?_
        · intro w hSw; (try dsimp only at hSw); go_simp; (try (with_reducible rfl))
        refine wpAnyH_take (i := 10) (v := .int .i64 x1) rfl (by kernel_rfl) (by kernel_rfl) (by kernel_rfl) (fun _ _ _ h => h) (Or.inl ⟨by rfl, ?_⟩) hHeld ?_
        · intro w hSw; (try dsimp only at hSw); go_simp; (try (with_reducible rfl))
        refine wpAnyH_take (i := 11) (v := .slice (some ⟨b2, o2, none⟩) (r.length + 1) c2) rfl (by kernel_rfl) (by kernel_rfl) (by kernel_rfl) (fun _ _ _ h => h) (Or.inl ⟨by rfl, ?_⟩) hHeld ?_
        · intro w hSw; (try dsimp only at hSw); go_simp; (try (with_reducible rfl))
        refine wpAnyH_take (i := 12) (v := .int .i64 (jj : Int)) rfl (by kernel_rfl) (by kernel_rfl) (by kernel_rfl) (fun _ _ _ h => h) (Or.inl ⟨by rfl, ?_⟩) hHeld ?_
        · intro w hSw; (try dsimp only at hSw); go_simp; (try (with_reducible rfl))
        refine wpAnyH_take (i := 13) (v := .int .i64 ((jj : Int) + 2)) rfl (by kernel_rfl) (by kernel_rfl) (by kernel_rfl) (fun _ _ _ h => h) (Or.inl ⟨by rfl, ?_⟩) hHeld ?_
        · intro w hSw; (try dsimp only at hSw); go_simp; (try (with_reducible rfl))
        refine wpAnyH_take (i := 14) (v := .pointer (some ⟨b2, o2 + (jj + 2), none⟩)) rfl (by kernel_rfl) (by kernel_rfl) (by kernel_rfl) (fun _ _ _ h => h) (Or.inl ⟨by rfl, ?_⟩) hHeld ?_
        · intro w hSw; (try dsimp only at hSw); go_simp; (try (with_reducible rfl))
        refine wpAnyH_take (i := 15) (v := .int .i64 x2) rfl (by kernel_rfl) (by kernel_rfl) (by kernel_rfl) (fun _ _ _ h => h) (Or.inl ⟨by rfl, ?_⟩) hHeld ?_
        · intro w hSw; (try dsimp only at hSw); go_simp; (try (with_reducible rfl))
        refine wpAnyH_take (i := 16) (v := .slice (some ⟨b2, o2, none⟩) (r.length + 1) c2) rfl (by kernel_rfl) (by kernel_rfl) (by kernel_rfl) (fun _ _ _ h => h) (Or.inl ⟨by rfl, ?_⟩) hHeld ?_
        · intro w hSw; (try dsimp only at hSw); go_simp; (try (with_reducible rfl))
        refine wpAnyH_take (i := 17) (v := .int .i64 (jj : Int)) rfl (by kernel_rfl) (by kernel_rfl) (by kernel_rfl) (fun _ _ _ h => h) (Or.inl ⟨by rfl, ?_⟩) hHeld ?_
        · intro w hSw; (try dsimp only at hSw); go_simp; (try (with_reducible rfl))
        refine wpAnyH_take (i := 18) (v := .int .i64 ((jj : Int) + 3)) rfl (by kernel_rfl) (by kernel_rfl) (by kernel_rfl) (fun _ _ _ h => h) (Or.inl ⟨by rfl, ?_⟩) hHeld ?_
        · intro w hSw; (try dsimp only at hSw); go_simp; (try (with_reducible rfl))
        refine wpAnyH_take (i := 19) (v := .pointer (some ⟨b2, o2 + (jj + 3), none⟩)) rfl (by kernel_rfl) (by kernel_rfl) (by kernel_rfl) (fun _ _ _ h => h) (Or.inl ⟨by rfl, ?_⟩) hHeld ?_
        · intro w hSw; (try dsimp only at hSw); go_simp; (try (with_reducible rfl))
        refine wpAnyH_take (i := 20) (v := .int .i64 x3) rfl (by kernel_rfl) (by kernel_rfl) (by kernel_rfl) (fun _ _ _ h => h) (Or.inl ⟨by rfl, ?_⟩) hHeld ?_
        · intro w hSw; (try dsimp only at hSw); go_simp; (try (with_reducible rfl))
        refine wpAnyH_take (i := 21) (v := .slice (some ⟨b2, o2, none⟩) (r.length + 1) c2) rfl (by kernel_rfl) (by kernel_rfl) (by kernel_rfl) (fun _ _ _ h => h) (Or.inl ⟨by rfl, ?_⟩) hHeld ?_
        · intro w hSw; (try dsimp only at hSw); go_simp; (try (with_reducible rfl))
        refine wpAnyH_take (i := 22) (v := .int .i64 (jj : Int)) rfl (by kernel_rfl) (by kernel_rfl) (by kernel_rfl) (fun _ _ _ h => h) (Or.inl ⟨by rfl, ?_⟩) hHeld ?_
        · intro w hSw; (try dsimp only at hSw); go_simp; (try (with_reducible rfl))
        refine wpAnyH_take (i := 23) (v := .int .i64 ((jj : Int) + 4)) rfl (by kernel_rfl) (by kernel_rfl) (by kernel_rfl) (fun _ _ _ h => h) (Or.inl ⟨by rfl, ?_⟩) hHeld ?_
        · intro w hSw; (try dsimp only at hSw); go_simp; (try (with_reducible rfl))
        refine wpAnyH_take (i := 24) (v := .pointer (some ⟨b2, o2 + (jj + 4), none⟩)) rfl (by kernel_rfl) (by kernel_rfl) (by kernel_rfl) (fun _ _ _ h => h) (Or.inl ⟨by rfl, ?_⟩) hHeld ?_
        · intro w hSw; (try dsimp only at hSw); go_simp; (try (with_reducible rfl))
        refine wpAnyH_take (i := 25) (v := .int .i64 x4) rfl (by kernel_rfl) (by kernel_rfl) (by kernel_rfl) (fun _ _ _ h => h) (Or.inl ⟨by rfl, ?_⟩) hHeld ?_
        · intro w hSw; (try dsimp only at hSw); go_simp; (try (with_reducible rfl))
        refine wpAnyH_take (i := 26) (v := .agg #[.int .i64 x0, .int .i64 x1, .int .i64 x2, .int .i64 x3, .int .i64 x4]) rfl (by kernel_rfl) (by kernel_rfl) (by kernel_rfl) (fun _ _ _ h => h) (Or.inl ⟨by rfl, ?_⟩) hHeld ?_
        · intro w hSw; (try dsimp only at hSw); go_simp; (try (with_reducible rfl))
        refine wpAnyH_ready (rs := [1, 27]) (by kernel_rfl) (by simp) ?_
        refine AllReadyH.cons (i := 1) rfl (fun K hK => ?_) ?_
        · go_simp
          refine hK.out _ _ (HS.out _ HXx.out.drew) (fun hHeld => ?_)
          clear hK K
          refine wpAnyH_ready (rs := [27]) (by kernel_rfl) (by simp) ?_
          refine AllReadyH.cons (i := 27) rfl (fun K hK => ?_) AllReadyH.nil
          go_simp
          refine hK.out _ _ (HS.out _ (HXx.out.alloc hwsx _).drew) (fun hHeld => ?_)
          clear hK K
          refine wpAnyH_ready (rs := [28]) (by kernel_rfl) (by simp) ?_
          refine AllReadyH.cons (i := 28) rfl (fun K hK => ?_) AllReadyH.nil
          (refine step_append_lies _ (by rfl) (.tmp 91) (.tmp 117) _ (by rfl) (w3.heap.size + 1) 53 i0 _ 5 40 Try.underlying30 IZ.out.1 IZ.out.2.1 IZ.out.2.2.1 IZ.out.2.2.2 (by kernel_rfl) (by omega) v acc.length (fcs acc) (by rfl) ((World.ownsRow.alloc HOx.out _).drew) ⟨wr.heap.size, 0, none⟩ 1 1 (fc5 ⟨x0, x1, x2, x3, x4⟩) (by rfl) (by rfl) (World.news_of_block (cs := #[.int .i64 x0, .int .i64 x1, .int .i64 x2, .int .i64 x3, .int .i64 x4]) (t := 53) (fr := (0, 0)) (heap_alloc_new wr _)) (fun u hu => fcs_one [⟨x0, x1, x2, x3, x4⟩] u (by simpa [fcs] using hu)) (by omega) (by unfold maxLen; omega) (by omega) (by simp; omega) (wr.heap.size + 1) (by simp) ?_; intro g5 cc5 w5 hown5 hgrow hat5 hlt5; have H5 := Lib.hid (of_snoc hown5); have X5 := Lib.hid ((HXx.out.alloc hwsx _).drew.grown hgrow (by simp; omega) (fun r hr => (by have := (HOx.out.lt hr).1; omega))); have B5 := Lib.hid (show Blk w5 w3.heap.size 32 _ from (hgrow.block _ (by simp; omega) NE.out).trans (HBx.out.alloc _)); have z3 := B5.out.frozen 3; have d3 := B5.out.cell 3; simp at d3; have hg5 := (H5.out.lt (g := g5) rfl).1; clear hown5 hgrow hat5)
          refine hK.out _ _ (HS.out _ X5.out) (fun hHeld => ?_)
          clear hK K
          refine wpAnyH_ready (rs := [29]) (by kernel_rfl) (by simp) ?_
          refine AllReadyH.cons (i := 29) rfl (fun K hK => ?_) AllReadyH.nil
          go_simp
          refine hK.out _ _ (HS.out _ X5.out) (fun hHeld => ?_)
          clear hK K
          refine wpAnyH_ready (rs := [30]) (by kernel_rfl) (by simp) ?_
          refine AllReadyH.cons (i := 30) rfl (fun K hK => ?_) AllReadyH.nil
          go_simp
          refine hK.out _ _ (HS.out _ (X5.out.setCell (Nat.le_refl _) _)) (fun hHeld => ?_)
          clear hK K
          refine wpAnyH_done (by kernel_rfl) ?_ _
          refine NoPanic.normal ?_
          go_wp2_with fail
          go_roundw
          case rel =>
            refine ⟨m' + 1, jj + 5, _, by omega, hj5, by go_num, ?_, B5.out.put 3 _, ?_, X5.out.setCell (Nat.le_refl _) _⟩
            · show _ = _
              have := HJJ.out
              omega
            · show Of _ _ _ _
              rw [HFK.out]
              refine H5.out.keepB fun g hg => ?_
              injection hg with hg
              subst hg
              exact Below.heap_setCell _ _ _ _ (by simp only; omega)
          case measure => simp [intOf]; omega
        · refine AllReadyH.cons (i := 27) rfl (fun K hK => ?_) AllReadyH.nil
          go_simp
          refine hK.out _ _ (HS.out _ (HXx.out.alloc hwsx _).drew) (fun hHeld => ?_)
          clear hK K
          refine wpAnyH_ready (rs := [1]) (by kernel_rfl) (by simp) ?_
          refine AllReadyH.cons (i := 1) rfl (fun K hK => ?_) AllReadyH.nil
          go_simp
          refine hK.out _ _ (HS.out _ (HXx.out.alloc hwsx _).drew) (fun hHeld => ?_)
          clear hK K
          refine wpAnyH_ready (rs := [28]) (by kernel_rfl) (by simp) ?_
          refine AllReadyH.cons (i := 28) rfl (fun K hK => ?_) AllReadyH.nil
          (refine step_append_lies _ (by rfl) (.tmp 91) (.tmp 117) _ (by rfl) (w3.heap.size + 1) 53 i0 _ 5 40 Try.underlying30 IZ.out.1 IZ.out.2.1 IZ.out.2.2.1 IZ.out.2.2.2 (by kernel_rfl) (by omega) v acc.length (fcs acc) (by rfl) ((World.ownsRow.alloc HOx.out _).drew) ⟨wr.heap.size, 0, none⟩ 1 1 (fc5 ⟨x0, x1, x2, x3, x4⟩) (by rfl) (by rfl) (World.news_of_block (cs := #[.int .i64 x0, .int .i64 x1, .int .i64 x2, .int .i64 x3, .int .i64 x4]) (t := 53) (fr := (0, 0)) (heap_alloc_new wr _)) (fun u hu => fcs_one [⟨x0, x1, x2, x3, x4⟩] u (by simpa [fcs] using hu)) (by omega) (by unfold maxLen; omega) (by omega) (by simp; omega) (wr.heap.size + 1) (by simp) ?_; intro g5 cc5 w5 hown5 hgrow hat5 hlt5; have H5 := Lib.hid (of_snoc hown5); have X5 := Lib.hid ((HXx.out.alloc hwsx _).drew.grown hgrow (by simp; omega) (fun r hr => (by have := (HOx.out.lt hr).1; omega))); have B5 := Lib.hid (show Blk w5 w3.heap.size 32 _ from (hgrow.block _ (by simp; omega) NE.out).trans (HBx.out.alloc _)); have z3 := B5.out.frozen 3; have d3 := B5.out.cell 3; simp at d3; have hg5 := (H5.out.lt (g := g5) rfl).1; clear hown5 hgrow hat5)
          refine hK.out _ _ (HS.out _ X5.out) (fun hHeld => ?_)
          clear hK K
          refine wpAnyH_ready (rs := [29]) (by kernel_rfl) (by simp) ?_
          refine AllReadyH.cons (i := 29) rfl (fun K hK => ?_) AllReadyH.nil
          go_simp
          refine hK.out _ _ (HS.out _ X5.out) (fun hHeld => ?_)
          clear hK K
          refine wpAnyH_ready (rs := [30]) (by kernel_rfl) (by simp) ?_
          refine AllReadyH.cons (i := 30) rfl (fun K hK => ?_) AllReadyH.nil
          go_simp
          refine hK.out _ _ (HS.out _ (X5.out.setCell (Nat.le_refl _) _)) (fun hHeld => ?_)
          clear hK K
          refine wpAnyH_done (by kernel_rfl) ?_ _
          refine NoPanic.normal ?_
          go_wp2_with fail
          go_roundw
          case rel =>
            refine ⟨m' + 1, jj + 5, _, by omega, hj5, by go_num, ?_, B5.out.put 3 _, ?_, X5.out.setCell (Nat.le_refl _) _⟩
            · show _ = _
              have := HJJ.out
              omega
            · show Of _ _ _ _
              rw [HFK.out]
              refine H5.out.keepB fun g hg => ?_
              injection hg with hg
              subst hg
              exact Below.heap_setCell _ _ _ _ (by simp only; omega)
          case measure => simp [intOf]; omega
end
end Go.Proofs.Ytnkjlocjfljjlaa
