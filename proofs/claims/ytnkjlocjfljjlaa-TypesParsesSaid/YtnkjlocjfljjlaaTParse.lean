/- The contract of Parse. Condition: the bytes can be read. -/
import Derived.Test.YtnkjlocjfljjlaaTTakeOk
namespace Go.Proofs.Ytnkjlocjfljjlaa
open Go.RowKit
set_option maxRecDepth 100000
set_option maxHeartbeats 4000000
/-- A row of types that the call made, each with fields that can be read, none of them in the row's own block. -/
structure Tl (w : World) (B : Nat) (v : Value) (l : List Tq) : Prop where
  row : Ot w B v l
  each : ∀ q ∈ l, q.t.name.size ≤ 9223372036854775807 ∧ Lf w q.A q.k q.c q.t.fields ∧ ∀ b o, q.A = some ⟨b, o, none⟩ → b < w.heap.size ∧ v.ownBlock ≠ some b
section
variable {w w' : World} {B : Nat} {v : Value} {l : List Tq}
theorem Tl.below (h : Tl w B v l) (hb : Below w.heap.size w w') : Tl w' B v l :=
  ⟨h.row.keep hb (Nat.le_refl _), fun q hq => ⟨(h.each q hq).1, (h.each q hq).2.1.below hb (Nat.le_refl _), fun b o e => ⟨Nat.lt_of_lt_of_le ((h.each q hq).2.2 b o e).1 hb.size, ((h.each q hq).2.2 b o e).2⟩⟩⟩
theorem Tl.nil (w : World) (B : Nat) : Tl w B (.slice none 0 0) [] := ⟨Ot.nil _ _, fun q hq => by cases hq⟩
theorem Tl.start (h : Ot w B v []) : Tl w B v [] := ⟨h, fun q hq => by cases hq⟩
theorem Tl.form (h : Tl w B v l) : ∃ A k c, v = .slice A k c ∧ Lt w A k c (l.map (·.t)) := h.row.form fun q hq => ⟨(h.each q hq).1, (h.each q hq).2.1⟩
theorem Tl.app {g n c : Nat} {q : Tq} (h : Tl w B v l) (hq : q.t.name.size ≤ 9223372036854775807) (hf : Lf w q.A q.k q.c q.t.fields) (hb : ∀ b o, q.A = some ⟨b, o, none⟩ → b < w.heap.size ∧ v.ownBlock ≠ some b)
    (hr : Ot w' B (.slice (some ⟨g, 0, none⟩) n c) (l ++ [q])) (hg : w.grownBy w' v.ownBlock) (ha : v.ownBlock = some g ∨ w.heap.size < g) : Tl w' B (.slice (some ⟨g, 0, none⟩) n c) (l ++ [q]) := by
  have one : ∀ p : Tq, p.t.name.size ≤ 9223372036854775807 → Lf w p.A p.k p.c p.t.fields → (∀ b o, p.A = some ⟨b, o, none⟩ → b < w.heap.size ∧ v.ownBlock ≠ some b) →
      p.t.name.size ≤ 9223372036854775807 ∧ Lf w' p.A p.k p.c p.t.fields ∧ ∀ b o, p.A = some ⟨b, o, none⟩ → b < w'.heap.size ∧ Value.ownBlock (.slice (some ⟨g, 0, none⟩) n c) ≠ some b := by
    intro p p1 p2 p3
    refine ⟨p1, p2.grown hg fun b o e => (p3 b o e).2, fun b o e => ⟨Nat.lt_of_lt_of_le (p3 b o e).1 hg.size, fun e2 => ?_⟩⟩
    have e3 : g = b := by simpa [Value.ownBlock] using e2
    subst e3
    rcases ha with h1 | h1
    · exact (p3 g o e).2 h1
    · have := (p3 g o e).1
      omega
  refine ⟨hr, fun p hp => ?_⟩
  rcases List.mem_append.1 hp with h1 | h1
  · exact one p (h.each p h1).1 (h.each p h1).2.1 (h.each p h1).2.2
  · obtain rfl := List.mem_singleton.1 h1
    exact one p hq hf hb
end
theorem name_len (bs : List Nat) (hB : Byt bs) : (ttV bs).name.size ≤ 9223372036854775807 := by
  have h := xV_len hB
  show (sb (xV bs)).size ≤ _
  rw [sb_size]
  omega
theorem drop_drop' (bs : List Nat) (i j : Nat) : (bs.drop i).drop j = bs.drop (i + j) := by rw [List.drop_drop]
section
variable {w : World}
theorem parse_any (A : Option Addr) (k cap : Nat) (bs : List Nat) (h : Rd w A k cap bs) :
    Calls Try.prog 19 #[.slice A k cap] w fun e w' => ∃ A' k' c', e = .returned (.tuple #[.slice A' k' c', .int .i64 (paW bs : Nat), .int .i64 (paE bs : Nat)]) ∧ Lt w' A' k' c' (paV bs) ∧ Below w.heap.size w w' := by
  have hle := h.le
  have hmx := h.max
  have HL := Lib.hid h.len
  have HB := Lib.hid h.byt
  have H := Lib.hid h
  clear h
  have LN := fun w' : World => (⟨fun i t hi => by simp at hi, rfl, Nat.le_refl _, by omega⟩ : Lt w' none 0 0 [])
  have LNH := Lib.hid LN
  clear LN
  obtain ⟨q, hq⟩ : ∃ q, tE bs = q := ⟨_, rfl⟩
  have HQ := Lib.hid hq
  by_cases hq0 : q = 0
  case neg =>
    have hp := pa_head (bs := bs) (by rw [hq]; exact hq0)
    rw [hq] at hp
    have HP := Lib.hid hp
    have HN := Lib.hid (pa_no hp hq0)
    have hqn : ((q : Int) != 0) = true := by simpa using hq0
    clear hq hp
    go_enter Try.func19, Try.ntmps19
    go_wp2_with (go_at_call 37; refine (take_any _ _ _ bs H.out).mono ?_; rintro e w1 ⟨rfl, rfl⟩; rw [HQ.out])
    go_ret3
    rw [HP.out, HN.out.1, HN.out.2]
    exact ⟨_, _, _, rfl, LNH.out _, Below.refl _ _⟩
  subst hq0
  have ht := (tk_cases bs HB.out).resolve_right fun e => by omega
  obtain ⟨N, hN⟩ : ∃ N, tN bs = N := ⟨_, rfl⟩
  obtain ⟨P, hP⟩ : ∃ P, tW bs = P := ⟨_, rfl⟩
  have HNN := Lib.hid hN
  have HPP := Lib.hid hP
  have hPk : P ≤ k := by rw [← hP, ← HL.out]; exact ht.2.2.2.1
  have hP0 : 0 < P := by rw [← hP]; exact ht.2.2.1
  have hN64 : N < 18446744073709551616 := by rw [← hN]; exact ht.2.2.2.2.1
  clear ht
  by_cases hbig : 32 < N
  · have hp := pa_many hq (by rw [hN]; exact hbig)
    have HP := Lib.hid hp
    have HN := Lib.hid (pa_no hp (by decide))
    clear hq hp hN hP
    have hb2 : (32 : Int) < (N : Int) := by omega
    go_enter Try.func19, Try.ntmps19
    go_wp2_with (go_at_call 37; refine (take_any _ _ _ bs H.out).mono ?_; rintro e w1 ⟨rfl, rfl⟩; rw [HQ.out, HNN.out, HPP.out])
    go_ret3
    rw [HP.out, HN.out.1, HN.out.2]
    exact ⟨_, _, _, rfl, LNH.out _, Below.refl _ _⟩
  have hb2 : ¬ (32 : Int) < (N : Int) := by omega
  obtain ⟨R0, hR0⟩ : ∃ R0, paR bs = R0 := ⟨_, rfl⟩
  have HR0 := Lib.hid (show R0 = bs.drop P by rw [← hR0]; unfold paR; rw [hP])
  have HBAD := Lib.hid (show ∀ x, psE N R0 = x → x ≠ 0 → paE bs = x from fun x hx hx0 => by
    have := pa_bad hq (by rw [hN]; exact hbig) (by rw [hN, hR0, hx]; exact hx0)
    rw [this, hN, hR0, hx])
  have HCK := Lib.hid (show psE N R0 = 0 → paE bs = ckE (psV N R0) from fun hx => by
    have := pa_ck hq (by rw [hN]; exact hbig) (by rw [hN, hR0, hx])
    rw [this, hN, hR0])
  have HOK := Lib.hid (show paE bs = 0 → paV bs = psV N R0 ∧ paW bs = P + psW N R0 from fun hx => by
    have := pa_ok hx
    rw [hN, hR0, hP] at this
    exact this)
  obtain ⟨b, o, rfl, hbl, _⟩ := H.out.base (by omega)
  obtain ⟨i0, hi, hz0, hz1, hz2⟩ := info_parts infoT4
  have IZ := Lib.hid (And.intro hi (And.intro hz0 (And.intro hz1 hz2)))
  clear hi hz0 hz1 hz2 hq hN hP hR0
  go_enter Try.func19, Try.ntmps19
  go_wp2_with (first
    | (go_at_call 37; refine (take_any _ _ _ bs H.out).mono ?_; rintro e w1 ⟨rfl, rfl⟩; rw [HQ.out, HNN.out, HPP.out])
    | (at_make; refine wpList_make_own _ rfl _ _ 22 rfl w.heap.size 32 i0 _ 4 Try.underlying22 IZ.out.1 IZ.out.2.1 IZ.out.2.2.1 .i64 .u64 _ N rfl rfl rfl (by rw [IZ.out.2.2.2]; omega) (by unfold maxLen; omega) (Nat.le_refl _) ?_; intro w1 h1 h2; have H1 := Lib.hid (show Ot w1 w.heap.size _ [] from h1); have H2 := Lib.hid ((Below.refl w.heap.size w).grown h2 (Nat.le_refl _) (by intro k hk; cases hk)); clear h1 h2))
  go_loopw [6, 8, 28] (fun a u i wr => ∃ (j at' : Nat) (l : List Tq), j ≤ N ∧ at' ≤ k ∧ i = .int .u64 j ∧ a = .int .i64 at' ∧ Hid (l.length = j) ∧ Hid (psE N R0 = psE (N - j) (bs.drop at')) ∧ Hid (psV N R0 = l.map (·.t) ++ psV (N - j) (bs.drop at')) ∧ Hid (P + psW N R0 = at' + psW (N - j) (bs.drop at')) ∧ Hid (Tl wr w.heap.size u l) ∧ Hid (Below w.heap.size w wr)) (fun _ _ i _ => N - (intOf i).toNat)
  case atStart => exact ⟨0, P, [], Nat.zero_le _, hPk, rfl, rfl, rfl, by show _ = _; rw [HR0.out]; rfl, by show _ = _; rw [HR0.out]; rfl, by show _ = _; rw [HR0.out]; rfl, Tl.start H1.out, H2.out⟩
  case round =>
    clear H1 H2
    obtain ⟨j, at', l, hj, hat, rfl, rfl, HLN, HE, HV, HW2, HT, HW⟩ := hrel
    have hws := HW.out.size
    by_cases hlt : j < N
    · have hji : (j : Int) < (N : Int) := by omega
      obtain ⟨R, hR⟩ : ∃ R, bs.drop at' = R := ⟨_, rfl⟩
      obtain ⟨M, hM⟩ : ∃ M, N - j = M + 1 := ⟨N - j - 1, by omega⟩
      have HM := Lib.hid (show N - (j + 1) = M by omega)
      have HRB := Lib.hid (show Byt R by rw [← hR]; exact byt_drop HB.out _)
      have hRl : R.length = k - at' := by rw [← hR, List.length_drop, HL.out]
      have HR := Lib.hid hR
      rw [hM, hR] at HE HV HW2
      clear hM hR
      have hai : (at' : Int) ≤ (k : Int) := by omega
      obtain ⟨q, hq⟩ : ∃ q, ttE R = q := ⟨_, rfl⟩
      have HQT := Lib.hid hq
      by_cases hcp : cap = at'
      · have hR0' : R = [] := List.eq_nil_of_length_eq_zero (by omega)
        have HRN := Lib.hid hR0'
        have h2 : q = 2 := by rw [← hq, hR0', ttE_nil]
        subst h2
        have HP := Lib.hid (HBAD.out 2 (by rw [HE.out]; show (if ttE R ≠ 0 then ttE R else _) = 2; rw [hq]; rfl) (by decide))
        have HN := Lib.hid (pa_no HP.out (by decide))
        have hkz : k = at' := by omega
        subst hkz
        subst hcp
        clear hq hR0'
        go_wp2_with (go_at_call 38; refine (takeType_bad _ _ _ R (by rw [HRN.out]; exact Rd.empty (by omega) (by intro hh; first | omega | cases hh)) (by rw [HQT.out]; decide)).mono ?_; rintro e w2 ⟨rfl, h2⟩; rw [HQT.out]; have X2 := Lib.hid (HW.out.trans (h2.mono hws)); have hs2 := X2.out.size; clear h2)
        go_ret3
        rw [HP.out, HN.out.1, HN.out.2]
        exact ⟨_, _, _, rfl, LNH.out _, X2.out.alloc hs2 _⟩
      · have hcp2 : ¬ (cap : Int) = (at' : Int) := by omega
        have HRD := Lib.hid (show Rd w (some ⟨b, o + at', none⟩) (k - at') (cap - at') R by rw [← HR.out]; exact H.out.from at' hat)
        by_cases hq0 : q = 0
        · subst hq0
          have hw0 := tt_le HRB.out hq
          obtain ⟨Wt, hWt⟩ : ∃ Wt, ttW R = Wt := ⟨_, rfl⟩
          rw [hWt] at hw0
          have hW1 : at' + Wt ≤ k := by omega
          have HWT := Lib.hid hWt
          have HDD := Lib.hid (show R.drop Wt = bs.drop (at' + Wt) by rw [← HR.out, drop_drop'])
          have HE2 := Lib.hid (show psE N R0 = psE M (bs.drop (at' + Wt)) by rw [HE.out, ← HDD.out, ← hWt]; show (if ttE R ≠ 0 then ttE R else _) = _; rw [hq]; rfl)
          have HV2 := Lib.hid (show psV N R0 = l.map (·.t) ++ (ttV R :: psV M (bs.drop (at' + Wt))) by rw [HV.out, ← HDD.out, ← hWt]; rfl)
          have HW3 := Lib.hid (show P + psW N R0 = at' + (Wt + psW M (bs.drop (at' + Wt))) by rw [HW2.out, ← HDD.out, ← hWt]; rfl)
          have HNL := Lib.hid (name_len R HRB.out)
          have hl3 : l.length ≤ 100000 := by rw [HLN.out]; omega
          have HL3 := Lib.hid hl3
          clear hq hw0 hWt hl3
          obtain ⟨T, hT⟩ : ∃ T, ttV R = T := ⟨_, rfl⟩
          have HTT := Lib.hid hT
          rw [hT] at HV2 HNL
          clear hT
          obtain ⟨tn, tv, tr, fs⟩ := T
          go_wp2_with (first
            | (go_at_call 38; refine (takeType_ok _ _ _ R (HRD.out.below HW.out (Nat.le_refl _)) HQT.out).mono ?_; rintro e w2 ⟨FA, fk, fc, rfl, lf2, far2, h2⟩; rw [HWT.out]; rw [HTT.out] at lf2 ⊢; have LF2 := Lib.hid (And.intro lf2 far2); have HT2 := Lib.hid (HT.out.below h2); have X2 := Lib.hid (HW.out.trans (h2.mono hws)); have hs2 := X2.out.size; have hs3 := h2.size; clear lf2 far2 h2)
            | (at_builtin; refine wpList_tapp rfl _ _ rfl w.heap.size u8 l rfl (HT2.out.below ((Below.refl _ _).alloc (Nat.le_refl _) _)).row ⟨⟨tn, tv, tr, fs⟩, FA, fk, fc⟩ (w2.heap.size + 1) (by simp) rfl HL3.out (by simp; omega) ?_; intro g4 cc4 w4 hown4 hgrow hat4 hlt4; have HT4 := Lib.hid ((HT2.out.below ((Below.refl _ _).alloc (Nat.le_refl _) _)).app (q := ⟨⟨tn, tv, tr, fs⟩, FA, fk, fc⟩) HNL.out (LF2.out.1.below ((Below.refl _ _).alloc (Nat.le_refl _) _) (Nat.le_refl _)) (fun b' o' e => (by have h5 := LF2.out.2 b' o' e; refine ⟨by simp; omega, fun e2 => ?_⟩; have h6 := (HT.out.row.lt e2).2; omega)) hown4 hgrow hat4); have X4 := Lib.hid ((X2.out.alloc hs2 _).grown hgrow (by simp; omega) (fun r hr => (HT.out.row.lt hr).1)); clear hown4 hgrow hat4 hlt4))
          go_roundw
          case rel =>
            refine ⟨j + 1, at' + Wt, l ++ [⟨⟨tn, tv, tr, fs⟩, FA, fk, fc⟩], by omega, hW1, by go_num, by go_num, ?_, ?_, ?_, ?_, ?_, X4.out⟩
            · show _ = _
              rw [List.length_append, HLN.out]
              rfl
            · show _ = _
              rw [HM.out]
              exact HE2.out
            · show _ = _
              rw [HM.out, HV2.out]
              simp
            · show _ = _
              rw [HM.out, HW3.out]
              omega
            · show Tl _ _ _ _
              exact HT4.out
          case measure => simp [intOf]; omega
        · have HP := Lib.hid (HBAD.out q (by rw [HE.out]; show (if ttE R ≠ 0 then ttE R else _) = q; rw [hq, if_pos hq0]) hq0)
          have HN := Lib.hid (pa_no HP.out hq0)
          have hqn : ((q : Int) != 0) = true := by simpa using hq0
          have HQ0 := Lib.hid hq0
          clear hq
          go_wp2_with (go_at_call 38; refine (takeType_bad _ _ _ R (HRD.out.below HW.out (Nat.le_refl _)) (by rw [HQT.out]; exact HQ0.out)).mono ?_; rintro e w2 ⟨rfl, h2⟩; rw [HQT.out]; have X2 := Lib.hid (HW.out.trans (h2.mono hws)); have hs2 := X2.out.size; clear h2)
          go_ret3
          rw [HP.out, HN.out.1, HN.out.2]
          exact ⟨_, _, _, rfl, LNH.out _, X2.out.alloc hs2 _⟩
    · obtain rfl : j = N := by omega
      have hE0 : psE j R0 = 0 := by rw [HE.out, Nat.sub_self]; rfl
      have hV0 : psV j R0 = l.map (·.t) := by rw [HV.out, Nat.sub_self]; simp [psV]
      have hW0 : P + psW j R0 = at' := by rw [HW2.out, Nat.sub_self]; rfl
      have hp := HCK.out hE0
      rw [hV0] at hp
      obtain ⟨ts, hts⟩ : ∃ ts, l.map (·.t) = ts := ⟨_, rfl⟩
      obtain ⟨A', k', c', rfl, lt⟩ := HT.out.form
      rw [hts] at hp lt hV0
      have HLT := Lib.hid lt
      obtain ⟨q, hq⟩ : ∃ q, ckE ts = q := ⟨_, rfl⟩
      have HQC := Lib.hid hq
      rw [hq] at hp
      have HP := Lib.hid hp
      by_cases hq0 : q = 0
      · subst hq0
        have HVW := Lib.hid (HOK.out hp)
        rw [hV0, hW0] at HVW
        clear hE0 hV0 hW0 hp hts lt hq
        go_wp2_with (go_at_call 12; refine (check_any _ _ _ ts HLT.out).mono ?_; rintro e w2 ⟨rfl, h2⟩; rw [HQC.out]; have X2 := Lib.hid (HW.out.trans (h2.mono hws)); have LT2 := Lib.hid (HLT.out.below h2 (Nat.le_refl _)); clear h2)
        go_ret3
        rw [HP.out, HVW.out.1, HVW.out.2]
        exact ⟨_, _, _, rfl, LT2.out, X2.out⟩
      · have HN := Lib.hid (pa_no hp hq0)
        have hqn : ((q : Int) != 0) = true := by simpa using hq0
        clear hE0 hV0 hW0 hp hts lt hq
        go_wp2_with (go_at_call 12; refine (check_any _ _ _ ts HLT.out).mono ?_; rintro e w2 ⟨rfl, h2⟩; rw [HQC.out]; have X2 := Lib.hid (HW.out.trans (h2.mono hws)); clear h2)
        go_ret3
        rw [HP.out, HN.out.1, HN.out.2]
        exact ⟨_, _, _, rfl, LNH.out _, X2.out⟩
end
end Go.Proofs.Ytnkjlocjfljjlaa
