/- The contracts of wire.varintWidth and wire.TakeNumber. Condition: the slice can be read. -/
import Derived.Test.YtnkjlocjfljjlaaWWords
namespace Go.Proofs.Ytnkjlocjfljjlaa
open Go.RowKit

def vE (bs : List Nat) : Nat := if wid 10 bs = 10 then 3 else if wid 10 bs = bs.length then 2 else 0
def vW (bs : List Nat) : Nat := if vE bs = 0 then wid 10 bs + 1 else 0

theorem Rd.byteAt {w : World} {A : Option Addr} {k cap : Nat} {bs : List Nat} (h : Rd w A k cap bs) (i : Nat) (hi : i < k) :
    ∃ b o c : Nat, A = some ⟨b, o, none⟩ ∧ c < 256 ∧ Hid (bs.getD i 0 = c) ∧ w.cell? ⟨b, o + i, none⟩ = some (.int .u8 (c : Int)) := by
  obtain ⟨b, o, e, _, hc⟩ := h.base (by omega)
  exact ⟨b, o, bs.getD i 0, e, byt_at h.byt i, rfl, hc i hi⟩

theorem Rd.at {w : World} {b o k cap : Nat} {bs : List Nat} (h : Rd w (some ⟨b, o, none⟩) k cap bs) (i : Nat) (hi : i < k) :
    ∃ c : Nat, c < 256 ∧ Hid (bs.getD i 0 = c) ∧ w.cell? ⟨b, o + i, none⟩ = some (.int .u8 (c : Int)) := by
  obtain ⟨b', o', e, _, hc⟩ := h.base (by omega)
  injection e with e
  injection e with e1 e2
  subst e1
  subst e2
  exact ⟨bs.getD i 0, byt_at h.byt i, rfl, hc i hi⟩

theorem v_at {bs : List Nat} {j c : Nat} (h1 : j < bs.length) (h2 : j < 10) (h3 : ∀ t, t < j → 128 ≤ bs.getD t 0) (h4 : bs.getD j 0 = c) (h5 : c < 128) : vW bs = j + 1 ∧ vE bs = 0 := by
  have e := wid_eq 10 bs j (by omega) (by omega) h3 (.inr (.inr (by omega)))
  have e2 : vE bs = 0 := by unfold vE; rw [e, if_neg (by omega), if_neg (by omega)]
  exact ⟨by unfold vW; rw [if_pos e2, e], e2⟩
theorem v_short {bs : List Nat} (h2 : bs.length < 10) (h3 : ∀ t, t < bs.length → 128 ≤ bs.getD t 0) : vW bs = 0 ∧ vE bs = 2 := by
  have e := wid_eq 10 bs bs.length (by omega) (by omega) h3 (.inr (.inl rfl))
  have e2 : vE bs = 2 := by unfold vE; rw [e, if_neg (by omega), if_pos rfl]
  exact ⟨by unfold vW; rw [e2]; rfl, e2⟩
theorem v_form {bs : List Nat} (h2 : 10 ≤ bs.length) (h3 : ∀ t, t < 10 → 128 ≤ bs.getD t 0) : vW bs = 0 ∧ vE bs = 3 := by
  have e := wid_eq 10 bs 10 (by omega) (by omega) h3 (.inl rfl)
  have e2 : vE bs = 3 := by unfold vE; rw [if_pos e]
  exact ⟨by unfold vW; rw [e2]; rfl, e2⟩
theorem v_next {bs : List Nat} {j c : Nat} (h3 : ∀ t, t < j → 128 ≤ bs.getD t 0) (h4 : bs.getD j 0 = c) (h5 : ¬ c < 128) : ∀ t, t < j + 1 → 128 ≤ bs.getD t 0 := by
  intro t ht
  rcases Nat.lt_or_ge t j with h | h
  · exact h3 t h
  · obtain rfl : t = j := by omega
    omega

section
variable {w : World}
set_option maxRecDepth 100000 in
theorem width_any (A : Option Addr) (k cap : Nat) (bs : List Nat) (h : Rd w A k cap bs) :
    Calls Try.prog 50 #[.slice A k cap] w fun e w' => e = .returned (.tuple #[.int .i64 (vW bs : Nat), .int .i64 (vE bs : Nat)]) ∧ w = w' := by
  have hle := h.le
  have hmx := h.max
  have HL := Lib.hid h.len
  have HR := Lib.hid h
  clear h
  by_cases hk : k < 10
  · go_enter Try.func50, Try.ntmps50
    go_wp2_with fail
    go_loop [12] (fun i => ∃ j : Nat, j ≤ k ∧ i = .int .i64 j ∧ Hid (∀ t, t < j → 128 ≤ bs.getD t 0)) (fun i => k - (intOf i).toNat)
    case atStart => exact ⟨0, Nat.zero_le _, rfl, fun t ht => absurd ht (by omega)⟩
    case round =>
      obtain ⟨j, hj, rfl, HJ⟩ := hrel
      by_cases hlt : j < k
      · obtain ⟨b, o, c, rfl, hc, HC, hcell⟩ := HR.out.byteAt j hlt
        by_cases hcl : c < 128
        · go_wp2_with fail
          go_ret2
          obtain ⟨e1, e2⟩ := v_at (by rw [HL.out]; exact hlt) (by omega) HJ.out HC.out hcl
          rw [e1, e2]
          exact ⟨by simp, rfl⟩
        · go_wp2_with fail
          go_round
          case rel => exact ⟨j + 1, by omega, by go_num, v_next HJ.out HC.out hcl⟩
          case measure => simp [intOf]; omega
      · obtain rfl : j = k := by omega
        go_wp2_with fail
        go_ret2
        obtain ⟨e1, e2⟩ := v_short (bs := bs) (by rw [HL.out]; exact hk) (by rw [HL.out]; exact HJ.out)
        rw [e1, e2]
        exact ⟨rfl, rfl⟩
  · rcases (by omega : k = 10 ∨ 10 < k) with rfl | hk2
    all_goals
     go_enter Try.func50, Try.ntmps50
     go_wp2_with fail
     go_loop [12] (fun i => ∃ j : Nat, j ≤ 10 ∧ i = .int .i64 j ∧ Hid (∀ t, t < j → 128 ≤ bs.getD t 0)) (fun i => 10 - (intOf i).toNat)
     case atStart => exact ⟨0, Nat.zero_le _, rfl, fun t ht => absurd ht (by omega)⟩
     case round =>
       obtain ⟨j, hj, rfl, HJ⟩ := hrel
       by_cases hlt : j < 10
       · obtain ⟨b, o, c, rfl, hc, HC, hcell⟩ := HR.out.byteAt j (by omega)
         by_cases hcl : c < 128
         · go_wp2_with fail
           go_ret2
           obtain ⟨e1, e2⟩ := v_at (by rw [HL.out]; omega) (by omega) HJ.out HC.out hcl
           rw [e1, e2]
           exact ⟨by simp, rfl⟩
         · go_wp2_with fail
           go_round
           case rel => exact ⟨j + 1, by omega, by go_num, v_next HJ.out HC.out hcl⟩
           case measure => simp [intOf]; omega
       · obtain rfl : j = 10 := by omega
         go_wp2_with fail
         go_ret2
         obtain ⟨e1, e2⟩ := v_form (bs := bs) (by rw [HL.out]; omega) HJ.out
         rw [e1, e2]
         exact ⟨rfl, rfl⟩

theorem tk_vE {bs : List Nat} (h : vE bs ≠ 0) : tE bs = vE bs ∧ tN bs = 0 ∧ tW bs = 0 := by
  unfold vE at h ⊢
  unfold tE tN tW tk
  by_cases c1 : wid 10 bs = 10
  · simp [c1]
  · by_cases c2 : wid 10 bs = bs.length
    · simp only [if_neg c1, if_pos c2]; simp
    · rw [if_neg c1, if_neg c2] at h; exact absurd rfl h
theorem tk_vW {bs : List Nat} (h : vE bs = 0) : ∃ m, vW bs = m + 1 ∧ m < 10 ∧ m < bs.length ∧ bs.getD m 0 < 128 ∧
    tE bs = (if bs.getD m 0 = 0 ∧ 0 < m then 3 else if m = 9 ∧ 1 < bs.getD m 0 then 4 else 0) ∧
    (tE bs ≠ 0 → tN bs = 0 ∧ tW bs = 0) ∧ (tE bs = 0 → tN bs = val (bs.take (m + 1)) ∧ tW bs = m + 1) := by
  obtain ⟨h1, h2, h3, h4⟩ := wid_spec 10 bs
  have hw : vW bs = wid 10 bs + 1 := by unfold vW; rw [if_pos h]
  unfold vE at h
  by_cases c1 : wid 10 bs = 10
  · rw [if_pos c1] at h; cases h
  rw [if_neg c1] at h
  by_cases c2 : wid 10 bs = bs.length
  · rw [if_pos c2] at h; cases h
  refine ⟨wid 10 bs, hw, by omega, by omega, by rcases h4 with h | h | h <;> first | omega | exact h, ?_⟩
  unfold tE tN tW tk
  rw [if_neg c1, if_neg c2]
  by_cases c3 : bs.getD (wid 10 bs) 0 = 0 ∧ 0 < wid 10 bs
  · rw [if_pos c3, if_pos c3]; simp
  rw [if_neg c3, if_neg c3]
  by_cases c4 : wid 10 bs = 9 ∧ 1 < bs.getD (wid 10 bs) 0
  · rw [if_pos c4, if_pos c4]; simp
  · rw [if_neg c4, if_neg c4]; simp

theorem val_step {bs : List Nat} {m i : Nat} (hi : i ≤ m) (hm : m < bs.length) : val ((bs.take (m + 1)).drop i) = bs.getD i 0 % 128 + 128 * val ((bs.take (m + 1)).drop (i + 1)) := by
  have hl : i < (bs.take (m + 1)).length := by simp; omega
  rw [List.drop_eq_getElem_cons hl, val]
  congr 2
  simp [List.getD, List.getElem?_eq_getElem (show i < bs.length by omega)]
theorem val_small {bs : List Nat} (hB : Byt bs) {m i : Nat} (hw : tW bs = m + 1) (hn : tN bs = val (bs.take (m + 1))) : val ((bs.take (m + 1)).drop i) < 18446744073709551616 := by
  have := val_drop (bs.take (m + 1)) i
  rcases tk_cases bs hB with ⟨_, _, _, _, h5, _⟩ | ⟨h1, _⟩
  · omega
  · omega

set_option maxRecDepth 100000 in
theorem take_any (A : Option Addr) (k cap : Nat) (bs : List Nat) (h : Rd w A k cap bs) :
    Calls Try.prog 37 #[.slice A k cap] w fun e w' => e = .returned (.tuple #[.int .u64 (tN bs : Nat), .int .i64 (tW bs : Nat), .int .i64 (tE bs : Nat)]) ∧ w = w' := by
  have hle := h.le
  have hmx := h.max
  have HL := Lib.hid h.len
  have HB := Lib.hid h.byt
  have HR := Lib.hid h
  clear h
  by_cases hv : vE bs = 0
  · obtain ⟨m, e1, hm, hml, hlast, e2, e3, e4⟩ := tk_vW hv
    have hmk : m < k := by rw [← HL.out]; exact hml
    have HV := Lib.hid hv
    have HW := Lib.hid e1
    have H2 := Lib.hid e2
    have H3 := Lib.hid e3
    have H4 := Lib.hid e4
    obtain ⟨b, o, c, rfl, hc, HC, hcell⟩ := HR.out.byteAt m hmk
    have hc1 : c < 128 := by rw [← HC.out]; exact hlast
    clear hv e1 e2 e3 e4 hml hlast
    by_cases c1 : c = 0 ∧ 0 < m
    · have e : tE bs = 3 := by rw [H2.out, if_pos (by rw [HC.out]; exact c1)]
      obtain ⟨e1, e2⟩ := H3.out (by rw [e]; decide)
      rw [e, e1, e2]
      obtain ⟨rfl, hm0⟩ := c1
      clear e e1 e2
      go_enter Try.func37, Try.ntmps37
      go_wp2_with (go_at_call 50; refine (width_any _ _ _ bs HR.out).mono ?_; rintro e w' ⟨rfl, rfl⟩; rw [HV.out, HW.out])
      go_ret3
      exact ⟨rfl, rfl⟩
    have h1 : ¬ (bs.getD m 0 = 0 ∧ 0 < m) := by rw [HC.out]; exact c1
    by_cases c2 : m = 9 ∧ 1 < c
    · have e : tE bs = 4 := by rw [H2.out, if_neg h1, if_pos (by rw [HC.out]; exact c2)]
      obtain ⟨e1, e2⟩ := H3.out (by rw [e]; decide)
      rw [e, e1, e2]
      obtain ⟨rfl, hm0⟩ := c2
      have hc0 : ((c : Int) == 0) = false := by simp; omega
      clear e e1 e2 h1 c1
      go_enter Try.func37, Try.ntmps37
      go_wp2_with (go_at_call 50; refine (width_any _ _ _ bs HR.out).mono ?_; rintro e w' ⟨rfl, rfl⟩; rw [HV.out, HW.out])
      go_ret3
      exact ⟨rfl, rfl⟩
    have e : tE bs = 0 := by rw [H2.out, if_neg h1, if_neg (by rw [HC.out]; exact c2)]
    obtain ⟨e1, e2⟩ := H4.out e
    have HS := Lib.hid fun i => val_small HB.out (i := i) e2 e1
    rw [e, e1, e2]
    clear e e1 e2 h1
    rcases (by omega : (c = 0 ∧ m = 0) ∨ (c ≠ 0 ∧ m ≠ 9) ∨ (c ≠ 0 ∧ m = 9 ∧ c ≤ 1)) with ⟨rfl, q2⟩ | ⟨q1, q2⟩ | ⟨q1, q2, q3⟩
    case' inl =>
      have q4 : ¬ (1 : Int) < (m : Int) + 1 := by omega
      have hm9 : ((m : Int) + 1 == 10) = false := by simp; omega
      have q := Lib.hid q2
      clear c1 c2 q2
      go_enter Try.func37, Try.ntmps37
      go_wp2_with (go_at_call 50; refine (width_any _ _ _ bs HR.out).mono ?_; rintro e w' ⟨rfl, rfl⟩; rw [HV.out, HW.out])
    case' inr.inl =>
      have hc0 : ((c : Int) == 0) = false := by simp; omega
      have hm9 : ((m : Int) + 1 == 10) = false := by simp; omega
      clear c1 c2
      go_enter Try.func37, Try.ntmps37
      go_wp2_with (go_at_call 50; refine (width_any _ _ _ bs HR.out).mono ?_; rintro e w' ⟨rfl, rfl⟩; rw [HV.out, HW.out])
    case' inr.inr =>
      have hc0 : ((c : Int) == 0) = false := by simp; omega
      have hm9 : ((m : Int) + 1 == 10) = true := by simp; omega
      have q := Lib.hid q2
      clear c1 c2 q2
      go_enter Try.func37, Try.ntmps37
      go_wp2_with (go_at_call 50; refine (width_any _ _ _ bs HR.out).mono ?_; rintro e w' ⟨rfl, rfl⟩; rw [HV.out, HW.out])
    all_goals
      clear hcell
      go_loop [8, 9] (fun v i => (∃ t V : Nat, t ≤ m ∧ i = .int .i64 t ∧ v = .int .u64 V ∧ Hid (V = val ((bs.take (m + 1)).drop (t + 1)))) ∨ (i = .int .i64 (-1) ∧ ∃ V : Nat, v = .int .u64 V ∧ Hid (V = val (bs.take (m + 1))))) (fun _ i => (intOf i + 1).toNat)
      case atStart => exact .inl ⟨m, 0, Nat.le_refl _, by go_num, rfl, by rw [List.drop_eq_nil_of_le (by rw [List.length_take]; omega)]; rfl⟩
      case round =>
        rcases hrel with ⟨t, V, ht, rfl, rfl, HVV⟩ | ⟨rfl, V, rfl, HVV⟩
        · obtain ⟨d, hd, HD, hcd⟩ := HR.out.at t (by omega)
          have hst := val_step ht (show m < bs.length by rw [HL.out]; exact hmk)
          rw [HD.out, ← HVV.out] at hst
          have hsm := HS.out t
          rw [hst] at hsm
          have HST := Lib.hid hst
          clear hst
          go_wp2_with fail
          go_round
          case rel =>
            have hv2 : val ((bs.take (m + 1)).drop t) = d % 128 + 128 * V := HST.out
            cases t with
            | zero => exact .inr ⟨by go_num, d % 128 + 128 * V, by go_num, by rw [List.drop_zero] at hv2; exact hv2.symm⟩
            | succ t => exact .inl ⟨t, d % 128 + 128 * V, by omega, by go_num, by go_num, hv2.symm⟩
          case measure => simp [intOf]
        · go_wp2_with fail
          go_ret3
          rw [HVV.out]
          exact ⟨by simp, rfl⟩
  · obtain ⟨e1, e2, e3⟩ := tk_vE hv
    have HV := Lib.hid hv
    have hz : ((vE bs : Nat) : Int) ≠ 0 := by omega
    rw [e1, e2, e3]
    clear e1 e2 e3 hv
    generalize hve : vE bs = E at hz ⊢
    have HE := Lib.hid hve
    clear hve
    go_enter Try.func37, Try.ntmps37
    go_wp2_with (go_at_call 50; refine (width_any _ _ _ bs HR.out).mono ?_; rintro e w' ⟨rfl, rfl⟩; rw [HE.out])
    go_ret3
    exact ⟨rfl, rfl⟩
end
end Go.Proofs.Ytnkjlocjfljjlaa
