/- The contracts of TakeInts, wire's and the document's, and of Same. Condition: the slices can be read. -/
import Derived.Test.YtnkjlocjfljjlaaWInts
namespace Go.Proofs.Ytnkjlocjfljjlaa
open Go.RowKit

def zs (l : List Nat) : List Int := l.map fun n : Nat => (n : Int)
theorem zs_app (a b : List Nat) : zs (a ++ b) = zs a ++ zs b := by simp [zs]
theorem zs_len (a : List Nat) : (zs a).length = a.length := by simp [zs]

theorem ti_err {bs : List Nat} (h : tE bs ≠ 0) : iV bs = [] ∧ iW bs = 0 ∧ iE bs = tE bs := by
  unfold iV iW iE ti; rw [if_pos h]; exact ⟨rfl, rfl, rfl⟩
theorem ti_big {bs : List Nat} (h : tE bs = 0) (h2 : 1000 < tN bs) : iV bs = [] ∧ iW bs = 0 ∧ iE bs = 11 := by
  unfold iV iW iE ti; rw [if_neg (by simp [h]), if_pos h2]; exact ⟨rfl, rfl, rfl⟩
theorem ti_go {bs : List Nat} (h : tE bs = 0) (h2 : ¬ 1000 < tN bs) : ti bs = pre [] (el (tN bs) (bs.drop (tW bs)) (tW bs)) := by
  unfold ti; rw [if_neg (by simp [h]), if_neg h2, pre_nil]
theorem ti_is {bs V : List Nat} {W E : Nat} (h : ti bs = (V, W, E)) : iV bs = V ∧ iW bs = W ∧ iE bs = E := by
  unfold iV iW iE; rw [h]; exact ⟨rfl, rfl, rfl⟩
theorem tk_nil : tE [] = 2 ∧ tN [] = 0 ∧ tW [] = 0 := ⟨rfl, rfl, rfl⟩
theorem Rd.empty {w : World} {A : Option Addr} {c : Nat} (h : c ≤ 9223372036854775807) (hn : A = none → c = 0) : Rd w A 0 c [] := ⟨fun i y hi => by simp at hi, rfl, Nat.zero_le _, h, hn⟩
theorem Rd.from {w : World} {b o k cap : Nat} {bs : List Nat} (h : Rd w (some ⟨b, o, none⟩) k cap bs) (W : Nat) (hn : W ≤ k) : Rd w (some ⟨b, o + W, none⟩) (k - W) (cap - W) (bs.drop W) := by
  have := h.sub W (k - W) (by omega)
  rwa [List.take_of_length_le (by have := h.len; simp; omega)] at this
section
variable {w : World}
set_option maxRecDepth 100000 in
theorem takeInts_any (A : Option Addr) (k cap : Nat) (bs : List Nat) (h : Rd w A k cap bs) :
    Calls Try.prog 52 #[.slice A k cap] w fun e w' => ∃ v', e = .returned (.tuple #[v', .int .i64 (iW bs : Nat), .int .i64 (iE bs : Nat)]) ∧ Oi w' w.heap.size v' (zs (iV bs)) ∧ Below w.heap.size w w' := by
  have hle := h.le
  have hmx := h.max
  have HL := Lib.hid h.len
  have HB := Lib.hid h.byt
  have HR := Lib.hid h
  clear h
  by_cases hE : tE bs = 0
  · have HE := Lib.hid hE
    by_cases hN : 1000 < tN bs
    · obtain ⟨e1, e2, e3⟩ := ti_big hE hN
      rw [e1, e2, e3]
      clear e1 e2 e3 hE
      generalize hNN : tN bs = N at hN
      have HN := Lib.hid hNN
      clear hNN
      go_enter Try.func52, Try.ntmps52
      go_wp2_with (go_at_call 37; refine (take_any _ _ _ bs HR.out).mono ?_; rintro e w1 ⟨rfl, rfl⟩; rw [HE.out, HN.out])
      go_ret3
      exact ⟨_, rfl, Oi.nil _ _, Below.refl _ _⟩
    have HT := Lib.hid (ti_go hE hN)
    have hWk : tW bs ≤ k ∧ 0 < tW bs := by rw [← HL.out]; rcases tk_cases bs HB.out with ⟨_, _, h1, h2, _⟩ | ⟨h1, _⟩ <;> omega
    obtain ⟨hWk, hW0⟩ := hWk
    obtain ⟨b, o, rfl, hbl, _⟩ := HR.out.base (by omega)
    clear hE
    generalize hNN : tN bs = M at hN HT
    generalize hWW : tW bs = W0 at hWk hW0 HT
    have HN := Lib.hid hNN
    have HW := Lib.hid hWW
    have hM : M ≤ 1000 := by omega
    clear hNN hWW hN
    obtain ⟨i0, hi, hz0, hz1, hz2⟩ := info_parts info64
    have IZ := Lib.hid (And.intro hi (And.intro hz0 (And.intro hz1 hz2)))
    clear hi hz0 hz1 hz2
    go_enter Try.func52, Try.ntmps52
    go_wp2_with (first | (go_at_call 37; refine (take_any _ _ _ bs HR.out).mono ?_; rintro e w1 ⟨rfl, rfl⟩; rw [HE.out, HN.out, HW.out]) | (refine wpList_make_own _ rfl _ _ 33 rfl w.heap.size 3 i0 (.int .i64 0) 1 Try.underlying33 IZ.out.1 IZ.out.2.1 IZ.out.2.2.1 .i64 .u64 _ M rfl rfl rfl (by rw [IZ.out.2.2.2]; omega) (by unfold maxLen; omega) (Nat.le_refl _) ?_; intro w1 h1 h2; have H1 := Lib.hid (show Oi w1 w.heap.size _ [] from h1); have H2 := Lib.hid ((Below.refl w.heap.size w).grown h2 (Nat.le_refl _) (by intro k hk; cases hk)); clear h1 h2) | go_in)
    go_loopw [8, 6, 26] (fun u a i wr => ∃ (j p : Nat) (acc : List Nat), j ≤ M ∧ p ≤ k ∧ i = .int .u64 j ∧ a = .int .i64 p ∧ Hid (acc.length = j) ∧ Hid (ti bs = pre acc (el (M - j) (bs.drop p) p)) ∧ Hid (Oi wr w.heap.size u (zs acc)) ∧ Hid (Below w.heap.size w wr)) (fun _ _ i _ => M - (intOf i).toNat)
    case atStart => exact ⟨0, W0, [], Nat.zero_le _, hWk, rfl, rfl, rfl, HT.out, H1.out, H2.out⟩
    case round =>
      obtain ⟨j, p, acc, hj, hp, rfl, rfl, HA, HP, HO, HX⟩ := hrel
      by_cases hlt : j < M
      · have hMj : M - j = (M - (j + 1)) + 1 := by omega
        have HQ := Lib.hid (hMj ▸ HP.out)
        have hmj : (j : Int) < (M : Int) := by omega
        clear hMj
        by_cases hpk : p < k
        · have HS := Lib.hid ((HR.out.from p hp).below HX.out (Nat.le_refl _))
          have hcp : ¬ cap = p := by omega
          by_cases hE1 : tE (bs.drop p) = 0
          · have HE1 := Lib.hid hE1
            by_cases hN1 : 2147483647 < tN (bs.drop p)
            · obtain ⟨e1, e2, e3⟩ := ti_is (HQ.out.trans (pre_big hE1 hN1))
              have HF := Lib.hid (And.intro e1 (And.intro e2 e3))
              clear e1 e2 e3 hE1
              generalize hNN : tN (bs.drop p) = N1 at hN1
              have HN1 := Lib.hid hNN
              clear hNN
              go_wp2_with (go_at_call 37; refine (take_any _ _ _ (bs.drop p) HS.out).mono ?_; rintro e w3 ⟨rfl, rfl⟩; rw [HE1.out, HN1.out])
              go_ret3
              rw [HF.out.1, HF.out.2.1, HF.out.2.2]
              exact ⟨_, rfl, Oi.nil _ _, HX.out⟩
            · have HF := Lib.hid (HQ.out.trans (pre_next hE1 hN1))
              have hW1 : tW (bs.drop p) ≤ k - p := by
                rw [← HL.out]
                rcases tk_cases (bs.drop p) (byt_drop HB.out p) with ⟨_, _, h1, h2, _⟩ | ⟨h1, _⟩
                · simpa using h2
                · omega
              clear hE1
              have HDD := Lib.hid (show (bs.drop p).drop (tW (bs.drop p)) = bs.drop (p + tW (bs.drop p)) by rw [List.drop_drop])
              generalize hNN : tN (bs.drop p) = N1 at hN1 HF
              generalize hWW : tW (bs.drop p) = W1 at hW1 HF HDD
              have HN1 := Lib.hid hNN
              have HW1 := Lib.hid hWW
              have hN2 : N1 ≤ 2147483647 := by omega
              clear hNN hWW hN1
              have LA := Lib.hid (show (zs acc).length ≤ 100000 by rw [zs_len, HA.out]; omega)
              go_wp2_with (first | (go_at_call 37; refine (take_any _ _ _ (bs.drop p) HS.out).mono ?_; rintro e w3 ⟨rfl, rfl⟩; rw [HE1.out, HN1.out, HW1.out]) | (at_builtin; refine wpList_iapp rfl _ _ rfl w.heap.size _ (zs acc) rfl HO.out (N1 : Int) rfl LA.out HX.out.size ?_; intro v4 w4 h4 h5; have H4 := Lib.hid h4; have H5 := Lib.hid (HX.out.trans h5); clear h4 h5) | go_in)
              go_roundw
              case rel =>
                refine ⟨j + 1, p + W1, acc ++ [N1], by omega, by omega, by go_num, by go_num, ?_, ?_, ?_, H5.out⟩
                · show _ = _
                  rw [List.length_append, HA.out]; rfl
                · show _ = _
                  rw [HF.out, HDD.out]
                · show Oi _ _ _ _
                  rw [zs_app]; exact H4.out
              case measure => simp [intOf]; omega
          · obtain ⟨e1, e2, e3⟩ := ti_is (HQ.out.trans (pre_err hE1))
            have HF := Lib.hid (And.intro e1 (And.intro e2 e3))
            have hz : ((tE (bs.drop p) : Nat) : Int) ≠ 0 := by omega
            clear e1 e2 e3 hE1
            generalize hve : tE (bs.drop p) = E at hz HF
            have HE1 := Lib.hid hve
            clear hve
            go_wp2_with (go_at_call 37; refine (take_any _ _ _ (bs.drop p) HS.out).mono ?_; rintro e w3 ⟨rfl, rfl⟩; rw [HE1.out])
            go_ret3
            rw [HF.out.1, HF.out.2.1, HF.out.2.2]
            exact ⟨_, rfl, Oi.nil _ _, HX.out⟩
        · obtain rfl : p = k := by omega
          have hd : bs.drop p = [] := List.drop_eq_nil_of_le (Nat.le_of_eq HL.out)
          obtain ⟨e1, e2, e3⟩ := ti_is (HQ.out.trans (pre_err (by rw [hd, tk_nil.1]; decide)))
          rw [hd, tk_nil.1] at e3
          have HF := Lib.hid (And.intro e1 (And.intro e2 e3))
          clear e1 e2 e3 hd
          by_cases hcp : cap = p
          · subst hcp
            go_wp2_with (go_at_call 37; refine (take_any _ _ _ [] (Rd.empty (by omega) (by intro hh; first | omega | cases hh))).mono ?_; rintro e w3 ⟨rfl, rfl⟩; rw [tk_nil.1])
            go_ret3
            rw [HF.out.1, HF.out.2.1, HF.out.2.2]
            exact ⟨_, rfl, Oi.nil _ _, HX.out⟩
          · go_wp2_with (go_at_call 37; refine (take_any _ _ _ [] (Rd.empty (by omega) (by intro hh; first | omega | cases hh))).mono ?_; rintro e w3 ⟨rfl, rfl⟩; rw [tk_nil.1])
            go_ret3
            rw [HF.out.1, HF.out.2.1, HF.out.2.2]
            exact ⟨_, rfl, Oi.nil _ _, HX.out⟩
      · obtain rfl : j = M := by omega
        have hq := HP.out
        rw [Nat.sub_self, pre_end] at hq
        obtain ⟨e1, e2, e3⟩ := ti_is hq
        have HF := Lib.hid (And.intro e1 (And.intro e2 e3))
        clear e1 e2 e3 hq
        go_wp2_with fail
        go_ret3
        rw [HF.out.1, HF.out.2.1, HF.out.2.2]
        exact ⟨_, rfl, HO.out, HX.out⟩
  · obtain ⟨e1, e2, e3⟩ := ti_err hE
    rw [e1, e2, e3]
    have hz : ((tE bs : Nat) : Int) ≠ 0 := by omega
    clear e1 e2 e3 hE
    generalize hve : tE bs = E at hz ⊢
    have HE := Lib.hid hve
    clear hve
    go_enter Try.func52, Try.ntmps52
    go_wp2_with (go_at_call 37; refine (take_any _ _ _ bs HR.out).mono ?_; rintro e w1 ⟨rfl, rfl⟩; rw [HE.out])
    go_ret3
    exact ⟨_, rfl, Oi.nil _ _, Below.refl _ _⟩
end
end Go.Proofs.Ytnkjlocjfljjlaa
