/- The contracts of the document's TakeInts, and of Same. Condition: the slices can be read. -/
import Derived.Test.YtnkjlocjfljjlaaWTakeInts
namespace Go.Proofs.Ytnkjlocjfljjlaa
open Go.RowKit
theorem below_drewN {B : Nat} {w wr : World} (h : Below B w wr) (m : Nat) : Below B w (wr.drewN m) := ⟨h.os, h.tape, h.output, h.size, h.block⟩
section
variable {w : World}
set_option maxRecDepth 100000 in
theorem rtakeInts_any (A : Option Addr) (k cap : Nat) (bs : List Nat) (h : Rd w A k cap bs) :
    Calls Try.prog 41 #[.slice A k cap] w fun e w' => ∃ v', e = .returned (.tuple #[v', .int .i64 (iW bs : Nat), .int .i64 (iE bs : Nat)]) ∧ Oi w' w.heap.size v' (zs (iV bs)) ∧ Below w.heap.size w w' := by
  have hle := h.le
  have hmx := h.max
  have HL := Lib.hid h.len
  have HB := Lib.hid h.byt
  have HR := Lib.hid h
  clear h
  by_cases hE : tE bs = 0
  · have HE := Lib.hid hE
    by_cases hN : 1000 < tN bs
    · obtain ⟨e1, e2, e3⟩ := ti_big hE hN
      rw [e1, e2, e3]
      clear e1 e2 e3 hE
      generalize hNN : tN bs = N at hN
      have HN := Lib.hid hNN
      clear hNN
      go_enter Try.func41, Try.ntmps41
      go_wp2_with (go_at_call 39; refine (rtake_any _ _ _ bs HR.out).mono ?_; rintro e w1 ⟨rfl, rfl⟩; rw [HE.out, HN.out])
      go_ret3
      exact ⟨_, rfl, Oi.nil _ _, Below.refl _ _⟩
    have HT := Lib.hid (ti_go hE hN)
    have hWk : tW bs ≤ k ∧ 0 < tW bs := by rw [← HL.out]; rcases tk_cases bs HB.out with ⟨_, _, h1, h2, _⟩ | ⟨h1, _⟩ <;> omega
    obtain ⟨hWk, hW0⟩ := hWk
    obtain ⟨b, o, rfl, hbl, _⟩ := HR.out.base (by omega)
    clear hE
    generalize hNN : tN bs = M at hN HT
    generalize hWW : tW bs = W0 at hWk hW0 HT
    have HN := Lib.hid hNN
    have HW := Lib.hid hWW
    have hM : M ≤ 1000 := by omega
    clear hNN hWW hN
    go_enter Try.func41, Try.ntmps41
    go_wp2_with (go_at_call 39; refine (rtake_any _ _ _ bs HR.out).mono ?_; rintro e w1 ⟨rfl, rfl⟩; rw [HE.out, HN.out, HW.out])
    go_loopw [8, 6, 9] (fun u a i wr => ∃ (j p : Nat) (acc : List Nat), j ≤ M ∧ p ≤ k ∧ i = .int .i64 j ∧ a = .int .i64 p ∧ Hid (acc.length = j) ∧ Hid (ti bs = pre acc (el (M - j) (bs.drop p) p)) ∧ Hid (Oi wr w.heap.size u (zs acc)) ∧ Hid (Below w.heap.size w wr)) (fun _ _ i _ => M - (intOf i).toNat)
    case atStart => exact ⟨0, W0, [], Nat.zero_le _, hWk, rfl, rfl, rfl, HT.out, Oi.nil _ _, Below.refl _ _⟩
    case round =>
      obtain ⟨j, p, acc, hj, hp, rfl, rfl, HA, HP, HO, HX⟩ := hrel
      by_cases hlt : j < M
      · have hMj : M - j = (M - (j + 1)) + 1 := by omega
        have HQ := Lib.hid (hMj ▸ HP.out)
        have hmj : (j : Int) < (M : Int) := by omega
        clear hMj
        by_cases hpk : p < k
        · have HS := Lib.hid ((HR.out.from p hp).below HX.out (Nat.le_refl _))
          have hcp : ¬ cap = p := by omega
          by_cases hE1 : tE (bs.drop p) = 0
          · have HE1 := Lib.hid hE1
            by_cases hN1 : 2147483647 < tN (bs.drop p)
            · obtain ⟨e1, e2, e3⟩ := ti_is (HQ.out.trans (pre_big hE1 hN1))
              have HF := Lib.hid (And.intro e1 (And.intro e2 e3))
              clear e1 e2 e3 hE1
              generalize hNN : tN (bs.drop p) = N1 at hN1
              have HN1 := Lib.hid hNN
              clear hNN
              go_wp2_with (go_at_call 39; refine (rtake_any _ _ _ (bs.drop p) HS.out).mono ?_; rintro e w3 ⟨rfl, rfl⟩; rw [HE1.out, HN1.out])
              go_ret3
              rw [HF.out.1, HF.out.2.1, HF.out.2.2]
              exact ⟨_, rfl, Oi.nil _ _, HX.out⟩
            · have HF := Lib.hid (HQ.out.trans (pre_next hE1 hN1))
              have hW1 : tW (bs.drop p) ≤ k - p := by
                rw [← HL.out]
                rcases tk_cases (bs.drop p) (byt_drop HB.out p) with ⟨_, _, h1, h2, _⟩ | ⟨h1, _⟩
                · simpa using h2
                · omega
              clear hE1
              have HDD := Lib.hid (show (bs.drop p).drop (tW (bs.drop p)) = bs.drop (p + tW (bs.drop p)) by rw [List.drop_drop])
              generalize hNN : tN (bs.drop p) = N1 at hN1 HF
              generalize hWW : tW (bs.drop p) = W1 at hW1 HF HDD
              have HN1 := Lib.hid hNN
              have HW1 := Lib.hid hWW
              have hN2 : N1 ≤ 2147483647 := by omega
              clear hNN hWW hN1
              have LA := Lib.hid (show (zs acc).length ≤ 100000 by rw [zs_len, HA.out]; omega)
              go_wp2_with (first | (go_at_call 39; refine (rtake_any _ _ _ (bs.drop p) HS.out).mono ?_; rintro e w3 ⟨rfl, rfl⟩; rw [HE1.out, HN1.out, HW1.out]) | (at_builtin; refine wpList_iapp rfl _ _ rfl w.heap.size _ (zs acc) rfl HO.out (N1 : Int) rfl LA.out HX.out.size ?_; intro v4 w4 h4 h5; have H4 := Lib.hid h4; have H5 := Lib.hid (HX.out.trans h5); clear h4 h5) | go_in)
              go_roundw
              case rel =>
                refine ⟨j + 1, p + W1, acc ++ [N1], by omega, by omega, by go_num, by go_num, ?_, ?_, ?_, H5.out⟩
                · show _ = _
                  rw [List.length_append, HA.out]; rfl
                · show _ = _
                  rw [HF.out, HDD.out]
                · show Oi _ _ _ _
                  rw [zs_app]; exact H4.out
              case measure => simp [intOf]; omega
          · obtain ⟨e1, e2, e3⟩ := ti_is (HQ.out.trans (pre_err hE1))
            have HF := Lib.hid (And.intro e1 (And.intro e2 e3))
            have hz : ((tE (bs.drop p) : Nat) : Int) ≠ 0 := by omega
            clear e1 e2 e3 hE1
            generalize hve : tE (bs.drop p) = E at hz HF
            have HE1 := Lib.hid hve
            clear hve
            go_wp2_with (go_at_call 39; refine (rtake_any _ _ _ (bs.drop p) HS.out).mono ?_; rintro e w3 ⟨rfl, rfl⟩; rw [HE1.out])
            go_ret3
            rw [HF.out.1, HF.out.2.1, HF.out.2.2]
            exact ⟨_, rfl, Oi.nil _ _, HX.out⟩
        · obtain rfl : p = k := by omega
          have hd : bs.drop p = [] := List.drop_eq_nil_of_le (Nat.le_of_eq HL.out)
          obtain ⟨e1, e2, e3⟩ := ti_is (HQ.out.trans (pre_err (by rw [hd, tk_nil.1]; decide)))
          rw [hd, tk_nil.1] at e3
          have HF := Lib.hid (And.intro e1 (And.intro e2 e3))
          clear e1 e2 e3 hd
          by_cases hcp : cap = p
          · subst hcp
            go_wp2_with (go_at_call 39; refine (rtake_any _ _ _ [] (Rd.empty (by omega) (by intro hh; first | omega | cases hh))).mono ?_; rintro e w3 ⟨rfl, rfl⟩; rw [tk_nil.1])
            go_ret3
            rw [HF.out.1, HF.out.2.1, HF.out.2.2]
            exact ⟨_, rfl, Oi.nil _ _, HX.out⟩
          · go_wp2_with (go_at_call 39; refine (rtake_any _ _ _ [] (Rd.empty (by omega) (by intro hh; first | omega | cases hh))).mono ?_; rintro e w3 ⟨rfl, rfl⟩; rw [tk_nil.1])
            go_ret3
            rw [HF.out.1, HF.out.2.1, HF.out.2.2]
            exact ⟨_, rfl, Oi.nil _ _, HX.out⟩
      · obtain rfl : j = M := by omega
        have hq := HP.out
        rw [Nat.sub_self, pre_end] at hq
        obtain ⟨e1, e2, e3⟩ := ti_is hq
        have HF := Lib.hid (And.intro e1 (And.intro e2 e3))
        clear e1 e2 e3 hq
        go_wp2_with fail
        go_ret3
        rw [HF.out.1, HF.out.2.1, HF.out.2.2]
        exact ⟨_, rfl, HO.out, HX.out⟩
  · obtain ⟨e1, e2, e3⟩ := ti_err hE
    rw [e1, e2, e3]
    have hz : ((tE bs : Nat) : Int) ≠ 0 := by omega
    clear e1 e2 e3 hE
    generalize hve : tE bs = E at hz ⊢
    have HE := Lib.hid hve
    clear hve
    go_enter Try.func41, Try.ntmps41
    go_wp2_with (go_at_call 39; refine (rtake_any _ _ _ bs HR.out).mono ?_; rintro e w1 ⟨rfl, rfl⟩; rw [HE.out])
    go_ret3
    exact ⟨_, rfl, Oi.nil _ _, Below.refl _ _⟩
theorem same_at {l m : List Int} (hl : l.length = m.length) (h : ∀ (t : Nat) (x : Int), t < l.length → l[t]? = some x → m[t]? = some x) : l = m := by
  apply List.ext_getElem?
  intro t
  rcases Nat.lt_or_ge t l.length with hlt | hge
  · have := h t _ hlt (List.getElem?_eq_getElem hlt)
    rw [this, List.getElem?_eq_getElem hlt]
  · rw [List.getElem?_eq_none hge, List.getElem?_eq_none (by omega)]
set_option maxRecDepth 100000 in
theorem same_any (A A' : Option Addr) (k cap k' cap' : Nat) (l m : List Int) (h : Li w A k cap l) (h' : Li w A' k' cap' m) :
    Calls Try.prog 16 #[.slice A k cap, .slice A' k' cap'] w fun e w' => e = .returned (.bool (decide (l = m))) ∧ Below w.heap.size w w' := by
  have hle := h.le
  have hmx := h.max
  have HL := Lib.hid h.len
  have hle' := h'.le
  have hmx' := h'.max
  have HL' := Lib.hid h'.len
  have HR := Lib.hid h
  have HR' := Lib.hid h'
  clear h h'
  by_cases hk : k = k'
  · subst hk
    go_enter Try.func16, Try.ntmps16
    go_wp2_with fail
    go_loopw [5] (fun i wr => ∃ j : Nat, j ≤ k ∧ i = .int .i64 j ∧ Hid (∀ (t : Nat) (x : Int), t < j → l[t]? = some x → m[t]? = some x) ∧ Hid (Below w.heap.size w wr)) (fun i _ => k - (intOf i).toNat)
    case atStart => exact ⟨0, Nat.zero_le _, rfl, fun t x ht => absurd ht (by omega), Below.refl _ _⟩
    case round =>
      obtain ⟨j, hj, rfl, HJ, HW⟩ := hrel
      by_cases hlt : j < k
      · obtain ⟨b, o, x, rfl, HX, hx1, hx2, hb, hcell⟩ := (HR.out.below HW.out (Nat.le_refl _)).intAt j hlt
        obtain ⟨b', o', x', rfl, HX', hx1', hx2', hb', hcell'⟩ := (HR'.out.below HW.out (Nat.le_refl _)).intAt j hlt
        have hji : (j : Int) < (k : Int) := by omega
        by_cases hxx : x = x'
        · subst hxx
          go_wp2_with fail
          go_quiet (fail)
          go_wp2_with fail
          go_roundw
          case rel =>
            refine ⟨j + 1, by omega, by go_num, ?_, below_drewN HW.out _⟩
            intro t y ht hy
            rcases Nat.lt_or_ge t j with h | h
            · exact HJ.out t y h hy
            · obtain rfl : t = j := by omega
              rw [HX.out] at hy
              rw [HX'.out]
              exact hy
          case measure => simp [intOf]; omega
        · have hq : (x != x') = true := by simp [hxx]
          have hq2 : (x == x') = false := by simp [hxx]
          go_wp2_with fail
          go_quiet (fail)
          go_wp2_with fail
          go_ret
          refine ⟨?_, below_drewN HW.out _⟩
          rw [decide_eq_false]
          · rfl
          · rintro rfl
            have h1 := HX.out
            rw [HX'.out] at h1
            injection h1 with h1
            exact hxx h1.symm
      · obtain rfl : j = k := by omega
        go_wp2_with fail
        go_ret
        refine ⟨?_, HW.out⟩
        rw [decide_eq_true (same_at (HL.out.trans HL'.out.symm) fun t x ht => HJ.out t x (by rw [HL.out] at ht; exact ht))]
        rfl
  · have hne : ((k : Int) == k') = false := by simp; omega
    have hne2 : ((k : Int) != k') = true := by simp; omega
    go_enter Try.func16, Try.ntmps16
    go_wp2_with fail
    go_ret
    refine ⟨?_, Below.refl _ _⟩
    rw [decide_eq_false]
    · rfl
    · rintro rfl
      exact hk (HL.out.symm.trans HL'.out)
end
end Go.Proofs.Ytnkjlocjfljjlaa
