/- InsnJoins' walk. Conditions: the tables lie in their blocks; the instructions can be read, at most 1048576 of each. -/
import Derived.Test.YtcedjjolikmbbaaDoorJLBytes
import Derived.Test.YtcedjjolikmbbaaDoorJApps
import Derived.Deep.CutRange
namespace Go.Proofs.YtcedjjolikmbbaaDoor
open Go.RowKit
set_option maxRecDepth 100000
set_option maxHeartbeats 2000000
section
variable {w : World}
theorem joins_walk (A : Option Addr) (k c : Nat) (B : Option Addr) (n d : Nat) (l m : List In) (x : Nat) (h : Ri w A k c l) (hk : k ≤ 1048576) (g : Ri w B n d m) (hn : n ≤ 1048576) (hx : x < 256) (T : Hid (Tabs w)) :
    Calls Tryd.prog 8 #[.slice A k c, .slice B n d, .int .u8 (x : Int)] w fun e w' => e = .returned (.bool true) ∧ Below w.heap.size w w' := by
  have hkl := h.len
  have hnl := g.len
  have BA := Lib.hid (fun W hb => bytes6_got h (by omega) W hb)
  have BB := Lib.hid (fun W hb => bytes6_got g (by omega) W hb)
  have BO := Lib.hid (fun W (hb : Below w.heap.size w W) => bytes6_any (w := W) _ _ _ _ (h.below hb (Nat.le_refl _)) (by omega))
  have HA := Lib.hid h
  have HB := Lib.hid g
  have HJ := Lib.hid (@joins l m h.ok g.ok)
  have HBY := Lib.hid (show Byt (byI l ++ byI m) by rw [← byI_app]; exact byI_byt (fun i hi => by
    rcases List.mem_append.1 hi with hi | hi
    · exact h.ok i hi
    · exact g.ok i hi))
  have HBL := Lib.hid (byI_byt h.ok)
  have HBM := Lib.hid (byI_byt g.ok)
  have HL1 := Lib.hid (show (byI l).length = 8 * k by rw [byI_len, hkl])
  have HL2 := Lib.hid (show (byI m).length = 8 * n by rw [byI_len, hnl])
  have HKL := Lib.hid (And.intro hkl hnl)
  clear h g hkl hnl
  obtain ⟨bl, hbl⟩ : ∃ bl, byI l = bl := ⟨_, rfl⟩
  obtain ⟨bm, hbm⟩ : ∃ bm, byI m = bm := ⟨_, rfl⟩
  rw [hbl] at BA BO HJ HBY HBL HL1
  rw [hbm] at BB HJ HBY HBM HL2
  clear hbl hbm
  have w8k : IntKind.i64.wrap (8 * (k : Int)) = 8 * (k : Int) := by rw [show 8 * (k : Int) = ((8 * k : Nat) : Int) by omega]; exact w64 _ (by omega)
  have w8n : IntKind.i64.wrap (8 * (n : Int)) = 8 * (n : Int) := by rw [show 8 * (n : Int) = ((8 * n : Nat) : Int) by omega]; exact w64 _ (by omega)
  have w8s : IntKind.i64.wrap (8 * (k : Int) + 8 * (n : Int)) = 8 * (k : Int) + 8 * (n : Int) := by rw [show 8 * (k : Int) + 8 * (n : Int) = ((8 * k + 8 * n : Nat) : Int) by omega]; exact w64 _ (by omega)
  go_enter Tryd.func8, Tryd.ntmps8
  go_wp2_with (go_at_call 10; (with_reducible refine (shown_any T).mono ?_); rintro e w1 ⟨rfl, hb1⟩; have X1 := Lib.hid hb1; clear hb1)
  go_wp2_with (go_at_call 20; (with_reducible refine (BO.out _ X1.out).mono ?_); rintro e w2 ⟨v2, rfl, ho2, hb2⟩; have O2 := Lib.hid ho2; have X2 := Lib.hid (X1.out.trans (hb2.mono X1.out.size)); clear hb2 ho2)
  go_wp2_with (first
    | (go_at_call 20; (with_reducible refine (BB.out _ X2.out).mono ?_); rintro e w3 ⟨A3, k3, c3, rfl, hr3, hb3⟩; have R3 := Lib.hid hr3; have X3 := Lib.hid (X2.out.trans (hb3.mono X2.out.size)); have O3 := Lib.hid (O2.out.less X1.out.size |>.keep hb3 (Nat.le_refl _)); clear hb3 hr3)
    | (at_builtin; refine wpList_app2 rfl _ _ 40 rfl w.heap.size _ bl rfl O3.out _ bm rfl (src_rd R3.out) (by have := HL1.out; have := HL2.out; omega) X3.out.size ?_; intro v4 w4 h6 h7 h8; obtain ⟨A4, k4, c4, rfl, hr4⟩ := h6.form HBY.out; obtain rfl : k4 = 8 * k + 8 * n := (by have h9 := hr4.len; rw [List.length_append, HL1.out, HL2.out] at h9; omega); have R4 := Lib.hid hr4; have X4 := Lib.hid (X3.out.trans (h8.mono (Nat.le_refl _))); clear h6 h7 h8 hr4))
  go_wp2_with (go_at_call 20; (with_reducible refine (BA.out _ X4.out).mono ?_); rintro e w5 ⟨A5, k5, c5, rfl, hr5, hb5⟩; have R5 := Lib.hid hr5; have X5 := Lib.hid (X4.out.trans (hb5.mono X4.out.size)); have T5 := Lib.hid (T.out.out X5.out); have S5 := Lib.hid (R4.out.below hb5 (Nat.le_refl _)); clear hb5 hr5 R4)
  obtain ⟨E1, hE1⟩ : ∃ E1, paE bl = E1 := ⟨_, rfl⟩
  obtain ⟨E2, hE2⟩ : ∃ E2, paE bm = E2 := ⟨_, rfl⟩
  obtain ⟨E3, hE3⟩ : ∃ E3, paE (bl ++ bm) = E3 := ⟨_, rfl⟩
  have HE1 := Lib.hid hE1
  have HE2 := Lib.hid hE2
  have HE3 := Lib.hid hE3
  clear hE1 hE2 hE3
  go_wp2_with (go_at_call 17; (with_reducible refine (parse6_any T5 _ _ _ _ R5.out).mono ?_); rintro e w6 ⟨v6, rfl, -, hb6⟩; rw [HE1.out]; have X6 := Lib.hid (X5.out.trans (hb6.mono X5.out.size)); have S6 := Lib.hid (S5.out.below hb6 (Nat.le_refl _)); clear hb6 S5)
  go_wp2_with (go_at_call 20; (with_reducible refine (BB.out _ X6.out).mono ?_); rintro e w7 ⟨A7, k7, c7, rfl, hr7, hb7⟩; have R7 := Lib.hid hr7; have X7 := Lib.hid (X6.out.trans (hb7.mono X6.out.size)); have T7 := Lib.hid (T.out.out X7.out); have S7' := Lib.hid (S6.out.below hb7 (Nat.le_refl _)); clear hb7 hr7 S6)
  go_wp2_with (go_at_call 17; (with_reducible refine (parse6_any T7 _ _ _ _ R7.out).mono ?_); rintro e w8 ⟨v8, rfl, -, hb8⟩; rw [HE2.out]; have X8 := Lib.hid (X7.out.trans (hb8.mono X7.out.size)); have T8 := Lib.hid (T.out.out X8.out); have S8 := Lib.hid (S7'.out.below hb8 (Nat.le_refl _)); clear hb8 S7')
  go_upto_region 8 with (go_at_call 17; (with_reducible refine (parse6_any T8 _ _ _ _ S8.out).mono ?_); rintro e w9 ⟨v9, rfl, ho9, hb9⟩; rw [HE3.out]; have O9 := Lib.hid ho9; have X9 := Lib.hid (X8.out.trans (hb9.mono X8.out.size)); have S9 := Lib.hid (S8.out.below hb9 (Nat.le_refl _)); clear hb9 ho9 S8)
  have wkn : IntKind.i64.wrap ((k : Int) + (n : Int)) = (k : Int) + (n : Int) := by rw [show (k : Int) + (n : Int) = ((k + n : Nat) : Int) by omega]; exact w64 _ (by omega)
  go_cut [77] from 50 to 76 (fun v wx => v = .bool false ∧ Hid (Below w9.heap.size w9 wx))
  case first =>
    clear w8k w8n w8s
    by_cases e1 : E1 = 0
    · by_cases e2 : E2 = 0
      · by_cases e3 : k + n ≤ 128
        · have e3' : (k : Int) + (n : Int) ≤ 128 := by omega
          obtain ⟨j1, j2⟩ := HJ.out (HE1.out.trans e1) (HE2.out.trans e2) (by rw [HKL.out.1, HKL.out.2]; exact e3)
          obtain rfl : E3 = 0 := HE3.out.symm.trans j1
          subst e1 e2
          have O9' := O9.out
          rw [j2] at O9'
          obtain ⟨A9, k9, c9, rfl, hr9⟩ := O9'.form (fun i hi => by
            rcases List.mem_append.1 hi with hi | hi
            · exact HA.out.ok i hi
            · exact HB.out.ok i hi)
          have R9 := Lib.hid hr9
          have Y9 := Lib.hid ((Below.refl w9.heap.size w9).alloc (Nat.le_refl _) (.cells #[] 24))
          have OZ := Lib.hid (or_zero (W := w9) (B := w9.heap.size) (Nat.le_refl _))
          have RA := Lib.hid (HA.out.below (X9.out.trans (Y9.out.mono X9.out.size)) (Nat.le_refl _))
          clear j1 j2 O9' hr9 O9
          go_wp2_with (first
            | (at_builtin; refine wpList_insapps rfl _ _ rfl w9.heap.size _ [] rfl OZ.out A k c l rfl RA.out (by simp; omega) (by simp) ?_; intro v10 w10 h6 h7; rw [List.nil_append] at h6; have O10 := Lib.hid h6; have Y10 := Lib.hid (Y9.out.trans h7); have RB := Lib.hid (HB.out.below (X9.out.trans (Y10.out.mono X9.out.size)) (Nat.le_refl _)); clear h6 h7)
            | (at_builtin; refine wpList_insapps rfl _ _ rfl w9.heap.size _ l rfl O10.out B n d m rfl RB.out (by rw [HKL.out.1]; omega) Y10.out.size ?_; intro v11 w11 h6 h7; have Y11 := Lib.hid (Y10.out.trans (h7.mono (Nat.le_refl _))); have S11 := Lib.hid (R9.out.below Y11.out (Nat.le_refl _)); obtain ⟨A11, k11, c11, rfl, hr11⟩ := h6.form (fun i hi => by
                rcases List.mem_append.1 hi with hi | hi
                · exact HA.out.ok i hi
                · exact HB.out.ok i hi); obtain rfl : k11 = k9 := hr11.len.symm.trans S11.out.len; have R11 := Lib.hid hr11; clear h6 h7 hr11)
            | (go_at_call 19; (with_reducible refine (same6_any _ _ _ _ _ _ S11.out R11.out).mono ?_); rintro e w12 ⟨rfl, hb12⟩; have Y12 := Lib.hid (Y11.out.trans (hb12.mono Y11.out.size)); clear hb12))
          go_meet
          exact ⟨rfl, Y12.out⟩
        · have e3' : ¬ (k : Int) + (n : Int) ≤ 128 := by omega
          subst e1 e2
          go_wp2_with fail
          go_meet
          exact ⟨rfl, Below.refl _ _⟩
      · have e2' : ((E2 : Int) == 0) = false := by simp; omega
        subst e1
        go_wp2_with fail
        go_meet
        exact ⟨rfl, Below.refl _ _⟩
    · have e1' : ((E1 : Int) == 0) = false := by simp; omega
      go_wp2_with fail
      go_meet
      exact ⟨rfl, Below.refl _ _⟩
  case rest =>
  obtain ⟨rfl, HC⟩ := hcut
  have XC := Lib.hid (X9.out.trans (HC.out.mono X9.out.size))
  have SC := Lib.hid (S9.out.below HC.out (Nat.le_refl _))
  have TC := Lib.hid (T.out.out XC.out)
  have HLN := Lib.hid (show (bl ++ bm).length = 8 * k + 8 * n by rw [List.length_append, HL1.out, HL2.out])
  have HN8 := Lib.hid (show (8 * k + 8 * n) % 8 = 0 by omega)
  have hNb : 8 * k + 8 * n ≤ 16777216 := by omega
  clear w8k w8n w8s wkn
  obtain ⟨N, hN⟩ : ∃ N, 8 * k + 8 * n = N := ⟨_, rfl⟩
  rw [hN] at SC HLN HN8 hNb ⊢
  clear hN S9
  by_cases hz : N = 0
  · subst hz
    go_wp2_with fail
    go_ret
    exact ⟨rfl, XC.out⟩
  · have hz' : ((N : Int) == 0) = false := by simp; omega
    have t8 : (x : Int).tmod 8 = ((x % 8 : Nat) : Int) := by rw [Int.tmod_eq_emod_of_nonneg (by omega)]; omega
    have hN8 : 8 ≤ N := by have := HN8.out; omega
    have hy8 : x % 8 < 8 := by omega
    obtain ⟨y, hy⟩ : ∃ y, x % 8 = y := ⟨_, rfl⟩
    rw [hy] at t8 hy8
    have wy := w8i y (by omega)
    have wy2 := w64 y (by omega)
    obtain ⟨b4, o4, rfl, -, -⟩ := SC.out.base (by omega)
    clear hy
    by_cases hy0 : y = 0
    · subst hy0
      go_wp2_with fail
      go_ret
      exact ⟨rfl, XC.out⟩
    · have hy0' : ((y : Int) == 0) = false := by simp; omega
      have ws : IntKind.i64.wrap ((N : Int) - (y : Int)) = ((N - y : Nat) : Int) := by rw [show (N : Int) - (y : Int) = ((N - y : Nat) : Int) by omega]; exact w64 _ (by omega)
      have hc4 := SC.out.le
      have hg1 : (0 : Int) ≤ ((N - y : Nat) : Int) := by omega
      have hg2 : ((N - y : Nat) : Int) ≤ (c4 : Int) := by omega
      have hg3 : N - y ≤ c4 := by omega
      have HR := Lib.hid (SC.out.upto (N - y) (by omega))
      have HP := Lib.hid (show paE ((bl ++ bm).take (N - y)) = 3 from paE_cut (by rw [List.length_take, HLN.out]; have := HN8.out; omega))
      obtain ⟨Z, hZ⟩ : ∃ Z, N - y = Z := ⟨_, rfl⟩
      rw [hZ] at ws hg1 hg2 hg3 HR HP
      clear hZ hz hy0
      go_wp2_with (go_at_call 17; (with_reducible refine (parse6_any TC _ _ _ _ HR.out).mono ?_); rintro e w13 ⟨v13, rfl, -, hb13⟩; rw [HP.out]; have X13 := Lib.hid (XC.out.trans (hb13.mono XC.out.size)); clear hb13)
      go_ret
      exact ⟨rfl, X13.out⟩
theorem joins_row (A : Option Addr) (k c : Nat) (B : Option Addr) (n d : Nat) (a2 : Int) (W : World) (h : (∃ l, Ri W A k c l) ∧ k ≤ 1048576) (g : (∃ l, Ri W B n d l) ∧ n ≤ 1048576) (hw : (Lit.int .u8 a2).wf = true) (T : Tabs W) : Calls Tryd.prog 8 #[.slice A k c, .slice B n d, .int .u8 a2] W fun e w' => e = .returned (.bool true) ∧ Below W.heap.size W w' := by
  obtain ⟨⟨l, hl⟩, hk⟩ := h
  obtain ⟨⟨m, hm⟩, hn⟩ := g
  obtain ⟨x, rfl, hx⟩ := u8_of hw
  exact joins_walk A k c B n d l m x hl hk hm hn hx (Lib.hid T)
end
end Go.Proofs.YtcedjjolikmbbaaDoor
