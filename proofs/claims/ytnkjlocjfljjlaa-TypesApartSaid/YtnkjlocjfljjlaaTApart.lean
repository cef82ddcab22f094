/- TypesApart: the walk. Condition: the argument can be read. -/
import Derived.Test.YtnkjlocjfljjlaaTChecks
namespace Go.Proofs.Ytnkjlocjfljjlaa
open Go.RowKit
set_option maxRecDepth 100000
set_option maxHeartbeats 4000000
theorem szs_eight : ∀ l : List Fd, szs l % 8 = 0
  | [] => rfl
  | f :: r => by
    have h1 := szs_eight r
    have h2 := fsz_eight f
    simp only [szs]
    omega
theorem apart_walk (A : Option Addr) (n cap : Nat) (w : World) (h : ∃ ts, Lt w A n cap ts) :
    Calls Try.prog 8 #[.slice A n cap] w fun e w' => e = .returned (.bool true) ∧ Below w.heap.size w w' := by
  obtain ⟨ts, h⟩ := h
  have hle := h.le
  have hmx := h.max
  have HN := Lib.hid h.len
  have H := Lib.hid h
  clear h
  obtain ⟨q, hq⟩ : ∃ q, ckE ts = q := ⟨_, rfl⟩
  have HQ := Lib.hid hq
  by_cases hq0 : q = 0
  case neg =>
    have hqn : ((q : Int) != 0) = true := by simpa using hq0
    clear hq
    go_enter Try.func8, Try.ntmps8
    go_wp2_with (go_at_call 11; refine (shown_any).mono ?_; rintro e w1 ⟨rfl, h1⟩; have W1 := Lib.hid h1; clear h1)
    go_wp2_with (go_at_call 12; refine (check_any _ n cap ts (H.out.below W1.out (Nat.le_refl _))).mono ?_; rintro e w2 ⟨rfl, h2⟩; rw [HQ.out]; have W2 := Lib.hid (W1.out.trans (h2.mono W1.out.size)); clear h2)
    go_ret
    exact ⟨rfl, W2.out⟩
  subst hq0
  have HZ := Lib.hid (ck_zero hq)
  clear hq
  go_enter Try.func8, Try.ntmps8
  go_wp2_with (go_at_call 11; refine (shown_any).mono ?_; rintro e w1 ⟨rfl, h1⟩; have W1 := Lib.hid h1; clear h1)
  go_wp2_with (go_at_call 12; refine (check_any _ n cap ts (H.out.below W1.out (Nat.le_refl _))).mono ?_; rintro e w2 ⟨rfl, h2⟩; rw [HQ.out]; have W2 := Lib.hid (W1.out.trans (h2.mono W1.out.size)); clear h2)
  go_loopw [6] (fun i wr => ∃ j : Nat, j ≤ n ∧ i = .int .i64 j ∧ Hid (Below w.heap.size w wr)) (fun i _ => n - (intOf i).toNat)
  case atStart => exact ⟨0, Nat.zero_le _, rfl, W2.out⟩
  case round =>
    clear W1 W2
    obtain ⟨j, hj, rfl, HW⟩ := hrel
    have hws := HW.out.size
    by_cases hlt : j < n
    · obtain ⟨b, o, t, FA, fk, fc, rfl, hu, hnm, hb, c0, c1, c2, c3, hf⟩ := H.out.at j hlt
      have hji : (j : Int) < (n : Int) := by omega
      have HT := Lib.hid (tyE_zero (tpE_zero (HZ.out.2.1 j (by rw [HN.out]; exact hlt)) hu.out).2.2)
      obtain ⟨tn, tv, tr, fs⟩ := t
      simp only at c0 c1 c2 hf HT
      replace c0 := (HW.out.cell (p := ⟨b, o + j * 4, none⟩) hb).trans c0
      replace c1 := (HW.out.cell (p := ⟨b, o + j * 4 + 1, none⟩) hb).trans c1
      replace c2 := (HW.out.cell (p := ⟨b, o + j * 4 + 2, none⟩) hb).trans c2
      have C3 := Lib.hid c3
      replace c3 := (HW.out.cell (p := ⟨b, o + j * 4 + 3, none⟩) hb).trans c3
      have hfl := hf.out.le
      have hfm := hf.out.max
      have FL := Lib.hid hf.out.len
      have HLE := Lib.hid HT.out.2.2.2.2
      have HLZ := Lib.hid (laE_zero HLE.out)
      have HLV := Lib.hid (show laV fs = offs 8 fs by unfold laV; rw [if_pos HLE.out])
      obtain ⟨S, hS⟩ : ∃ S, szs fs = S := ⟨_, rfl⟩
      have hS1 : 8 + S ≤ 256 := by rw [← hS]; exact HLZ.out.2.2
      have hS0 : 0 ≤ S := by rw [← hS]; exact (szs_le fs).1
      have HLN := Lib.hid (show laN fs = 8 + S by unfold laN; rw [if_pos HLE.out, hS])
      have HS := Lib.hid hS
      have hfk : fk ≤ 12 := by rw [← FL.out]; exact HLZ.out.1
      clear hS hnm
      go_wp2_with (go_at_call 14; refine (layout_any tn tv tr FA fk fc fs (hf.out.below HW.out (Nat.le_refl _))).mono ?_; rintro e w3 ⟨v3, rfl, o3, h3⟩; rw [HLE.out, HLN.out]; rw [HLV.out] at o3; obtain ⟨A3, k3, cp3, rfl, l3⟩ := o3.form (HLV.out ▸ laV_fit fs); have hk3 : fk = k3 := (by rw [← l3.len, offs_len, FL.out]); have LL := Lib.hid (hk3 ▸ l3); have hcl := l3.le; have hcm := l3.max; have W3 := Lib.hid (HW.out.trans (h3.mono hws)); have g3 := (W3.out.cell (p := ⟨b, o + j * 4 + 3, none⟩) hb).trans C3.out; clear o3 h3 l3; subst hk3)
      go_loopw [10, 11] (fun a k wr => ∃ (p : Nat) (P : Int), p ≤ fk ∧ k = .int .i64 p ∧ a = .int .i64 (8 + P) ∧ Hid (szs (fs.take p) = P) ∧ Hid (Li wr A3 fk cp3 (offs 8 fs)) ∧ Hid (Below w.heap.size w wr)) (fun _ k _ => fk - (intOf k).toNat)
      case atStart => exact ⟨0, 0, Nat.zero_le _, rfl, rfl, rfl, LL.out, W3.out⟩
      case round =>
        clear HW hws LL W3 g3 c0 c1 c2 c3
        obtain ⟨p, P, hp, rfl, rfl, HP, HL, HW⟩ := hrel
        have hP0 : 0 ≤ P := by rw [← HP.out]; exact (szs_le _).1
        have hP1 : P ≤ 1600 := by
          have := (szs_le (fs.take p)).2
          rw [HP.out, List.length_take] at this
          omega
        by_cases hlp : p < fk
        · have hpi : (p : Int) < (fk : Int) := by omega
          have hp8 : P % 8 = 0 := by rw [← HP.out]; exact szs_eight _
          have ht8 : (8 + P).tmod 8 = 0 := by rw [Int.tmod_eq_emod_of_nonneg (by omega)]; omega
          obtain ⟨gb, go, x, rfl, hx, _, _, hgb, hcx⟩ := HL.out.intAt p hlp
          have hxe : x = 8 + P := by
            have := offs_at fs 8 p (by rw [FL.out]; exact hlp)
            rw [HP.out] at this
            exact Option.some.inj (hx.out.symm.trans this)
          subst hxe
          obtain ⟨f, hfp⟩ : ∃ f, fs[p]? = some f := ⟨fs[p]'(by rw [FL.out]; exact hlp), List.getElem?_eq_getElem _⟩
          obtain ⟨z, hz⟩ : ∃ z, fsz f = z := ⟨_, rfl⟩
          have hz0 : 0 < z := by
            have h1 := HLZ.out.2.1 f (List.mem_of_getElem? hfp)
            have h2 := (fsz_le f).1
            omega
          have hz1 : z ≤ 128 := by rw [← hz]; exact (fsz_le f).2
          have HP2 := Lib.hid (show szs (fs.take (p + 1)) = P + z by rw [szs_take hfp, HP.out, hz])
          clear hz hfp hx hp8
          by_cases hlq : p + 1 < fk
          · have hqi : (p : Int) + 1 < (fk : Int) := by omega
            obtain ⟨y, hy, _, _, hcy⟩ := HL.out.at (p + 1) hlq
            have hye : y = 8 + (P + z) := by
              have := offs_at fs 8 (p + 1) (by rw [FL.out]; exact hlq)
              rw [HP2.out] at this
              exact Option.some.inj (hy.out.symm.trans this)
            subst hye
            clear hy
            go_wp2_with fail
            go_roundw
            case rel => exact ⟨p + 1, P + z, by omega, by go_num, rfl, HP2.out, HL.out, HW.out⟩
            case measure => simp [intOf]; omega
          · obtain rfl : fk = p + 1 := by omega
            have hSP : S = P + z := by
              rw [← HS.out, ← HP2.out, List.take_of_length_le (Nat.le_of_eq FL.out)]
            subst hSP
            go_wp2_with fail
            go_roundw
            case rel => exact ⟨p + 1, P + z, by omega, by go_num, rfl, HP2.out, HL.out, HW.out⟩
            case measure => simp [intOf]
        · obtain rfl : p = fk := by omega
          have hSP : S = P := by rw [← HS.out, ← HP.out, List.take_of_length_le (Nat.le_of_eq FL.out)]
          subst hSP
          go_wp2_with fail
          go_roundw
          case rel => exact ⟨j + 1, by omega, by go_num, HW.out⟩
          case measure => simp [intOf]; omega
    · obtain rfl : j = n := by omega
      go_wp2_with fail
      go_ret
      exact ⟨rfl, HW.out⟩
end Go.Proofs.Ytnkjlocjfljjlaa
