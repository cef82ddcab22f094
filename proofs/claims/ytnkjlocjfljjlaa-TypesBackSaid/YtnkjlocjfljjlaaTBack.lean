/- TypesBack: the walk. Condition: the arguments can be read, within the form's own reach. -/
import Derived.Test.YtnkjlocjfljjlaaTParse
import Derived.Test.YtnkjlocjfljjlaaTSame
import Derived.Test.YtnkjlocjfljjlaaTBytesL
import Derived.Deep.RegionHeld
import Derived.Deep.QuietTactic
import Derived.BigQuiet
import Derived.SizedLaws
namespace Go.Proofs.Ytnkjlocjfljjlaa
open Go.RowKit Go.Deep
set_option maxRecDepth 100000
set_option maxHeartbeats 4000000
theorem Ob.new0 (w : World) : Ob (w.alloc (.cells #[] 5)) w.heap.size (.slice (some ⟨w.heap.size, 0, none⟩) 0 0) [] := ⟨rfl, .inr ⟨w.heap.size, 0, _, rfl, Nat.le_refl _, heap_alloc_new w _, Nat.le_refl _, by decide, rfl, rfl⟩⟩
theorem bytes1 : Try.prog.bytesOf 5 = 1 := by kernel_rfl
theorem rest_of {H : Type} {enc : TypeId × Value → H} {W : World} {base : Nat} {sp : Nat → Bool} {held : Bool} {fuel : Nat} {A : Option Addr} {len cap : Nat} {d : DataW H} {ps : List MemPlace}
    (h : DataW.trod enc Try.prog W base sp held fuel 40 (Value.cells (.slice A len cap)).toList = some (d, ps))
    (hw : ∀ elems spare, d = .slice elems spare → (elems.length + spare.length) * Try.prog.bytesOf 5 ≤ reachBytes) : (∃ bs, Rd W A len cap bs) ∧ len ≤ 140737488351232 := by
  refine ⟨bytes_of h, ?_⟩
  rcases open_slice Try.underlying40 h with ⟨h0, _⟩ | ⟨a, l, c, m, n, D, Pl, hcs, _, hl, hm, hmm, hx, _⟩
  · simp [Value.cells] at h0
    omega
  · simp [Value.cells] at hcs
    obtain ⟨rfl, rfl, rfl⟩ := hcs
    injection hx with hx _
    have := hw _ _ hx
    rw [bytes1] at this
    simp [reachBytes] at this
    omega
theorem byV_len {ts : List Ty} (h : ckE ts = 0) : (byV ts).length ≤ 10410 := by
  have h1 := ck_zero h
  have h2 := encs_len ts fun t ht => by
    obtain ⟨i, hi⟩ := List.mem_iff_getElem?.1 ht
    exact (tyE_zero (tpE_zero (h1.2.1 i (List.getElem?_eq_some_iff.1 hi).1) hi).2.2).1
  have h3 := num_ten (show ts.length < 18446744073709551616 by omega)
  have h4 := h1.1
  unfold byV
  rw [if_pos h, List.length_append]
  omega
theorem back_walk (A : Option Addr) (n cap : Nat) (A1 : Option Addr) (k1 c1 : Nat) (A2 : Option Addr) (k2 c2 : Nat) (w : World) (h : ∃ ts, Lt w A n cap ts) (h1 : (∃ r, Rd w A1 k1 c1 r) ∧ k1 ≤ 140737488351232) (h2 : ∃ bb, Rd w A2 k2 c2 bb) :
    Calls Try.prog 7 #[.slice A n cap, .slice A1 k1 c1, .slice A2 k2 c2] w fun e w' => e = .returned (.bool true) ∧ Below w.heap.size w w' := by
  obtain ⟨ts, h⟩ := h
  obtain ⟨⟨r, hr⟩, hbig⟩ := h1
  obtain ⟨bb, hb⟩ := h2
  have H := Lib.hid h
  have RR := Lib.hid hr
  have HLR := Lib.hid hr.len
  have RB := Lib.hid hb
  have HLB := Lib.hid hb.len
  have HBB := Lib.hid hb.byt
  have hle2 := hb.le
  have hmx2 := hb.max
  clear h hr hb
  obtain ⟨q, hq⟩ : ∃ q, ckE ts = q := ⟨_, rfl⟩
  have HQ := Lib.hid hq
  by_cases hq0 : q = 0
  case neg =>
    have hqn : ((q : Int) == 0) = false := by simpa using hq0
    clear hq
    go_enter Try.func7, Try.ntmps7
    go_wp2_with (go_at_call 11; refine (shown_any).mono ?_; rintro e w1 ⟨rfl, h1⟩; have W1 := Lib.hid h1; clear h1)
    go_wp2_with (go_at_call 17; refine (bytes5_any _ n cap ts (H.out.below W1.out (Nat.le_refl _))).mono ?_; rintro e w2 ⟨v2, rfl, o2, h2⟩; rw [HQ.out]; have W2 := Lib.hid (W1.out.trans (h2.mono W1.out.size)); clear h2 o2)
    go_wp2_with (go_at_call 12; refine (check_any _ n cap ts (H.out.below W2.out (Nat.le_refl _))).mono ?_; rintro e w3 ⟨rfl, h3⟩; rw [HQ.out]; have Z := Lib.hid (W2.out.trans (h3.mono W2.out.size)); clear h3)
    obtain ⟨qb, hqb⟩ : ∃ qb, paE bb = qb := ⟨_, rfl⟩
    have HQB := Lib.hid hqb
    by_cases hb0 : qb = 0
    case neg =>
      have HN := Lib.hid (pa_no hqb hb0)
      have hbn : ((qb : Int) != 0) = true := by simpa using hb0
      clear hqb
      go_wp2_with (go_at_call 19; refine (parse_any _ _ _ bb (RB.out.below Z.out (Nat.le_refl _))).mono ?_; rintro e w8 ⟨A8, k8, c8, rfl, lt8, h8⟩; rw [HQB.out, HN.out.2]; rw [HN.out.1] at lt8; have hk8 := lt8.len; simp at hk8; subst hk8; have X8 := Lib.hid (Z.out.trans (h8.mono Z.out.size)); clear h8 lt8)
      go_ret
      exact ⟨by simp, X8.out⟩
    subst hb0
    obtain ⟨g1, g2, g3⟩ := pa_again HBB.out hqb
    have G1 := Lib.hid g1
    have G3 := Lib.hid g3
    obtain ⟨W, hW⟩ : ∃ W, paW bb = W := ⟨_, rfl⟩
    rw [hW] at G3 g2
    have HWW := Lib.hid hW
    rw [HLB.out] at g2
    have hi1 : (0 : Int) ≤ (W : Int) := by omega
    have hi2 : (W : Int) ≤ (k2 : Int) := by omega
    have hi3 : (W : Int) ≤ (c2 : Int) := by omega
    clear hqb g1 g3 hW
    go_wp2_with (go_at_call 19; refine (parse_any _ _ _ bb (RB.out.below Z.out (Nat.le_refl _))).mono ?_; rintro e w8 ⟨A8, k8, c8, rfl, lt8, h8⟩; rw [HQB.out, HWW.out]; have LT8 := Lib.hid lt8; have X8 := Lib.hid (Z.out.trans (h8.mono Z.out.size)); clear h8 lt8)
    go_wp2_with (go_at_call 17; refine (bytes5_any _ _ _ _ LT8.out).mono ?_; rintro e w9 ⟨v9, rfl, o9, h9⟩; rw [G1.out]; obtain ⟨A9, k9, c9, rfl, r9⟩ := o9.form (byV_byt _); rw [G3.out] at r9; have R9 := Lib.hid r9; have X9 := Lib.hid (X8.out.trans (h9.mono X8.out.size)); clear h9 o9 r9)
    have Y9 := Lib.hid X9.out.drew
    have C9 := Lib.hid (run_strA (R9.out.below (show Below w9.heap.size w9 w9.drew from (Below.refl _ _).drew) (Nat.le_refl _)))
    have D9 := Lib.hid (run_strA ((RB.out.upto W (by omega)).below Y9.out (Nat.le_refl _)))
    go_region_held (fun w' => Hid (Below w.heap.size w w') ∧ (convert 40 9 (.slice A9 k9 c9)).run Try.prog w' = .ok (.string (sb (bb.take W))) w' ∧ (convert 40 9 (.slice A2 W c2)).run Try.prog w' = .ok (.string (sb (bb.take W))) w') (first | exact ⟨Y9, C9.out, D9.out⟩) (first | fail)
    go_wp2_with fail
    go_ret
    exact ⟨by simp, Y9.out⟩
  subst hq0
  have HLV := Lib.hid (byV_len hq)
  have HPB := Lib.hid (pa_back hq r)
  clear hq
  go_enter Try.func7, Try.ntmps7
  go_wp2_with (go_at_call 11; refine (shown_any).mono ?_; rintro e w1 ⟨rfl, h1⟩; have W1 := Lib.hid h1; clear h1)
  go_wp2_with (go_at_call 17; refine (bytes5_any _ n cap ts (H.out.below W1.out (Nat.le_refl _))).mono ?_; rintro e w2 ⟨v2, rfl, o2, h2⟩; rw [HQ.out]; obtain ⟨A4, k4, c4, rfl, r4⟩ := o2.form (byV_byt ts); have R2 := Lib.hid r4; have L4 := Lib.hid r4.len; have W2 := Lib.hid (W1.out.trans (h2.mono W1.out.size)); clear h2 o2 r4)
  go_wp2_with (first
    | (go_at_call 12; refine (check_any _ n cap ts (H.out.below W2.out (Nat.le_refl _))).mono ?_; rintro e w3 ⟨rfl, h3⟩; rw [HQ.out]; have W3 := Lib.hid (W2.out.trans (h3.mono W2.out.size)); have R3 := Lib.hid (R2.out.below h3 (Nat.le_refl _)); clear h3)
    | (at_builtin; refine wpList_app rfl (.tmp 37) (.tmp 38) 40 rfl w3.heap.size _ [] rfl (Ob.new0 w3) _ (byV ts) rfl (src_rd (R3.out.below ((Below.refl _ _).alloc (Nat.le_refl _) _) (Nat.le_refl _))) (by rw [List.length_nil]; have := HLV.out; omega) (by simp) ?_; intro v4 w4 h1 h2; rw [List.nil_append] at h1; have O4 := Lib.hid h1; have V4 := Lib.hid (((Below.refl w3.heap.size w3).alloc (Nat.le_refl _) _).trans h2); have U4 := Lib.hid (W3.out.trans (V4.out.mono W3.out.size)); clear h1 h2)
    | (at_builtin; refine wpList_app rfl (.tmp 39) (.tmp 40) 40 rfl w3.heap.size _ (byV ts) rfl O4.out _ r rfl (src_rd (RR.out.below U4.out (Nat.le_refl _))) (by have := HLV.out; rw [HLR.out]; omega) V4.out.size ?_; intro v5 w5 h1 h2; obtain ⟨A5, k5, c5, rfl, r5⟩ := h1.form (byt_app (byV_byt ts) RR.out.byt); have R5 := Lib.hid r5; have U5 := Lib.hid (U4.out.trans (h2.mono W3.out.size)); clear h1 h2 r5)
    | (go_at_call 19; refine (parse_any _ _ _ _ R5.out).mono ?_; rintro e w6 ⟨A6, k6, c6, rfl, lt6, h6⟩; rw [HPB.out.1, HPB.out.2.2]; rw [HPB.out.2.1] at lt6; have LT6 := Lib.hid lt6; have U6 := Lib.hid (U5.out.trans (h6.mono U5.out.size)); rw [L4.out]; clear h6 lt6))
  go_wp2_with (go_at_call 21; refine (same5_any _ _ _ _ _ _ ts LT6.out (H.out.below U6.out (Nat.le_refl _))).mono ?_; rintro e w7 ⟨rfl, h7⟩; have Z := Lib.hid (U6.out.trans (h7.mono U6.out.size)); clear h7)
  obtain ⟨qb, hqb⟩ : ∃ qb, paE bb = qb := ⟨_, rfl⟩
  have HQB := Lib.hid hqb
  by_cases hb0 : qb = 0
  case neg =>
    have HN := Lib.hid (pa_no hqb hb0)
    have hbn : ((qb : Int) != 0) = true := by simpa using hb0
    clear hqb
    go_wp2_with (go_at_call 19; refine (parse_any _ _ _ bb (RB.out.below Z.out (Nat.le_refl _))).mono ?_; rintro e w8 ⟨A8, k8, c8, rfl, lt8, h8⟩; rw [HQB.out, HN.out.2]; rw [HN.out.1] at lt8; have hk8 := lt8.len; simp at hk8; subst hk8; have X8 := Lib.hid (Z.out.trans (h8.mono Z.out.size)); clear h8 lt8)
    go_ret
    exact ⟨by simp, X8.out⟩
  subst hb0
  obtain ⟨g1, g2, g3⟩ := pa_again HBB.out hqb
  have G1 := Lib.hid g1
  have G3 := Lib.hid g3
  obtain ⟨W, hW⟩ : ∃ W, paW bb = W := ⟨_, rfl⟩
  rw [hW] at G3 g2
  have HWW := Lib.hid hW
  rw [HLB.out] at g2
  have hi1 : (0 : Int) ≤ (W : Int) := by omega
  have hi2 : (W : Int) ≤ (k2 : Int) := by omega
  have hi3 : (W : Int) ≤ (c2 : Int) := by omega
  clear hqb g1 g3 hW
  go_wp2_with (go_at_call 19; refine (parse_any _ _ _ bb (RB.out.below Z.out (Nat.le_refl _))).mono ?_; rintro e w8 ⟨A8, k8, c8, rfl, lt8, h8⟩; rw [HQB.out, HWW.out]; have LT8 := Lib.hid lt8; have X8 := Lib.hid (Z.out.trans (h8.mono Z.out.size)); clear h8 lt8)
  go_wp2_with (go_at_call 17; refine (bytes5_any _ _ _ _ LT8.out).mono ?_; rintro e w9 ⟨v9, rfl, o9, h9⟩; rw [G1.out]; obtain ⟨A9, k9, c9, rfl, r9⟩ := o9.form (byV_byt _); rw [G3.out] at r9; have R9 := Lib.hid r9; have X9 := Lib.hid (X8.out.trans (h9.mono X8.out.size)); clear h9 o9 r9)
  have Y9 := Lib.hid X9.out.drew
  have C9 := Lib.hid (run_strA (R9.out.below (show Below w9.heap.size w9 w9.drew from (Below.refl _ _).drew) (Nat.le_refl _)))
  have D9 := Lib.hid (run_strA ((RB.out.upto W (by omega)).below Y9.out (Nat.le_refl _)))
  go_region_held (fun w' => Hid (Below w.heap.size w w') ∧ (convert 40 9 (.slice A9 k9 c9)).run Try.prog w' = .ok (.string (sb (bb.take W))) w' ∧ (convert 40 9 (.slice A2 W c2)).run Try.prog w' = .ok (.string (sb (bb.take W))) w') (first | exact ⟨Y9, C9.out, D9.out⟩) (first | fail)
  go_wp2_with fail
  go_ret
  exact ⟨by simp, Y9.out⟩
end Go.Proofs.Ytnkjlocjfljjlaa
