/- WireBack: the walk. Condition: the slices can be read; the bytes behind are no more than the form's reach. -/
import Derived.Test.YtipffbhaibamnaaWCuts
namespace Go.Proofs.Ytipffbhaibamnaa
open Go.RowKit
theorem back_t {n : Nat} (hn : n < 18446744073709551616) (r : List Nat) : tN (num n ++ r) = n ∧ tW (num n ++ r) = (num n).length ∧ tE (num n ++ r) = 0 := by
  unfold tN tW tE; rw [tk_num hn r]; exact ⟨rfl, rfl, rfl⟩
theorem back_x {s : List Nat} (h : nm s = true) (r : List Nat) : xV (txV s ++ r) = s ∧ xW (txV s ++ r) = (txV s).length ∧ xE (txV s ++ r) = 0 := by
  rw [(tx_yes h).2]
  obtain ⟨h1, h2, h3⟩ := x_back h r
  exact ⟨h2, h3, h1⟩
theorem back_i {l : List Int} (h : isE l = 0) (r : List Nat) : zs (iV (isV l ++ r)) = l ∧ iW (isV l ++ r) = (isV l).length ∧ iE (isV l ++ r) = 0 := by
  obtain ⟨h1, h2, h3⟩ := i_back h r
  refine ⟨?_, h3, h1⟩
  rw [h2]
  exact nats_back (isE_zero.1 h).2
theorem isV_off {l : List Int} (h : isE l ≠ 0) : isV l = [] := by
  unfold isV; rw [if_neg h]
theorem txV_len (s : List Nat) (h : nm s = true) : (txV s).length ≤ 100 := by
  rw [(tx_yes h).2, List.length_append]
  have := nm_len h
  have := num_ten (n := s.length) (by omega)
  omega
theorem isV_len (l : List Int) (h : isE l = 0) : (isV l).length ≤ 6000 := by
  obtain ⟨h1, h2⟩ := isE_zero.1 h
  unfold isV
  rw [if_pos h, List.length_append]
  have := num_ten (n := l.length) (by omega)
  have := flat_len (nats l) (nats_of h2)
  rw [nats_len] at this
  omega
theorem Ob.new0 (w : World) : Ob (w.alloc (.cells #[] 5)) w.heap.size (.slice (some ⟨w.heap.size, 0, none⟩) 0 0) [] := ⟨rfl, .inr ⟨w.heap.size, 0, _, rfl, Nat.le_refl _, heap_alloc_new w _, Nat.le_refl _, by decide, rfl, rfl⟩⟩
set_option maxHeartbeats 4000000 in
set_option maxRecDepth 100000 in
theorem back_walk (n0 : Int) (s : ByteArray) (A : Option Addr) (k cap : Nat) (A' : Option Addr) (k' cap' : Nat) (w : World) (h0 : (Lit.int .u64 n0).wf = true) (hs : s.size ≤ maxLen) (hA : ∃ l, Li w A k cap l) (hA' : (∃ r, Rd w A' k' cap' r) ∧ k' ≤ 140737488351232) :
    Calls Try.prog 6 #[.int .u64 n0, .string s, .slice A k cap, .slice A' k' cap'] w fun e w' => e = .returned (.bool true) ∧ Below w.heap.size w w' := by
  obtain ⟨n, rfl, hn⟩ := nat_of h0
  obtain ⟨l, hl⟩ := hA
  obtain ⟨⟨r, hr⟩, hbig⟩ := hA'
  unfold maxLen at hs
  have L0 := Lib.hid hl
  have R0 := Lib.hid hr
  have BR := Lib.hid hr.byt
  have LR := Lib.hid hr.len
  have BT := Lib.hid (txV_byt _ (ofS_byt s))
  have BI := Lib.hid (isV_byt l)
  have TN := Lib.hid (num_ten hn)
  have BK := Lib.hid (back_t hn r)
  have FL := Lib.hid hl.fit
  clear h0 hl hr
  rcases tx_cases (ofS s) with ⟨hb, hx⟩ | ⟨hb, hx⟩ <;> rcases isE_cases l with hi | hi | hi
  all_goals
    have HB := Lib.hid hb
    have XE := Lib.hid hx
    have IE := Lib.hid hi
    (try (have TX := Lib.hid (txV_len _ hb); have BX := Lib.hid (back_x hb r)))
    (try (have TI := Lib.hid (isV_len l hi); have BII := Lib.hid (back_i hi r)))
    (try (have IV := Lib.hid (isV_off (l := l) (by rw [hi]; decide))))
    clear hb hx hi
    go_enter Try.func6, Try.ntmps6
    go_wp2_with (go_at_call 10; refine (shown_any).mono ?_; rintro e w1 ⟨rfl, h1⟩; have W1 := Lib.hid h1; clear h1)
    go_wp2_with (first | (go_at_call 13; refine (number_any n hn).mono ?_; rintro e w2 ⟨v2, rfl, h1, h2⟩; obtain ⟨A2, k2, c2, rfl, h3⟩ := h1.form (num_byt _); have R2 := Lib.hid h3; have W2 := Lib.hid (W1.out.trans (h2.mono W1.out.size)); have L2 := Lib.hid h3.len; clear h1 h2 h3) | (at_builtin; refine wpList_app rfl (.tmp 29) (.tmp 30) 23 rfl w2.heap.size _ [] rfl (Ob.new0 w2) _ (num n) rfl (src_rd (R2.out.below ((Below.refl _ _).alloc (Nat.le_refl _) _) (Nat.le_refl _))) (by rw [List.length_nil]; have := TN.out; omega) (by simp) ?_; intro v23 w23 h1 h2; rw [List.nil_append] at h1; have O2 := Lib.hid h1; have V2 := Lib.hid (((Below.refl w2.heap.size w2).alloc (Nat.le_refl _) _).trans h2); have U2 := Lib.hid (W2.out.trans (V2.out.mono W2.out.size)); clear h1 h2) | (at_builtin; refine wpList_app rfl (.tmp 31) (.tmp 32) 23 rfl w2.heap.size _ (num n) rfl O2.out _ r rfl (src_rd (R0.out.below U2.out (Nat.le_refl _))) (by have := TN.out; have := LR.out; omega) V2.out.size ?_; intro v24 w24 h1 h2; obtain ⟨A24, k24, c24, rfl, h3⟩ := h1.form (byt_app (num_byt _) BR.out); have Q2 := Lib.hid h3; have Z2 := Lib.hid (U2.out.trans (h2.mono W2.out.size)); clear h1 h2 h3) | (go_at_call 11; refine (take_any _ _ _ _ Q2.out).mono ?_; rintro e w4 ⟨rfl, rfl⟩; rw [BK.out.1, BK.out.2.1, BK.out.2.2, L2.out]))
    go_wp2_with (first | (go_at_call 15; refine (text_any s hs).mono ?_; rintro e w5 ⟨v5, rfl, h1, h2⟩; obtain ⟨A5, k5, c5, rfl, h3⟩ := h1.form BT.out; rw [XE.out]; have R5 := Lib.hid h3; have W5 := Lib.hid (Z2.out.trans (h2.mono Z2.out.size)); have Z5 := W5; have L5 := Lib.hid h3.len; clear h1 h2 h3) | (at_builtin; refine wpList_app rfl (.tmp 59) (.tmp 60) 23 rfl w5.heap.size _ [] rfl (Ob.new0 w5) _ (txV (ofS s)) rfl (src_rd (R5.out.below ((Below.refl _ _).alloc (Nat.le_refl _) _) (Nat.le_refl _))) (by rw [List.length_nil]; have := TX.out; omega) (by simp) ?_; intro v53 w53 h1 h2; rw [List.nil_append] at h1; have O5 := Lib.hid h1; have V5 := Lib.hid (((Below.refl w5.heap.size w5).alloc (Nat.le_refl _) _).trans h2); have U5 := Lib.hid (W5.out.trans (V5.out.mono W5.out.size)); clear h1 h2) | (at_builtin; refine wpList_app rfl (.tmp 61) (.tmp 62) 23 rfl w5.heap.size _ (txV (ofS s)) rfl O5.out _ r rfl (src_rd (R0.out.below U5.out (Nat.le_refl _))) (by have := TX.out; have := LR.out; omega) V5.out.size ?_; intro v54 w54 h1 h2; obtain ⟨A54, k54, c54, rfl, h3⟩ := h1.form (byt_app BT.out BR.out); have Q5 := Lib.hid h3; have Z5 := Lib.hid (U5.out.trans (h2.mono W5.out.size)); clear h1 h2 h3) | (go_at_call 17; refine (takeText_any _ _ _ _ Q5.out).mono ?_; rintro e w7 ⟨rfl, h2⟩; rw [BX.out.1, BX.out.2.1, BX.out.2.2, L5.out, sb_ofS]; replace Z5 := Lib.hid (Z5.out.trans (h2.mono Z5.out.size)); clear h2))
    go_wp2_with (first | (go_at_call 19; refine (ints_any _ _ _ l (L0.out.below Z5.out (Nat.le_refl _))).mono ?_; rintro e w8 ⟨v8, rfl, h1, h2⟩; obtain ⟨A8, k8, c8, rfl, h3⟩ := h1.form BI.out; rw [IE.out]; have R8 := Lib.hid h3; have W8 := Lib.hid (Z5.out.trans (h2.mono Z5.out.size)); have Z8 := W8; have L8 := Lib.hid h3.len; (try (have hiv := IV.out; obtain rfl : k8 = 0 := by { rw [← L8.out, hiv]; rfl })); clear h1 h2 h3) | (at_builtin; refine wpList_app rfl (.tmp 95) (.tmp 96) 23 rfl w8.heap.size _ [] rfl (Ob.new0 w8) _ (isV l) rfl (src_rd (R8.out.below ((Below.refl _ _).alloc (Nat.le_refl _) _) (Nat.le_refl _))) (by rw [List.length_nil]; have := TI.out; omega) (by simp) ?_; intro v83 w83 h1 h2; rw [List.nil_append] at h1; have O8 := Lib.hid h1; have V8 := Lib.hid (((Below.refl w8.heap.size w8).alloc (Nat.le_refl _) _).trans h2); have U8 := Lib.hid (W8.out.trans (V8.out.mono W8.out.size)); clear h1 h2) | (at_builtin; refine wpList_app rfl (.tmp 97) (.tmp 98) 23 rfl w8.heap.size _ (isV l) rfl O8.out _ r rfl (src_rd (R0.out.below U8.out (Nat.le_refl _))) (by have := TI.out; have := LR.out; omega) V8.out.size ?_; intro v84 w84 h1 h2; obtain ⟨A84, k84, c84, rfl, h3⟩ := h1.form (byt_app BI.out BR.out); have Q8 := Lib.hid h3; have Z8 := Lib.hid (U8.out.trans (h2.mono W8.out.size)); clear h1 h2 h3) | (go_at_call 21; refine (takeInts_any _ _ _ _ Q8.out).mono ?_; rintro e w9 ⟨v9, rfl, h1, h2⟩; rw [BII.out.2.1, BII.out.2.2, L8.out]; rw [BII.out.1] at h1; obtain ⟨A9, k9, c9, rfl, h3⟩ := h1.form FL.out; have L9 := Lib.hid h3; replace Z8 := Lib.hid (Z8.out.trans (h2.mono Z8.out.size)); clear h1 h2 h3) | (go_at_call 23; refine (same_any _ _ _ _ _ _ _ _ L9.out (L0.out.below Z8.out (Nat.le_refl _))).mono ?_; rintro e w10 ⟨rfl, h2⟩; rw [decide_eq_true rfl]; replace Z8 := Lib.hid (Z8.out.trans (h2.mono Z8.out.size)); clear h2))
    go_ret
    exact ⟨rfl, Z8.out⟩
end Go.Proofs.Ytipffbhaibamnaa
