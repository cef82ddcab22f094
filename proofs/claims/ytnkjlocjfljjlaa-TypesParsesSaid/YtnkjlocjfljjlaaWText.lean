/- The contracts of Text and TakeText, wire's and the document's. Condition: the slice can be read. -/
import Derived.Test.YtnkjlocjfljjlaaWName
import Derived.Test.YtnkjlocjfljjlaaWRTake
namespace Go.Proofs.Ytnkjlocjfljjlaa
open Go.RowKit

theorem src_s (w : World) (s : ByteArray) : Src Try.prog 1 9 (.string s) (ofS s).length (bc (ofS s)) w := by
  have := src_str w (ofS_byt s)
  rw [sb_ofS] at this
  exact this
theorem Rd.sub {w : World} {b o k cap : Nat} {bs : List Nat} (h : Rd w (some ⟨b, o, none⟩) k cap bs) (W n : Nat) (hn : W + n ≤ k) : Rd w (some ⟨b, o + W, none⟩) n (cap - W) ((bs.drop W).take n) := by
  have hl := h.len
  have hle := h.le
  have hmx := h.max
  refine ⟨fun i y hi => ?_, by simp; omega, by omega, by omega, fun e => by cases e⟩
  have hin : i < n := by
    rcases Nat.lt_or_ge i n with hlt | hge
    · exact hlt
    · rw [List.getElem?_eq_none (by simp; omega)] at hi; cases hi
  rw [List.getElem?_take, if_pos hin, List.getElem?_drop] at hi
  obtain ⟨b', o', e, h1, h2, h3⟩ := h.cells (W + i) y hi
  injection e with e
  injection e with e1 e2
  subst e1
  subst e2
  exact ⟨b, o + W, rfl, h1, by rw [Nat.add_assoc]; exact h2, h3⟩

theorem x_err1 {bs : List Nat} (h : tE bs ≠ 0) : xV bs = [] ∧ xW bs = 0 ∧ xE bs = tE bs := by
  have e : xE bs = tE bs := by unfold xE; rw [if_pos h]
  exact ⟨by unfold xV; rw [if_neg (by rw [e]; exact h)], by unfold xW; rw [if_neg (by rw [e]; exact h)], e⟩
theorem x_off {bs : List Nat} {e : Nat} (h : xE bs = e) (he : e ≠ 0) : xV bs = [] ∧ xW bs = 0 ∧ xE bs = e :=
  ⟨by unfold xV; rw [if_neg (by rw [h]; exact he)], by unfold xW; rw [if_neg (by rw [h]; exact he)], h⟩
theorem x_err2 {bs : List Nat} (h : tE bs = 0) (h2 : tN bs < 1 ∨ 16 < tN bs) : xE bs = 3 := by
  unfold xE; rw [if_neg (by simp [h]), if_pos h2]
theorem x_err3 {bs : List Nat} (h : tE bs = 0) (h2 : ¬ (tN bs < 1 ∨ 16 < tN bs)) (h3 : bs.length < tW bs + tN bs) : xE bs = 2 := by
  unfold xE; rw [if_neg (by simp [h]), if_neg h2, if_pos h3]
theorem x_err4 {bs : List Nat} (h : tE bs = 0) (h2 : ¬ (tN bs < 1 ∨ 16 < tN bs)) (h3 : ¬ bs.length < tW bs + tN bs) (h4 : nm ((bs.drop (tW bs)).take (tN bs)) = false) : xE bs = 3 := by
  unfold xE; rw [if_neg (by simp [h]), if_neg h2, if_neg h3, if_neg (by rw [h4]; decide)]
theorem x_ok {bs : List Nat} (h : tE bs = 0) (h2 : ¬ (tN bs < 1 ∨ 16 < tN bs)) (h3 : ¬ bs.length < tW bs + tN bs) (h4 : nm ((bs.drop (tW bs)).take (tN bs)) = true) : xV bs = (bs.drop (tW bs)).take (tN bs) ∧ xW bs = tW bs + tN bs ∧ xE bs = 0 := by
  have e : xE bs = 0 := by unfold xE; rw [if_neg (by simp [h]), if_neg h2, if_neg h3, if_pos h4]
  exact ⟨by unfold xV; rw [if_pos e], by unfold xW; rw [if_pos e], e⟩
theorem tx_no {bs : List Nat} (h : nm bs = false) : txE bs = 1 ∧ txV bs = [] := by
  unfold txE txV; rw [h]; exact ⟨rfl, rfl⟩
theorem tx_yes {bs : List Nat} (h : nm bs = true) : txE bs = 0 ∧ txV bs = num bs.length ++ bs := by
  unfold txE txV; rw [h]; exact ⟨rfl, rfl⟩
theorem sb_nil : sb [] = ⟨#[]⟩ := rfl

section
variable {w : World}
theorem text_any (s : ByteArray) (hs : s.size ≤ 9223372036854775807) :
    Calls Try.prog 31 #[.string s] w fun e w' => ∃ v', e = .returned (.tuple #[v', .int .i64 (txE (ofS s) : Nat)]) ∧ Ob w' w.heap.size v' (txV (ofS s)) ∧ Below w.heap.size w w' := by
  have HL := Lib.hid (ofS_len s)
  cases hb : nm (ofS s) with
  | false =>
    have HB := Lib.hid hb
    rw [(tx_no hb).1, (tx_no hb).2]
    clear hb
    go_enter Try.func31, Try.ntmps31
    go_wp2_with (go_at_call 49; refine (isName_any s hs).mono ?_; rintro e w1 ⟨rfl, h1⟩; rw [HB.out]; have H1 := Lib.hid h1; clear h1)
    go_ret2
    exact ⟨_, rfl, Ob.nil _ _, H1.out⟩
  | true =>
    have HB := Lib.hid hb
    have hl := nm_len hb
    rw [HL.out] at hl
    obtain ⟨l1, l2⟩ := hl
    rw [(tx_yes hb).1, (tx_yes hb).2, HL.out]
    clear hb
    go_enter Try.func31, Try.ntmps31
    go_wp2_with (first | (go_at_call 49; refine (isName_any s hs).mono ?_; rintro e w1 ⟨rfl, h1⟩; rw [HB.out]; have H1 := Lib.hid h1; clear h1) | (go_at_call 30; refine (number_any s.size (by omega)).mono ?_; rintro e w2 ⟨v2, rfl, h2, h3⟩; have H2 := Lib.hid (h2.less H1.out.size); have H3 := Lib.hid (H1.out.trans (h3.mono H1.out.size)); have T2 := Lib.hid (num_ten (show s.size < 18446744073709551616 by omega)); clear h2 h3) | (at_builtin; refine wpList_app rfl _ _ 9 rfl w.heap.size _ (num s.size) rfl H2.out _ (ofS s) rfl (src_s _ s) (by have := T2.out; have := HL.out; omega) H3.out.size ?_; intro v4 w4 h4 h5; have H4 := Lib.hid h4; have H5 := Lib.hid (H3.out.trans h5); clear h4 h5) | go_in)
    go_ret2
    exact ⟨_, rfl, H4.out, H5.out⟩

theorem rtext_any (s : ByteArray) (hs : s.size ≤ 9223372036854775807) :
    Calls Try.prog 35 #[.string s] w fun e w' => ∃ v', e = .returned (.tuple #[v', .int .i64 (txE (ofS s) : Nat)]) ∧ Ob w' w.heap.size v' (txV (ofS s)) ∧ Below w.heap.size w w' := by
  have HL := Lib.hid (ofS_len s)
  cases hb : nm (ofS s) with
  | false =>
    have HB := Lib.hid hb
    rw [(tx_no hb).1, (tx_no hb).2]
    clear hb
    go_enter Try.func35, Try.ntmps35
    go_wp2_with (go_at_call 44; refine (rname_any s hs).mono ?_; rintro e w1 ⟨rfl, rfl⟩; rw [HB.out])
    go_ret2
    exact ⟨_, rfl, Ob.nil _ _, Below.refl _ _⟩
  | true =>
    have HB := Lib.hid hb
    have hl := nm_len hb
    rw [HL.out] at hl
    obtain ⟨l1, l2⟩ := hl
    rw [(tx_yes hb).1, (tx_yes hb).2, HL.out]
    clear hb
    go_enter Try.func35, Try.ntmps35
    go_wp2_with (first | (go_at_call 44; refine (rname_any s hs).mono ?_; rintro e w1 ⟨rfl, rfl⟩; rw [HB.out]) | (go_at_call 34; refine (rnumber_any 9 s.size _ (by omega) (by omega)).mono ?_; rintro e w2 ⟨v2, rfl, h2, h3⟩; have H2 := Lib.hid h2; have H3 := Lib.hid h3; have T2 := Lib.hid (num_ten (show s.size < 18446744073709551616 by omega)); clear h2 h3) | (at_builtin; refine wpList_app rfl _ _ 9 rfl w.heap.size _ (num s.size) rfl H2.out _ (ofS s) rfl (src_s _ s) (by have := T2.out; have := HL.out; omega) H3.out.size ?_; intro v4 w4 h4 h5; have H4 := Lib.hid h4; have H5 := Lib.hid (H3.out.trans h5); clear h4 h5) | go_in)
    go_ret2
    exact ⟨_, rfl, H4.out, H5.out⟩

set_option maxRecDepth 100000 in
theorem takeText_any (A : Option Addr) (k cap : Nat) (bs : List Nat) (h : Rd w A k cap bs) :
    Calls Try.prog 51 #[.slice A k cap] w fun e w' => e = .returned (.tuple #[.string (sb (xV bs)), .int .i64 (xW bs : Nat), .int .i64 (xE bs : Nat)]) ∧ Below w.heap.size w w' := by
  have hle := h.le
  have hmx := h.max
  have HL := Lib.hid h.len
  have HB := Lib.hid h.byt
  have HR := Lib.hid h
  clear h
  by_cases hE : tE bs = 0
  · have HE := Lib.hid hE
    by_cases hN : tN bs < 1 ∨ 16 < tN bs
    · obtain ⟨e1, e2, e3⟩ := x_off (x_err2 hE hN) (by decide)
      rw [e1, e2, e3, sb_nil]
      clear e1 e2 e3 hE
      generalize hNN : tN bs = N at hN
      have HN := Lib.hid hNN
      clear hNN
      rcases hN with hN | hN
      all_goals
        go_enter Try.func51, Try.ntmps51
        go_wp2_with (go_at_call 37; refine (take_any _ _ _ bs HR.out).mono ?_; rintro e w1 ⟨rfl, rfl⟩; rw [HE.out, HN.out])
        go_ret3
        exact ⟨rfl, Below.refl _ _⟩
    by_cases hS : bs.length < tW bs + tN bs
    · obtain ⟨e1, e2, e3⟩ := x_off (x_err3 hE hN hS) (by decide)
      rw [e1, e2, e3, sb_nil]
      rw [HL.out] at hS
      have hW : tW bs ≤ 10 := by rcases tk_cases bs HB.out with ⟨_, h, _⟩ | ⟨_, _, h⟩ <;> omega
      clear e1 e2 e3 hE
      generalize hNN : tN bs = N at hN hS
      generalize hWW : tW bs = W at hS hW
      have HN := Lib.hid hNN
      have HW := Lib.hid hWW
      have n1 : 1 ≤ N := by omega
      have n2 : N ≤ 16 := by omega
      clear hNN hWW hN
      go_enter Try.func51, Try.ntmps51
      go_wp2_with (go_at_call 37; refine (take_any _ _ _ bs HR.out).mono ?_; rintro e w1 ⟨rfl, rfl⟩; rw [HE.out, HN.out, HW.out])
      go_ret3
      exact ⟨rfl, Below.refl _ _⟩
    have hW : tW bs ≤ 10 := by rcases tk_cases bs HB.out with ⟨_, h, _⟩ | ⟨_, _, h⟩ <;> omega
    have hS1 := hS
    rw [HL.out] at hS1
    have hk : 0 < k := by omega
    obtain ⟨b, o, rfl, _, _⟩ := HR.out.base hk
    have hsub := HR.out.sub (tW bs) (tN bs) (by omega)
    have hbs := hsub.byt
    have hst := run_str hsub (by omega)
    cases hnm : nm ((bs.drop (tW bs)).take (tN bs)) with
    | false =>
      obtain ⟨e1, e2, e3⟩ := x_off (x_err4 hE hN hS hnm) (by decide)
      rw [e1, e2, e3, sb_nil]
      have hsz : ((bs.drop (tW bs)).take (tN bs)).length = tN bs := hsub.len
      generalize hsb : (bs.drop (tW bs)).take (tN bs) = sub at *
      generalize hNN : tN bs = N at *
      generalize hWW : tW bs = W at *
      have HN := Lib.hid hNN
      have HW := Lib.hid hWW
      have HM := Lib.hid (show nm (ofS (sb sub)) = false by rw [ofS_sb hbs]; exact hnm)
      have HZ := Lib.hid (show (sb sub).size ≤ 9223372036854775807 by rw [sb_size]; omega)
      have n1 : 1 ≤ N := by omega
      have n2 : N ≤ 16 := by omega
      have n3 : W + N ≤ k := by omega
      clear hNN hWW hN hE e1 e2 e3 hS hS1 hsub hsz hnm hsb hbs
      go_enter Try.func51, Try.ntmps51
      go_wp2_with (first | (go_at_call 37; refine (take_any _ _ _ bs HR.out).mono ?_; rintro e w1 ⟨rfl, rfl⟩; rw [HE.out, HN.out, HW.out]) | (go_at_call 49; refine (isName_any _ HZ.out).mono ?_; rintro e w2 ⟨rfl, h2⟩; rw [HM.out]; have H2 := Lib.hid h2; clear h2))
      go_ret3
      exact ⟨by rfl, H2.out⟩
    | true =>
      obtain ⟨e1, e2, e3⟩ := x_ok hE hN hS hnm
      rw [e1, e2, e3]
      have hsz : ((bs.drop (tW bs)).take (tN bs)).length = tN bs := hsub.len
      generalize hsb : (bs.drop (tW bs)).take (tN bs) = sub at *
      generalize hNN : tN bs = N at *
      generalize hWW : tW bs = W at *
      have HN := Lib.hid hNN
      have HW := Lib.hid hWW
      have HM := Lib.hid (show nm (ofS (sb sub)) = true by rw [ofS_sb hbs]; exact hnm)
      have HZ := Lib.hid (show (sb sub).size ≤ 9223372036854775807 by rw [sb_size]; omega)
      have n1 : 1 ≤ N := by omega
      have n2 : N ≤ 16 := by omega
      have n3 : W + N ≤ k := by omega
      clear hNN hWW hN hE e1 e2 e3 hS hS1 hsub hsz hnm hsb hbs
      go_enter Try.func51, Try.ntmps51
      go_wp2_with (first | (go_at_call 37; refine (take_any _ _ _ bs HR.out).mono ?_; rintro e w1 ⟨rfl, rfl⟩; rw [HE.out, HN.out, HW.out]) | (go_at_call 49; refine (isName_any _ HZ.out).mono ?_; rintro e w2 ⟨rfl, h2⟩; rw [HM.out]; have H2 := Lib.hid h2; clear h2))
      go_ret3
      exact ⟨by simp, H2.out⟩
  · obtain ⟨e1, e2, e3⟩ := x_err1 hE
    rw [e1, e2, e3, sb_nil]
    have hz : ((tE bs : Nat) : Int) ≠ 0 := by omega
    clear e1 e2 e3 hE
    generalize hve : tE bs = E at hz ⊢
    have HE := Lib.hid hve
    clear hve
    go_enter Try.func51, Try.ntmps51
    go_wp2_with (go_at_call 37; refine (take_any _ _ _ bs HR.out).mono ?_; rintro e w1 ⟨rfl, rfl⟩; rw [HE.out])
    go_ret3
    exact ⟨rfl, Below.refl _ _⟩
set_option maxRecDepth 100000 in
theorem rtakeText_any (A : Option Addr) (k cap : Nat) (bs : List Nat) (h : Rd w A k cap bs) :
    Calls Try.prog 40 #[.slice A k cap] w fun e w' => e = .returned (.tuple #[.string (sb (xV bs)), .int .i64 (xW bs : Nat), .int .i64 (xE bs : Nat)]) ∧ Below w.heap.size w w' := by
  have hle := h.le
  have hmx := h.max
  have HL := Lib.hid h.len
  have HB := Lib.hid h.byt
  have HR := Lib.hid h
  clear h
  by_cases hE : tE bs = 0
  · have HE := Lib.hid hE
    by_cases hN : tN bs < 1 ∨ 16 < tN bs
    · obtain ⟨e1, e2, e3⟩ := x_off (x_err2 hE hN) (by decide)
      rw [e1, e2, e3, sb_nil]
      clear e1 e2 e3 hE
      generalize hNN : tN bs = N at hN
      have HN := Lib.hid hNN
      clear hNN
      rcases hN with hN | hN
      all_goals
        go_enter Try.func40, Try.ntmps40
        go_wp2_with (go_at_call 39; refine (rtake_any _ _ _ bs HR.out).mono ?_; rintro e w1 ⟨rfl, rfl⟩; rw [HE.out, HN.out])
        go_ret3
        exact ⟨rfl, Below.refl _ _⟩
    by_cases hS : bs.length < tW bs + tN bs
    · obtain ⟨e1, e2, e3⟩ := x_off (x_err3 hE hN hS) (by decide)
      rw [e1, e2, e3, sb_nil]
      rw [HL.out] at hS
      have hW : tW bs ≤ 10 := by rcases tk_cases bs HB.out with ⟨_, h, _⟩ | ⟨_, _, h⟩ <;> omega
      clear e1 e2 e3 hE
      generalize hNN : tN bs = N at hN hS
      generalize hWW : tW bs = W at hS hW
      have HN := Lib.hid hNN
      have HW := Lib.hid hWW
      have n1 : 1 ≤ N := by omega
      have n2 : N ≤ 16 := by omega
      clear hNN hWW hN
      go_enter Try.func40, Try.ntmps40
      go_wp2_with (go_at_call 39; refine (rtake_any _ _ _ bs HR.out).mono ?_; rintro e w1 ⟨rfl, rfl⟩; rw [HE.out, HN.out, HW.out])
      go_ret3
      exact ⟨rfl, Below.refl _ _⟩
    have hW : tW bs ≤ 10 := by rcases tk_cases bs HB.out with ⟨_, h, _⟩ | ⟨_, _, h⟩ <;> omega
    have hS1 := hS
    rw [HL.out] at hS1
    have hk : 0 < k := by omega
    obtain ⟨b, o, rfl, _, _⟩ := HR.out.base hk
    have hsub := HR.out.sub (tW bs) (tN bs) (by omega)
    have hbs := hsub.byt
    have hst := run_str hsub (by omega)
    cases hnm : nm ((bs.drop (tW bs)).take (tN bs)) with
    | false =>
      obtain ⟨e1, e2, e3⟩ := x_off (x_err4 hE hN hS hnm) (by decide)
      rw [e1, e2, e3, sb_nil]
      have hsz : ((bs.drop (tW bs)).take (tN bs)).length = tN bs := hsub.len
      generalize hsb : (bs.drop (tW bs)).take (tN bs) = sub at *
      generalize hNN : tN bs = N at *
      generalize hWW : tW bs = W at *
      have HN := Lib.hid hNN
      have HW := Lib.hid hWW
      have HM := Lib.hid (show nm (ofS (sb sub)) = false by rw [ofS_sb hbs]; exact hnm)
      have HZ := Lib.hid (show (sb sub).size ≤ 9223372036854775807 by rw [sb_size]; omega)
      have n1 : 1 ≤ N := by omega
      have n2 : N ≤ 16 := by omega
      have n3 : W + N ≤ k := by omega
      clear hNN hWW hN hE e1 e2 e3 hS hS1 hsub hsz hnm hsb hbs
      go_enter Try.func40, Try.ntmps40
      go_wp2_with (first | (go_at_call 39; refine (rtake_any _ _ _ bs HR.out).mono ?_; rintro e w1 ⟨rfl, rfl⟩; rw [HE.out, HN.out, HW.out]) | (go_at_call 44; refine (rname_any _ HZ.out).mono ?_; rintro e w2 ⟨rfl, rfl⟩; rw [HM.out]))
      go_ret3
      exact ⟨by rfl, Below.refl _ _⟩
    | true =>
      obtain ⟨e1, e2, e3⟩ := x_ok hE hN hS hnm
      rw [e1, e2, e3]
      have hsz : ((bs.drop (tW bs)).take (tN bs)).length = tN bs := hsub.len
      generalize hsb : (bs.drop (tW bs)).take (tN bs) = sub at *
      generalize hNN : tN bs = N at *
      generalize hWW : tW bs = W at *
      have HN := Lib.hid hNN
      have HW := Lib.hid hWW
      have HM := Lib.hid (show nm (ofS (sb sub)) = true by rw [ofS_sb hbs]; exact hnm)
      have HZ := Lib.hid (show (sb sub).size ≤ 9223372036854775807 by rw [sb_size]; omega)
      have n1 : 1 ≤ N := by omega
      have n2 : N ≤ 16 := by omega
      have n3 : W + N ≤ k := by omega
      clear hNN hWW hN hE e1 e2 e3 hS hS1 hsub hsz hnm hsb hbs
      go_enter Try.func40, Try.ntmps40
      go_wp2_with (first | (go_at_call 39; refine (rtake_any _ _ _ bs HR.out).mono ?_; rintro e w1 ⟨rfl, rfl⟩; rw [HE.out, HN.out, HW.out]) | (go_at_call 44; refine (rname_any _ HZ.out).mono ?_; rintro e w2 ⟨rfl, rfl⟩; rw [HM.out]))
      go_ret3
      exact ⟨by simp, Below.refl _ _⟩
  · obtain ⟨e1, e2, e3⟩ := x_err1 hE
    rw [e1, e2, e3, sb_nil]
    have hz : ((tE bs : Nat) : Int) ≠ 0 := by omega
    clear e1 e2 e3 hE
    generalize hve : tE bs = E at hz ⊢
    have HE := Lib.hid hve
    clear hve
    go_enter Try.func40, Try.ntmps40
    go_wp2_with (go_at_call 39; refine (rtake_any _ _ _ bs HR.out).mono ?_; rintro e w1 ⟨rfl, rfl⟩; rw [HE.out])
    go_ret3
    exact ⟨rfl, Below.refl _ _⟩
end
end Go.Proofs.Ytnkjlocjfljjlaa
