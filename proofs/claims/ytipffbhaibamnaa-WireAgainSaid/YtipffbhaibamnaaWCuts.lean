/- WireCuts: the walk. Condition: the slice can be read. -/
import Derived.Test.YtipffbhaibamnaaWLengths
namespace Go.Proofs.Ytipffbhaibamnaa
open Go.RowKit
theorem cut_of {a : Int} (h : (Lit.int .u16 a).wf = true) : ∃ n : Nat, a = n ∧ n < 65536 := by
  have := bounds_u16 h
  exact ⟨a.toNat, by omega, by omega⟩
theorem cut_e {n c : Nat} (hn : n < 18446744073709551616) (hc : c < (num n).length) : tE ((num n).take c) = 2 := by
  unfold tE; rw [tk_cut hn c hc]
theorem cut_x {s : List Nat} (h : nm s = true) {c : Nat} (hc : c < (txV s).length) : xE ((txV s).take c) = 2 := by
  rw [(tx_yes h).2] at hc ⊢
  exact x_cut h c hc
theorem nm_pos {s : List Nat} (h : nm s = true) : 0 < (txV s).length := by
  rw [(tx_yes h).2, List.length_append]
  have := num_pos s.length
  omega
theorem isV_pos {l : List Int} (h : isE l = 0) : 0 < (isV l).length := by
  unfold isV
  rw [if_pos h, List.length_append]
  have := num_pos l.length
  omega
theorem isE_cases (l : List Int) : isE l = 0 ∨ isE l = 1 ∨ isE l = 11 := by
  unfold isE
  split
  · exact .inr (.inr rfl)
  · split
    · exact .inl rfl
    · exact .inr (.inl rfl)
theorem tx_cases (s : List Nat) : (nm s = true ∧ txE s = 0) ∨ (nm s = false ∧ txE s = 1) := by
  cases h : nm s with
  | true => exact .inl ⟨rfl, (tx_yes h).1⟩
  | false => exact .inr ⟨rfl, (tx_no h).1⟩
theorem modk {c k : Nat} (hk : 0 < k) : c % k < k := Nat.mod_lt _ hk
set_option maxRecDepth 100000 in
theorem cuts_walk (n0 : Int) (s : ByteArray) (A : Option Addr) (k cap : Nat) (c0 : Int) (w : World) (h0 : (Lit.int .u64 n0).wf = true) (hs : s.size ≤ maxLen) (h1 : (Lit.int .u16 c0).wf = true) (hA : ∃ l, Li w A k cap l) :
    Calls Try.prog 8 #[.int .u64 n0, .string s, .slice A k cap, .int .u16 c0] w fun e w' => e = .returned (.bool true) ∧ Below w.heap.size w w' := by
  obtain ⟨n, rfl, hn⟩ := nat_of h0
  obtain ⟨c, rfl, hc⟩ := cut_of h1
  obtain ⟨l, hl⟩ := hA
  unfold maxLen at hs
  have L0 := Lib.hid hl
  have BT := Lib.hid (txV_byt _ (ofS_byt s))
  have BI := Lib.hid (isV_byt l)
  have PN := Lib.hid (num_pos n)
  clear h0 h1 hl
  rcases tx_cases (ofS s) with ⟨hb, hx⟩ | ⟨hb, hx⟩ <;> rcases isE_cases l with hi | hi | hi
  all_goals
    have HB := Lib.hid hb
    have XE := Lib.hid hx
    have IE := Lib.hid hi
    clear hb hx hi
    go_enter Try.func8, Try.ntmps8
    go_wp2_with (go_at_call 10; refine (shown_any).mono ?_; rintro e w1 ⟨rfl, h1⟩; have W1 := Lib.hid h1; clear h1)
    go_wp2_with (go_at_call 13; refine (number_any n hn).mono ?_; rintro e w2 ⟨v2, rfl, h1, h2⟩; obtain ⟨A2, k2, c2, rfl, h3⟩ := h1.form (num_byt _); have R2 := Lib.hid h3; have W2 := Lib.hid (W1.out.trans (h2.mono W1.out.size)); have L2 := Lib.hid h3.len; have p1 : 0 < k2 := by { rw [← L2.out]; exact PN.out }; have p2 : c % k2 < k2 := modk p1; have p3 := h3.le; have p4 := h3.max; have q0 : ((k2 : Int) == 0) = false := by { simp; omega }; have D2 := Lib.hid (h3.upto (c % k2) (by omega)); have E2 := Lib.hid (cut_e hn (c := c % k2) (by rw [L2.out]; exact p2)); clear h1 h2 h3)
    go_wp2_with (go_at_call 11; refine (take_any _ _ _ _ D2.out).mono ?_; rintro e w3 ⟨rfl, rfl⟩; rw [E2.out]; clear p2 p3 p4 q0)
    go_wp2_with (go_at_call 15; refine (text_any s hs).mono ?_; rintro e w4 ⟨v4, rfl, h1, h2⟩; obtain ⟨A4, k4, c4, rfl, h3⟩ := h1.form BT.out; rw [XE.out]; have R4 := Lib.hid h3; have W4 := Lib.hid (W2.out.trans (h2.mono W2.out.size)); have L4 := Lib.hid h3.len; (try (have p1' : 0 < k4 := by { rw [← L4.out]; exact nm_pos HB.out }; have p2' : c % k4 < k4 := modk p1'; have p3' := h3.le; have p4' := h3.max; have D4 := Lib.hid (h3.upto (c % k4) (by omega)); have E4 := Lib.hid (cut_x HB.out (c := c % k4) (by rw [L4.out]; exact p2')))); clear h1 h2 h3)
    (try go_wp2_with (go_at_call 17; refine (takeText_any _ _ _ _ D4.out).mono ?_; rintro e w5 ⟨rfl, h2⟩; rw [E4.out]; replace W4 := Lib.hid (W4.out.trans (h2.mono W4.out.size)); clear h2 p2' p3' p4'))
    go_wp2_with (go_at_call 19; refine (ints_any _ _ _ l (L0.out.below W4.out (Nat.le_refl _))).mono ?_; rintro e w6 ⟨v6, rfl, h1, h2⟩; obtain ⟨A6, k6, c6, rfl, h3⟩ := h1.form BI.out; rw [IE.out]; have W6 := Lib.hid (W4.out.trans (h2.mono W4.out.size)); have L6 := Lib.hid h3.len; (try (have p1 : 0 < k6 := by { rw [← L6.out]; exact isV_pos IE.out }; have p2 : c % k6 < k6 := modk p1; have p3 := h3.le; have p4 := h3.max; have q0 : ((k6 : Int) == 0) = false := by { simp; omega }; have D6 := Lib.hid (h3.upto (c % k6) (by omega)); have E6 := Lib.hid (i_cut IE.out (c % k6) (by rw [L6.out]; exact p2)))); clear h1 h2 h3)
    (try go_wp2_with (go_at_call 21; refine (takeInts_any _ _ _ _ D6.out).mono ?_; rintro e w7 ⟨v7, rfl, _, h2⟩; rw [E6.out]; replace W6 := Lib.hid (W6.out.trans (h2.mono W6.out.size)); clear h2))
    go_ret
    exact ⟨rfl, W6.out⟩
end Go.Proofs.Ytipffbhaibamnaa
