/- The contracts of wire.appendNumber, wire.Number and the document's Number. No condition but that the row is the call's own. -/
import Derived.Test.YtnkjlocjfljjlaaWWords
namespace Go.Proofs.Ytnkjlocjfljjlaa
open Go.RowKit
theorem src_one1 (w : World) (y : Nat) (z : Int) (h : z = y) : Src Try.prog 1 40 (.slice (some ⟨w.heap.size, 0, none⟩) 1 1) ([y] : List Nat).length (bc [y]) (w.alloc (.cells #[.int .u8 z] 5)) := by
  subst h
  exact src_one w y
theorem Ob.keep {w w' : World} {B B' : Nat} {v : Value} {bs : List Nat} (h : Ob w B v bs) (hb : Below B' w w') (hB : w.heap.size ≤ B') : Ob w' B v bs := by
  refine ⟨h.1, ?_⟩
  rcases h.2 with h1 | ⟨g, cap, cur, h1, h2, h3, rest⟩
  · exact .inl h1
  · exact .inr ⟨g, cap, cur, h1, h2, (hb.block g (Nat.lt_of_lt_of_le (Array.getElem?_eq_some_iff.1 h3).1 hB)).trans h3, rest⟩
section
variable {w : World}
set_option maxRecDepth 100000 in
theorem app_any (B : Nat) (v : Value) (xs : List Nat) (n : Nat) (hn : n < 18446744073709551616) (hx : xs.length ≤ 100000) (h : Ob w B v xs) (hB : B ≤ w.heap.size) :
    Calls Try.prog 48 #[v, .int .u64 n] w fun e w' => ∃ v', e = .returned v' ∧ Ob w' B v' (xs ++ num n) ∧ Below B w w' := by
  have HT := Lib.hid (num_ten hn)
  have HO := Lib.hid h
  clear h
  go_enter Try.func48, Try.ntmps48
  go_wp2_with fail
  go_loopw [0, 1] (fun u i wr => ∃ (r : Nat) (ys : List Nat), r < 18446744073709551616 ∧ i = .int .u64 r ∧ Hid (xs ++ num n = ys ++ num r) ∧ Hid (Ob wr B u ys) ∧ Hid (Below B w wr)) (fun _ i _ => (intOf i).toNat)
  case atStart => exact ⟨n, xs, hn, rfl, rfl, HO.out, Below.refl _ _⟩
  case round =>
    obtain ⟨r, ys, hr, rfl, HE, HY, HW⟩ := hrel
    have HS := Lib.hid (Nat.le_trans hB HW.out.size)
    have HL : ys.length ≤ 100020 := by
      have h1 := congrArg List.length HE.out
      simp only [List.length_append] at h1
      have := HT.out
      omega
    by_cases h128 : 128 ≤ r
    · have N1 := Lib.hid (src_one1 wr (128 + r % 128) (128 + (r : Int) % 128) (by omega))
      have N2 := Lib.hid (show ys.length + ([128 + r % 128] : List Nat).length ≤ 140737488400000 by simp; omega)
      have N3 := Lib.hid (show B ≤ (wr.alloc (.cells #[.int .u8 (128 + (r : Int) % 128)] 5)).heap.size by simp; have := HS.out; omega)
      go_wp2_with (first | (at_builtin; refine wpList_app rfl _ _ 40 rfl B _ ys rfl (HY.out.alloc _) _ [128 + r % 128] rfl N1.out N2.out N3.out ?_; intro v1 w1 h1 h2; have H1 := Lib.hid h1; have H2 := Lib.hid (((Below.refl B wr).alloc HS.out _).trans h2); clear h1 h2) | go_in)
      go_roundw
      case rel =>
        refine ⟨r / 128, ys ++ [128 + r % 128], by omega, by go_num, ?_, H1.out, HW.out.trans H2.out⟩
        show _ = _
        rw [HE.out, num_hi h128]
        simp
      case measure => simp [intOf]; omega
    · have N1 := Lib.hid (src_one1 wr r (r : Int) rfl)
      have N2 := Lib.hid (show ys.length + ([r] : List Nat).length ≤ 140737488400000 by simp; omega)
      have N3 := Lib.hid (show B ≤ (wr.alloc (.cells #[.int .u8 (r : Int)] 5)).heap.size by simp; have := HS.out; omega)
      go_wp2_with (first | (at_builtin; refine wpList_app rfl _ _ 40 rfl B _ ys rfl (HY.out.alloc _) _ [r] rfl N1.out N2.out N3.out ?_; intro v1 w1 h1 h2; have H1 := Lib.hid h1; have H2 := Lib.hid (((Below.refl B wr).alloc HS.out _).trans h2); clear h1 h2) | go_in)
      go_ret
      refine ⟨_, rfl, ?_, HW.out.trans H2.out⟩
      rw [HE.out, num_lo (by omega)]
      exact H1.out

theorem number_any (n : Nat) (hn : n < 18446744073709551616) :
    Calls Try.prog 30 #[.int .u64 n] w fun e w' => ∃ v', e = .returned v' ∧ Ob w' w.heap.size v' (num n) ∧ Below w.heap.size w w' := by
  go_enter Try.func30, Try.ntmps30
  go_wp2_with (go_at_call 48; refine (app_any w.heap.size _ [] n hn (by simp) (Ob.nil _ _) (Nat.le_refl _)).mono ?_; rintro e w1 ⟨v1, rfl, h1, h2⟩)
  go_ret
  exact ⟨_, rfl, h1, h2⟩

theorem Ob.new1 (w : World) (y : Nat) (z : Int) (hz : z = y) : Ob (w.alloc (.cells #[.int .u8 z] 5)) w.heap.size (.slice (some ⟨w.heap.size, 0, none⟩) 1 1) [y] := by
  subst hz
  exact ⟨rfl, .inr ⟨w.heap.size, 1, _, rfl, Nat.le_refl _, heap_alloc_new w _, Nat.le_refl _, by decide, rfl, rfl⟩⟩
set_option maxRecDepth 100000 in
theorem rnumber_any (d : Nat) : ∀ (n : Nat) (w : World), n < 128 ^ (d + 1) → n < 18446744073709551616 →
    Calls Try.prog 34 #[.int .u64 n] w fun e w' => ∃ v', e = .returned v' ∧ Ob w' w.heap.size v' (num n) ∧ Below w.heap.size w w' := by
  induction d with
  | zero =>
    intro n w hd hn
    have h128 : n < 128 := by omega
    have N1 := Lib.hid (Ob.new1 w n (n : Int) rfl)
    go_enter Try.func34, Try.ntmps34
    go_wp2_with fail
    go_ret
    exact ⟨_, rfl, by rw [num_lo h128]; exact N1.out, (Below.refl _ _).alloc (Nat.le_refl _) _⟩
  | succ d ih =>
    intro n w hd hn
    by_cases h128 : n < 128
    · have N1 := Lib.hid (Ob.new1 w n (n : Int) rfl)
      go_enter Try.func34, Try.ntmps34
      go_wp2_with fail
      go_ret
      exact ⟨_, rfl, by rw [num_lo h128]; exact N1.out, (Below.refl _ _).alloc (Nat.le_refl _) _⟩
    · have hd1 : n / 128 < 128 ^ (d + 1) := by
        rw [Nat.div_lt_iff_lt_mul (by decide), ← Nat.pow_succ]
        exact hd
      have N1 := Lib.hid (Ob.new1 w (128 + n % 128) (128 + (n : Int) % 128) (by omega))
      have I := Lib.hid (fun w => ih (n / 128) w hd1 (by omega))
      have e : ((n / 128 : Nat) : Int) = (n : Int) / 128 := by omega
      have IE := Lib.hid e
      have T1 := Lib.hid (num_ten (show n / 128 < 18446744073709551616 by omega))
      clear ih hd hd1 e
      go_enter Try.func34, Try.ntmps34
      go_wp2_with (first | (go_at_call 34; rw [← IE.out]; refine (I.out _).mono ?_; rintro e w1 ⟨v1, rfl, h1, h2⟩; obtain ⟨A1, k1, c1, rfl, h3⟩ := h1.form (num_byt _); have H1 := Lib.hid (src_rd h3); have H2 := Lib.hid h2; have H3 := Lib.hid (N1.out.keep h2 (by simp)); clear h1 h2 h3) | (at_builtin; refine wpList_app rfl _ _ 40 rfl w.heap.size _ [128 + n % 128] rfl H3.out _ (num (n / 128)) rfl H1.out (by simp; have := T1.out; omega) (by have := H2.out.size; simp at this; omega) ?_; intro v2 w2 h4 h5; have H4 := Lib.hid h4; have H5 := Lib.hid h5; clear h4 h5) | go_in)
      go_ret
      refine ⟨_, rfl, by rw [num_hi (by omega)]; exact H4.out, (((Below.refl w.heap.size w).alloc (Nat.le_refl _) _).trans (H2.out.mono (by simp))).trans H5.out⟩
end
end Go.Proofs.Ytnkjlocjfljjlaa
