/- The contracts of wire.inName, wire.isName and the document's Name. No condition. -/
import Derived.Test.YtnkjlocjfljjlaaWNum
namespace Go.Proofs.Ytnkjlocjfljjlaa
open Go.RowKit

theorem okc_yes {c : Nat} (h : (97 ≤ c ∧ c ≤ 122) ∨ (65 ≤ c ∧ c ≤ 90) ∨ (48 ≤ c ∧ c ≤ 57) ∨ c = 95) : okc c = true := by
  unfold okc
  simp only [Bool.or_eq_true, decide_eq_true_eq]
  omega
theorem okc_no {c : Nat} (h : ¬ ((97 ≤ c ∧ c ≤ 122) ∨ (65 ≤ c ∧ c ≤ 90) ∨ (48 ≤ c ∧ c ≤ 57) ∨ c = 95)) : okc c = false := by
  unfold okc
  simp only [Bool.or_eq_false_iff, decide_eq_false_iff_not]
  omega
theorem nm_bad {bs : List Nat} {k : Nat} (h : k < bs.length) (hk : okc (bs.getD k 0) = false) : nm bs = false := by
  unfold nm
  rw [Bool.and_eq_false_iff]
  right
  rw [List.all_eq_false]
  rw [List.getD_eq_getElem?_getD, List.getElem?_eq_getElem h] at hk
  exact ⟨_, List.getElem_mem h, by simpa using hk⟩
theorem nm_all {bs : List Nat} (h : ∀ k, k < bs.length → okc (bs.getD k 0) = true) : nm bs = decide (1 ≤ bs.length ∧ bs.length ≤ 16) := by
  unfold nm
  have : bs.all okc = true := by
    rw [List.all_eq_true]
    intro x hx
    obtain ⟨i, hi⟩ := List.mem_iff_getElem?.1 hx
    have hl : i < bs.length := by
      rcases Nat.lt_or_ge i bs.length with hlt | hge
      · exact hlt
      · rw [List.getElem?_eq_none hge] at hi; cases hi
    have := h i hl
    rw [List.getD_eq_getElem?_getD, hi] at this
    exact this
  rw [this, Bool.and_true]
theorem nm_off {bs : List Nat} (h : ¬ (1 ≤ bs.length ∧ bs.length ≤ 16)) : nm bs = false := by
  unfold nm
  rw [Bool.and_eq_false_iff]
  exact .inl (decide_eq_false h)
theorem ofS_len (s : ByteArray) : (ofS s).length = s.size := by
  unfold ofS
  rw [List.length_map, Array.length_toList]
  rfl
theorem ofS_at (s : ByteArray) (k : Nat) (h : k < s.size) : (ofS s).getD k 0 = (s[k]'h).toNat := by
  unfold ofS
  have hl : k < s.data.toList.length := by rw [Array.length_toList]; exact h
  rw [List.getD_eq_getElem?_getD, List.getElem?_map, List.getElem?_eq_getElem hl]
  rfl

section
variable {w : World}
theorem inName_any (c : Nat) : Calls Try.prog 57 #[.int .i32 (c : Nat)] w fun e w' => e = .returned (.bool (okc c)) ∧ w = w' := by
  by_cases h1 : (97 ≤ c ∧ c ≤ 122) ∨ (65 ≤ c ∧ c ≤ 90) ∨ (48 ≤ c ∧ c ≤ 57) ∨ c = 95
  · rw [okc_yes h1]
    rcases h1 with ⟨h1, h2⟩ | ⟨h1, h2⟩ | ⟨h1, h2⟩ | rfl
    all_goals
      go_enter Try.func57, Try.ntmps57
      go_wp2_with fail
      go_ret
      exact ⟨rfl, rfl⟩
  · rw [okc_no h1]
    have h95 : ((c : Int) == 95) = false := by simp; omega
    rcases (by omega : c < 48 ∨ (57 < c ∧ c < 65) ∨ (90 < c ∧ c < 97) ∨ 122 < c) with h2 | ⟨h2, h3⟩ | ⟨h2, h3⟩ | h2
    all_goals
      clear h1
      go_enter Try.func57, Try.ntmps57
      go_wp2_with fail
      go_ret
      exact ⟨rfl, rfl⟩

theorem below_iter (w : World) (s : ByteArray) (p : Nat) : Below w.heap.size w (w.iter s p) := (Below.refl _ _).alloc (Nat.le_refl _) _

set_option maxRecDepth 100000 in
theorem isName_any (s : ByteArray) (hs : s.size ≤ 9223372036854775807) :
    Calls Try.prog 49 #[.string s] w fun e w' => e = .returned (.bool (nm (ofS s))) ∧ Below w.heap.size w w' := by
  have HL := Lib.hid (ofS_len s)
  by_cases hlen : 1 ≤ s.size ∧ s.size ≤ 16
  · obtain ⟨l1, l2⟩ := hlen
    go_enter Try.func49, Try.ntmps49
    go_wp2_with fail
    go_loopw [4] (fun _ wr => ∃ pos : Nat, pos ≤ s.size ∧ wr = w.iter s pos ∧ Hid (∀ t, t < pos → okc ((ofS s).getD t 0) = true)) (fun _ wr => s.size - wr.iterPos w.heap.size)
    case atStart => exact ⟨0, Nat.zero_le _, rfl, fun t ht => absurd ht (by omega)⟩
    case round =>
      obtain ⟨pos, hpos, rfl, HP⟩ := hrel
      by_cases hp : pos < s.size
      · have HK := Lib.hid (ofS_at s pos hp)
        by_cases ha : (s[pos]'hp).toNat < 128
        · have hnx : ∀ ty, (Instr.next (.pointer (some ⟨w.heap.size, 0, none⟩)) true ty).run Try.prog (w.iter s pos) = _ := fun ty => run_next_ascii w s pos ty hp ha
          have HO := Lib.hid (fun w => inName_any (w := w) (s[pos]'hp).toNat)
          cases hb : okc (s[pos]'hp).toNat with
          | true =>
            have HB := Lib.hid hb
            clear hb
            go_wp2_with (go_at_call 57; refine (HO.out _).mono ?_; rintro e w' ⟨rfl, rfl⟩; rw [HB.out])
            go_roundw
            case rel =>
              refine ⟨pos + 1, by omega, rfl, fun t ht => ?_⟩
              rcases Nat.lt_or_ge t pos with h | h
              · exact HP.out t h
              · obtain rfl : t = pos := by omega
                rw [HK.out]; exact HB.out
            case measure => simp; omega
          | false =>
            have HB := Lib.hid hb
            clear hb
            go_wp2_with (go_at_call 57; refine (HO.out _).mono ?_; rintro e w' ⟨rfl, rfl⟩; rw [HB.out])
            go_ret
            exact ⟨by rw [nm_bad (k := pos) (by rw [HL.out]; exact hp) (by rw [HK.out]; exact HB.out)]; rfl, below_iter _ _ _⟩
        · obtain ⟨d1, d2⟩ := decode_high s pos hp (by omega)
          have hnx : ∀ ty, (Instr.next (.pointer (some ⟨w.heap.size, 0, none⟩)) true ty).run Try.prog (w.iter s pos) = _ := fun ty => run_next_any w s pos ty hp
          generalize Utf8.decode s pos = D at d1 d2 hnx
          have HO := Lib.hid (fun w => inName_any (w := w) D.1)
          have HB := Lib.hid (okc_no (c := D.1) (by omega))
          go_wp2_with (go_at_call 57; refine (HO.out _).mono ?_; rintro e w' ⟨rfl, rfl⟩; rw [HB.out])
          go_ret
          exact ⟨by rw [nm_bad (k := pos) (by rw [HL.out]; exact hp) (by rw [HK.out]; exact okc_no (by omega))]; rfl, below_iter _ _ _⟩
      · have hnx : ∀ ty, (Instr.next (.pointer (some ⟨w.heap.size, 0, none⟩)) true ty).run Try.prog (w.iter s pos) = _ := fun ty => run_next_end w s pos ty hp
        go_wp2_with fail
        go_ret
        refine ⟨?_, below_iter _ _ _⟩
        rw [nm_all (fun k hk => HP.out k (by rw [HL.out] at hk; omega)), HL.out, decide_eq_true (show 1 ≤ s.size ∧ s.size ≤ 16 from ⟨l1, l2⟩)]
        rfl
  · have HN := Lib.hid (nm_off (bs := ofS s) (by rw [HL.out]; exact hlen))
    rcases (by omega : s.size < 1 ∨ 16 < s.size) with h | h
    all_goals
      clear hlen
      go_enter Try.func49, Try.ntmps49
      go_wp2_with fail
      go_ret
      exact ⟨by rw [HN.out]; rfl, Below.refl _ _⟩

set_option maxRecDepth 100000 in
theorem rname_any (s : ByteArray) (hs : s.size ≤ 9223372036854775807) :
    Calls Try.prog 44 #[.string s] w fun e w' => e = .returned (.bool (nm (ofS s))) ∧ w = w' := by
  have HL := Lib.hid (ofS_len s)
  go_enter Try.func44, Try.ntmps44
  go_wp2_with fail
  go_loop [3] (fun i => ∃ k : Nat, k ≤ s.size ∧ i = .int .i64 k ∧ Hid (∀ t, t < k → okc ((ofS s).getD t 0) = true)) (fun i => s.size - (intOf i).toNat)
  case atStart => exact ⟨0, Nat.zero_le _, rfl, fun t ht => absurd ht (by omega)⟩
  case round =>
    obtain ⟨k, hk, rfl, HP⟩ := hrel
    by_cases hlt : k < s.size
    · have HK := Lib.hid (ofS_at s k hlt)
      have hE : ∃ y, y = (s[k]'hlt).toNat := ⟨_, rfl⟩
      obtain ⟨y, hy⟩ := hE
      by_cases h1 : (97 ≤ y ∧ y ≤ 122) ∨ (65 ≤ y ∧ y ≤ 90) ∨ (48 ≤ y ∧ y ≤ 57) ∨ y = 95
      · have HY := Lib.hid (okc_yes h1)
        rw [hy] at HY
        rcases h1 with ⟨h1, h2⟩ | ⟨h1, h2⟩ | ⟨h1, h2⟩ | h1
        case' inr.inr.inr => have h95 : (((s[k]'hlt).toNat : Int) == 95) = true := by rw [← hy, h1]; rfl
        all_goals
          rw [hy] at h1
          (try rw [hy] at h2)
          clear hy
          go_wp2_with fail
          go_round
          case rel =>
            refine ⟨k + 1, by omega, by go_num, fun t ht => ?_⟩
            rcases Nat.lt_or_ge t k with h | h
            · exact HP.out t h
            · obtain rfl : t = k := by omega
              rw [HK.out]; exact HY.out
          case measure => simp [intOf]; omega
      · have h95 : (((s[k]'hlt).toNat : Int) == 95) = false := by rw [← hy]; simp; omega
        have HY := Lib.hid (okc_no h1)
        rw [hy] at HY
        rcases (by omega : y < 48 ∨ (57 < y ∧ y < 65) ∨ (90 < y ∧ y < 97) ∨ 122 < y) with h2 | ⟨h2, h3⟩ | ⟨h2, h3⟩ | h2
        all_goals
          rw [hy] at h2
          (try rw [hy] at h3)
          clear h1 hy
          go_wp2_with fail
          all_goals first
            | (go_ret; exact ⟨by rw [nm_bad (k := k) (by rw [HL.out]; exact hlt) (by rw [HK.out]; exact HY.out)]; rfl, rfl⟩)
            | (exfalso; rename_i h; simp at h; omega)
    · obtain rfl : k = s.size := by omega
      have HA := Lib.hid (nm_all (bs := ofS s) (fun k hk => HP.out k (by rw [HL.out] at hk; exact hk)))
      rcases (by omega : s.size < 1 ∨ (1 ≤ s.size ∧ s.size ≤ 16) ∨ 16 < s.size) with h | ⟨h, h2⟩ | h
      all_goals
        go_wp2_with fail
        go_ret
        refine ⟨?_, rfl⟩
        rw [HA.out, HL.out]
        first
          | (rw [decide_eq_true (show 1 ≤ s.size ∧ s.size ≤ 16 by omega)]; first | rfl | (simp; omega))
          | (rw [decide_eq_false (show ¬ (1 ≤ s.size ∧ s.size ≤ 16) by omega)]; first | rfl | (simp; omega))
end
end Go.Proofs.Ytnkjlocjfljjlaa
