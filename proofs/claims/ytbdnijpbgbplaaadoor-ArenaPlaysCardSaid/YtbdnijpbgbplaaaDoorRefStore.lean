/- The contracts of the document's answers Store, Fill and Bytes for whatever arguments. Condition: the list's cells are known. -/
import Derived.Test.YtbdnijpbgbplaaaDoorLay
namespace Go.Proofs.YtbdnijpbgbplaaaDoor
open Go.RowKit

theorem row_snoc (k : Nat) (f : Nat → Int) : (row k f).toList ++ [.int .u8 (f k)] = (row (k + 1) f).toList := by
  simp [row, List.range_succ]

/-- The one cell of a block that was just laid. -/
theorem one_news (w : World) (v : Value) (t : TypeId) : ∀ j u, [v][j]? = some u → (w.alloc (.cells #[v] t)).cell? (Addr.add ⟨w.heap.size, 0, none⟩ j) = some u := by
  intro j u hu
  match j, hu with
  | 0, hu =>
    have e : v = u := by simpa using hu
    rw [← e]
    simp [Addr.add]

/-- What a list and an error are known to be. -/
def StPost (w : World) (B N : Nat) (F : Nat → Int) (er : Int) (e : Ending) (w' : World) : Prop :=
  ∃ g c, e = .returned (.tuple #[.slice (some ⟨g, 0, none⟩) N c, .int .i64 er]) ∧ Sl w' B g N c F ∧ Below w.heap.size w w'

/-- A row of few bytes, nil or not, as 'Few' asks it. -/
theorem few_of {w : World} {B k : Nat} {v : Value} {h : Nat → Int} (ho : w.ownsRow B 5 1 v k (row k h).toList) : ∃ A c, v = .slice A k c ∧ Few w A k h := by
  rcases ho.2 with ⟨rfl, rfl⟩ | ⟨g, cap, cur, rfl, hx⟩
  · exact ⟨none, 0, rfl, fun i hi => absurd hi (by omega)⟩
  · have hs : Sl w B g k cap h := ho
    exact ⟨_, cap, rfl, fun i hi => ⟨g, rfl, hs.lt.2, hs.cell i hi⟩⟩

section
variable {w : World}
theorem rstore_bad (B g N c : Nat) (f : Nat → Int) (at_ width v : Int) (hN : N ≤ 65536) (h0 : accE N at_ width ≠ 0) (h : Sl w B g N c f) :
    Calls Tryd.prog 15 #[.slice (some ⟨g, 0, none⟩) N c, .int .i64 at_, .int .i64 width, .int .u64 v] w (StPost w B N (stF N f at_ v width) (accE N at_ width)) := by
  rw [show stF N f at_ v width = f from by unfold stF; rw [if_neg h0]]
  have HS := Lib.hid h
  clear h
  cases hW : isW width with
  | false =>
    rw [accE_arg hW]
    have HW := Lib.hid hW
    clear hW h0
    go_enter Tryd.func15, Tryd.ntmps15
    go_wp2_with (go_at_call 23; refine (rwidth_any _).mono ?_; rintro e w' ⟨rfl, rfl⟩; rw [HW.out])
    go_ret2
    exact ⟨g, c, rfl, HS.out, Below.refl _ _⟩
  | true =>
    have hb := isW_bd hW
    rw [accE_fits hW] at h0 ⊢
    have HW := Lib.hid hW
    have hq : (fits N at_ width != 0) = true := by simpa using h0
    clear hW h0
    go_enter Tryd.func15, Tryd.ntmps15
    go_wp2_with (first | (go_at_call 23; refine (rwidth_any _).mono ?_; rintro e w' ⟨rfl, rfl⟩; rw [HW.out]) | (go_at_call 24; refine (rfits_any _ _ _ hN (by omega)).mono ?_; rintro e w' ⟨rfl, rfl⟩))
    go_ret2
    exact ⟨g, c, rfl, HS.out, Below.refl _ _⟩

set_option maxRecDepth 100000 in
theorem rstore_ok (B g N c : Nat) (f : Nat → Int) (at_ width : Nat) (V : Int) (hN : N ≤ 65536) (hV : 0 ≤ V) (hV2 : V ≤ 18446744073709551615) (hW : isW width = true) (hfit : at_ + width ≤ N) (hB : B ≤ w.heap.size) (h : Sl w B g N c f) :
    Calls Tryd.prog 15 #[.slice (some ⟨g, 0, none⟩) N c, .int .i64 at_, .int .i64 width, .int .u64 V] w (StPost w B N (st f at_ V width) 0) := by
  have hw := isW_8 hW
  have hb := isW_bd hW
  have HW := Lib.hid hW
  have HS := Lib.hid h
  have HF := Lib.hid (show fits N at_ width = 0 from fits_mk (by omega) (by omega) (by omega))
  obtain ⟨i0, hi, hz0, hz1, hz2⟩ := info_parts Tryd.info5
  have HI := Lib.hid hi
  have HZ0 := Lib.hid hz0
  have HZ1 := Lib.hid hz1
  have HZ2 := Lib.hid hz2
  clear hW h hi hz0 hz1 hz2
  go_enter Tryd.func15, Tryd.ntmps15
  go_wp2_with (first | (go_at_call 23; refine (rwidth_any _).mono ?_; rintro e w' ⟨rfl, rfl⟩; rw [HW.out]) | (go_at_call 24; refine (rfits_any _ _ _ hN (by omega)).mono ?_; rintro e w' ⟨rfl, rfl⟩; rw [HF.out]))
  go_loopw [3, 11, 12] (fun v p i wr => ∃ k : Nat, k ≤ width ∧ i = .int .i64 k ∧ v = .int .u64 (V / 256 ^ k) ∧ wr.ownsRow w.heap.size 5 1 p k (row k (byteOf V)).toList ∧ Below w.heap.size w wr) (fun _ _ i _ => width - (intOf i).toNat)
  case atStart => exact ⟨0, Nat.zero_le _, rfl, by simp, World.ownsRow_nil _ _ _ _, Below.refl _ _⟩
  case round =>
    obtain ⟨k, hk, rfl, rfl, hown, hbel⟩ := hrel
    obtain ⟨x, hx⟩ : ∃ x, V / 256 ^ k = x := ⟨_, rfl⟩
    have hx0 : 0 ≤ x := by rw [← hx]; exact Int.ediv_nonneg hV (Int.le_of_lt (Int.pow_pos (by decide)))
    have hx1 : x ≤ 18446744073709551615 := by
      have := Int.ediv_le_self (256 ^ k) hV
      omega
    rw [hx]
    have HX := Lib.hid hx
    have HO := Lib.hid hown
    have HB := Lib.hid hbel
    have hsz := hbel.size
    clear hx hown hbel
    by_cases hlt : k < width
    · have H2 := Lib.hid (HO.out.alloc (.cells #[.int .u8 (x % 256)] 5))
      go_wp2_with (at_builtin; refine wpList_append_own _ rfl (.tmp 31) (.tmp 35) 29 rfl w.heap.size 5 i0 (.int .u8 0) 1 1 Tryd.underlying29 HI.out HZ0.out HZ1.out HZ2.out rfl (by decide) _ k (row k (byteOf V)).toList rfl H2.out ⟨wr.heap.size, 0, none⟩ 1 1 [.int .u8 (x % 256)] rfl rfl (one_news _ _ _) (by simp [Value.oneCell']) (by unfold maxLen; omega) (by omega) (by simp; omega) ?_)
      intro v' w1 hown hgrow _
      have R1 : Hid (w1.ownsRow w.heap.size 5 1 v' (k + 1) (row (k + 1) (byteOf V)).toList) := by
        have e : (Value.int .u8 (x % 256)) = .int .u8 (byteOf V k) := by unfold byteOf; rw [HX.out]
        rw [e, row_snoc] at hown
        exact hown
      have R2 : Hid (Below w.heap.size w w1) := (HB.out.alloc hsz _).grown hgrow (by simp; omega) (fun q hq => (H2.out.lt q hq).1)
      have R3 : Hid (V / 256 ^ (k + 1) = x / 256) := by
        show _ = _
        rw [Int.pow_succ, ← Int.ediv_ediv_of_nonneg (Int.le_of_lt (Int.pow_pos (by decide))), HX.out]
      clear hown hgrow
      go_wp2
      go_roundw
      case rel => exact ⟨k + 1, by omega, by go_num, by rw [R3.out], R1.out, R2.out⟩
      case measure => simp [intOf]; omega
    · obtain rfl : width = k := by omega
      obtain ⟨A, cp, hp, hF⟩ := few_of HO.out
      have HF2 := Lib.hid hF
      rw [hp]
      clear hp hF HO HX
      go_wp2_with fail
      refine (lay_any _ _ _ _ _ _ _ _ _ _ hN (HS.out.below HB.out HS.out.lt.2) HF2.out hfit).mono ?_
      rintro e w2 ⟨g', c', rfl, hs2, hb2⟩
      have HS2 := Lib.hid hs2
      have HB2 := Lib.hid (HB.out.trans (hb2.mono hsz))
      clear hs2 hb2
      go_wp2
      go_ret2
      exact ⟨g', c', rfl, HS2.out.less (by omega), HB2.out⟩

theorem rstore_any (B g N c : Nat) (f : Nat → Int) (at_ width V : Int) (hN : N ≤ 65536) (hV : 0 ≤ V) (hV2 : V ≤ 18446744073709551615) (hB : B ≤ w.heap.size) (h : Sl w B g N c f) :
    Calls Tryd.prog 15 #[.slice (some ⟨g, 0, none⟩) N c, .int .i64 at_, .int .i64 width, .int .u64 V] w (StPost w B N (stF N f at_ V width) (accE N at_ width)) := by
  by_cases h0 : accE N at_ width = 0
  · obtain ⟨hW, ha, hb⟩ := accE_ok h0
    have hw := isW_bd hW
    obtain ⟨a, rfl⟩ := Int.eq_ofNat_of_zero_le ha
    obtain ⟨k, rfl⟩ := Int.eq_ofNat_of_zero_le (Int.le_of_lt hw.1)
    rw [h0, show stF N f a V k = st f a V k from by unfold stF; rw [if_pos h0]; rfl]
    exact rstore_ok B g N c f a k V hN hV hV2 hW (by omega) hB h
  · exact rstore_bad B g N c f at_ width V hN h0 h

/-! ### Fill -/
theorem rfill_bad (B g N c : Nat) (f : Nat → Int) (at_ n u : Int) (hN : N ≤ 65536) (hn : n ≤ 9223372036854775807) (h0 : fits N at_ n ≠ 0) (h : Sl w B g N c f) :
    Calls Tryd.prog 17 #[.slice (some ⟨g, 0, none⟩) N c, .int .i64 at_, .int .i64 n, .int .u8 u] w (StPost w B N (flF N f at_ n u) (fits N at_ n)) := by
  rw [show flF N f at_ n u = f from by unfold flF; rw [if_neg h0]]
  have HS := Lib.hid h
  have hq : (fits N at_ n != 0) = true := by simpa using h0
  clear h h0
  go_enter Tryd.func17, Tryd.ntmps17
  go_wp2_with (go_at_call 24; refine (rfits_any _ _ _ hN hn).mono ?_; rintro e w' ⟨rfl, rfl⟩)
  go_ret2
  exact ⟨g, c, rfl, HS.out, Below.refl _ _⟩

set_option maxRecDepth 100000 in
theorem rfill_ok (B g N c : Nat) (f : Nat → Int) (at_ n : Nat) (u : Int) (hN : N ≤ 65536) (hfit : at_ + n ≤ N) (hB : B ≤ w.heap.size) (h : Sl w B g N c f) :
    Calls Tryd.prog 17 #[.slice (some ⟨g, 0, none⟩) N c, .int .i64 at_, .int .i64 n, .int .u8 u] w (StPost w B N (fl f at_ u n) 0) := by
  have HS := Lib.hid h
  have HF := Lib.hid (show fits N at_ n = 0 from fits_mk (by omega) (by omega) (by omega))
  obtain ⟨i0, hi, hz0, hz1, hz2⟩ := info_parts Tryd.info5
  have HI := Lib.hid hi
  have HZ0 := Lib.hid hz0
  have HZ1 := Lib.hid hz1
  have HZ2 := Lib.hid hz2
  clear h hi hz0 hz1 hz2
  go_enter Tryd.func17, Tryd.ntmps17
  go_wp2_with (go_at_call 24; refine (rfits_any _ _ _ hN (by omega)).mono ?_; rintro e w' ⟨rfl, rfl⟩; rw [HF.out])
  go_loopw [11, 12] (fun p i wr => ∃ k : Nat, k ≤ n ∧ i = .int .i64 k ∧ wr.ownsRow w.heap.size 5 1 p k (row k (fun _ => u)).toList ∧ Below w.heap.size w wr) (fun _ i _ => n - (intOf i).toNat)
  case atStart => exact ⟨0, Nat.zero_le _, rfl, World.ownsRow_nil _ _ _ _, Below.refl _ _⟩
  case round =>
    obtain ⟨k, hk, rfl, hown, hbel⟩ := hrel
    have HO := Lib.hid hown
    have HB := Lib.hid hbel
    have hsz := hbel.size
    clear hown hbel
    by_cases hlt : k < n
    · have H2 := Lib.hid (HO.out.alloc (.cells #[.int .u8 u] 5))
      go_wp2_with (at_builtin; refine wpList_append_own _ rfl (.tmp 27) (.tmp 29) 29 rfl w.heap.size 5 i0 (.int .u8 0) 1 1 Tryd.underlying29 HI.out HZ0.out HZ1.out HZ2.out rfl (by decide) _ k (row k (fun _ => u)).toList rfl H2.out ⟨wr.heap.size, 0, none⟩ 1 1 [.int .u8 u] rfl rfl (one_news _ _ _) (by simp [Value.oneCell']) (by unfold maxLen; omega) (by omega) (by simp; omega) ?_)
      intro v' w1 hown hgrow _
      have R1 : Hid (w1.ownsRow w.heap.size 5 1 v' (k + 1) (row (k + 1) (fun _ => u)).toList) := by
        show w1.ownsRow _ _ _ _ _ _
        rw [← row_snoc]
        exact hown
      have R2 : Hid (Below w.heap.size w w1) := (HB.out.alloc hsz _).grown hgrow (by simp; omega) (fun q hq => (H2.out.lt q hq).1)
      clear hown hgrow
      go_wp2
      go_roundw
      case rel => exact ⟨k + 1, by omega, by go_num, R1.out, R2.out⟩
      case measure => simp [intOf]; omega
    · obtain rfl : n = k := by omega
      obtain ⟨A, cp, hp, hF⟩ := few_of HO.out
      have HF2 := Lib.hid hF
      rw [hp]
      clear hp hF HO
      go_wp2_with fail
      refine (lay_any _ _ _ _ _ _ _ _ _ _ hN (HS.out.below HB.out HS.out.lt.2) HF2.out hfit).mono ?_
      rintro e w2 ⟨g', c', rfl, hs2, hb2⟩
      have HS2 := Lib.hid hs2
      have HB2 := Lib.hid (HB.out.trans (hb2.mono hsz))
      clear hs2 hb2
      go_wp2
      go_ret2
      exact ⟨g', c', rfl, HS2.out.less (by omega), HB2.out⟩

theorem rfill_any (B g N c : Nat) (f : Nat → Int) (at_ n u : Int) (hN : N ≤ 65536) (hn : n ≤ 9223372036854775807) (hB : B ≤ w.heap.size) (h : Sl w B g N c f) :
    Calls Tryd.prog 17 #[.slice (some ⟨g, 0, none⟩) N c, .int .i64 at_, .int .i64 n, .int .u8 u] w (StPost w B N (flF N f at_ n u) (fits N at_ n)) := by
  by_cases h0 : fits N at_ n = 0
  · obtain ⟨hk0, ha, hb⟩ := fits_ok h0
    obtain ⟨a, rfl⟩ := Int.eq_ofNat_of_zero_le ha
    obtain ⟨k, rfl⟩ := Int.eq_ofNat_of_zero_le hk0
    rw [h0, show flF N f a k u = fl f a u k from by unfold flF; rw [if_pos h0]; rfl]
    exact rfill_ok B g N c f a k u hN (by omega) hB h
  · exact rfill_bad B g N c f at_ n u hN hn h0 h

/-! ### Bytes -/
theorem rbytes_bad (g N c : Nat) (at_ n : Int) (hN : N ≤ 65536) (hn : n ≤ 9223372036854775807) (h0 : fits N at_ n ≠ 0) :
    Calls Tryd.prog 19 #[.slice (some ⟨g, 0, none⟩) N c, .int .i64 at_, .int .i64 n] w fun e w' => e = .returned (.tuple #[.slice none 0 0, .int .i64 (fits N at_ n)]) ∧ w = w' := by
  have hq : (fits N at_ n != 0) = true := by simpa using h0
  clear h0
  go_enter Tryd.func19, Tryd.ntmps19
  go_wp2_with (go_at_call 24; refine (rfits_any _ _ _ hN hn).mono ?_; rintro e w' ⟨rfl, rfl⟩)
  go_ret2
  exact ⟨rfl, rfl⟩
theorem rbytes_ok (g N c at_ n : Nat) (hN : N ≤ 65536) (hc : N ≤ c) (hfit : at_ + n ≤ N) :
    Calls Tryd.prog 19 #[.slice (some ⟨g, 0, none⟩) N c, .int .i64 at_, .int .i64 n] w fun e w' => e = .returned (.tuple #[.slice (partA (some ⟨g, 0, none⟩) c at_) n (c - at_), .int .i64 0]) ∧ w = w' := by
  have HF := Lib.hid (show fits N at_ n = 0 from fits_mk (by omega) (by omega) (by omega))
  go_enter Tryd.func19, Tryd.ntmps19
  go_wp2_with (go_at_call 24; refine (rfits_any _ _ _ hN (by omega)).mono ?_; rintro e w' ⟨rfl, rfl⟩; rw [HF.out])
  all_goals go_ret2
  · exact ⟨by simp [partA], rfl⟩
  · have hne : ¬ c = at_ := by assumption
    have ea : Addr.add ⟨g, 0, none⟩ at_ = ⟨g, at_, none⟩ := by unfold Addr.add; split <;> simp_all
    exact ⟨by simp [partA, hne, ea], rfl⟩

/-! ### Texts of bytes -/
theorem run_string_cells (g o n c : Nat) (h : Nat → Int) (hb : Bytes h) (hc : ∀ i, i < n → w.cell? ⟨g, o + i, none⟩ = some (.int .u8 (h i))) :
    (convert 29 9 (.slice (some ⟨g, o, none⟩) n c)).run Tryd.prog w = .ok (.string (strOf n h)) w := by
  have hr := run_convert_bytes_back (P := Tryd.prog) w 29 9 5 ⟨g, o, none⟩ c ((List.range n).map fun i => UInt8.ofNat (h i).toNat) Tryd.underlying29 Tryd.underlying5 Tryd.underlying9 (by
    intro j hj
    have hj' : j < n := by simpa using hj
    have ea : Addr.add ⟨g, o, none⟩ j = ⟨g, o + j, none⟩ := by unfold Addr.add; split <;> simp_all
    rw [ea, hc j hj']
    have h1 := hb j
    simp
    omega)
  simp only [List.length_map, List.length_range] at hr
  exact hr

/-- string of a part of the list. -/
theorem run_string_part (B g N c at_ n : Nat) (f : Nat → Int) (hb : Bytes f) (hS : Sl w B g N c f) (hfit : at_ + n ≤ N) :
    (convert 29 9 (.slice (partA (some ⟨g, 0, none⟩) c at_) n (c - at_))).run Tryd.prog w = .ok (.string (strOf n fun i => f (at_ + i))) w := by
  have hc := hS.cap
  by_cases e : c = at_
  · obtain rfl : n = 0 := by omega
    rw [show partA (some ⟨g, 0, none⟩) c at_ = some ⟨g, 0, none⟩ from by simp [partA, e]]
    exact run_string_cells g 0 0 _ (fun i => f (at_ + i)) (fun i => hb _) (fun i hi => absurd hi (by omega))
  · rw [partA_some (show at_ < c by omega)]
    exact run_string_cells g at_ n _ (fun i => f (at_ + i)) (fun i => hb _) (fun i hi => hS.cell (at_ + i) (by omega))

/-- string(nil). -/
theorem run_string_nil : (convert 29 9 (.slice none 0 0)).run Tryd.prog w = .ok (.string ⟨#[]⟩) w := by
  rw [run_convert_bytes_string (P := Tryd.prog) w 29 9 5 none 0 0 Tryd.underlying29 Tryd.underlying5 Tryd.underlying9]
  simp [Conv.bytesToString]
  rfl

theorem bytes_bad (p g n : Nat) (f : Nat → Int) (at_ k : Int) (h : Ar w p g n f) (hk : k ≤ 9223372036854775807) (h0 : fits n at_ k ≠ 0) :
    Calls Tryd.prog 18 #[.pointer (some ⟨p, 0, none⟩), .int .i64 at_, .int .i64 k] w fun e w' => e = .returned (.tuple #[.slice none 0 0, .int .i64 (fits n at_ k)]) ∧ w = w' := by
  by_cases hk0 : k < 0
  · rw [show fits n at_ k = 1 from by unfold fits; rw [if_pos hk0]]
    exact bytes_neg _ at_ k hk0
  · have hf : at_ < 0 ∨ (n : Int) - k < at_ := by
      refine Classical.byContradiction fun hn => h0 (fits_mk ?_ ?_ ?_) <;> omega
    rw [show fits n at_ k = 4 from by unfold fits; rw [if_neg hk0, if_pos hf]]
    exact bytes_far _ _ n at_ k h.mem h.small (by omega) hk hf
end
end Go.Proofs.YtbdnijpbgbplaaaDoor
