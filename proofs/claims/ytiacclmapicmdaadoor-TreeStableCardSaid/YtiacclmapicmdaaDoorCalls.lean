/- The contracts of the arena's exported functions. Conditions: the table of widths lies in its block; the arena's blocks are known. -/
import Derived.Test.YtiacclmapicmdaaDoorSmall
import Derived.Test.YtiacclmapicmdaaDoorMath
import Derived.Laws.CopyOwn
import Derived.Laws.IdiomStrings
namespace Go.Proofs.YtiacclmapicmdaaDoor
open Go.RowKit

/-- An arena of n bytes, f: its head in block p, its memory in block g. -/
structure Ar (w : World) (p g n : Nat) (f : Nat → Int) : Prop where
  head : Blk w p 90 #[.slice (some ⟨g, 0, none⟩) n n]
  body : Blk w g 5 (row n f)
  small : n ≤ 65536
  byte : Bytes f

section
variable {w w' : World} {p g n : Nat} {f : Nat → Int}
theorem Ar.mem (h : Ar w p g n f) : Mem w (some ⟨p, 0, none⟩) (some ⟨g, 0, none⟩) n := .inr ⟨p, rfl, h.head⟩
theorem Ar.cell (h : Ar w p g n f) (i : Nat) (hi : i < n) : w.cell? ⟨g, i, none⟩ = some (.int .u8 (f i)) := by
  rw [h.body.cell i, row_at _ _ _ hi]
theorem Ar.byteAt (h : Ar w p g n f) (i : Nat) (hi : i < n) :
    ∃ c : Int, 0 ≤ c ∧ c ≤ 255 ∧ Hid (f i = c) ∧ w.cell? ⟨g, i, none⟩ = some (.int .u8 c) :=
  ⟨f i, (h.byte i).1, (h.byte i).2, rfl, h.cell i hi⟩
theorem Ar.apart (h : Ar w p g n f) : p ≠ g := h.head.apart h.body (by decide)
theorem Ar.below {B : Nat} (h : Ar w p g n f) (hb : Below B w w') (hp : p < B) (hg : g < B) : Ar w' p g n f :=
  ⟨h.head.below hb hp, h.body.below hb hg, h.small, h.byte⟩
theorem Ar.only {g' : Nat} (h : Ar w p g n f) (hb : Only g' w w') (hp : p ≠ g') (hg : g ≠ g') : Ar w' p g n f :=
  ⟨h.head.only hb hp, h.body.only hb hg, h.small, h.byte⟩
theorem Ar.put (h : Ar w p g n f) (i : Nat) (c : Int) (hc : 0 ≤ c ∧ c ≤ 255) : Ar (w.setCell ⟨g, i, none⟩ (.int .u8 c)) p g n (fun j => if j = i then c else f j) :=
  ⟨h.head.only (Only.setCell w ⟨g, i, none⟩ _) h.apart, by have := h.body.put i (.int .u8 c); rwa [row_set] at this, h.small, fun j => by
    show 0 ≤ (if j = i then c else f j) ∧ (if j = i then c else f j) ≤ 255
    split
    · exact hc
    · exact h.byte j⟩
theorem Ar.congr {f' : Nat → Int} (h : Ar w p g n f) (e : f = f') : Ar w p g n f' := e ▸ h
end

theorem isW_8 {x : Nat} (h : isW x = true) : 0 < x ∧ x ≤ 8 := by
  simp [isW] at h
  omega
theorem partA_some {g N at_ : Nat} (h : at_ < N) : partA (some ⟨g, 0, none⟩) N at_ = some ⟨g, at_, none⟩ := by
  have : ¬ N = at_ := by omega
  simp [partA, this, Addr.add]
  omega

section
variable {w : World}

/-! ### Load -/
theorem load_arg (a : Option Addr) (at_ width : Int) (hT : Tab w) (hW : isW width = false) :
    Calls Tryd.prog 26 #[.pointer a, .int .i64 at_, .int .i64 width] w fun e w' => e = .returned (.tuple #[.int .u64 0, .int .i64 1]) ∧ w = w' := by
  have HT := Lib.hid hT
  have HW := Lib.hid hW
  clear hT hW
  go_enter Tryd.func26, Tryd.ntmps26
  go_wp2_with (go_at_call 55; refine (isWidth_any _ _ HT.out).mono ?_; rintro e w' ⟨rfl, rfl⟩; rw [HW.out])
  go_ret2
  exact ⟨rfl, rfl⟩

theorem isW_bd {x : Int} (h : isW x = true) : 0 < x ∧ x ≤ 8 := by
  simp [isW] at h
  omega

theorem load_far (a A : Option Addr) (N : Nat) (at_ width : Int) (hT : Tab w) (h : Mem w a A N) (hN : N ≤ 65536) (hW : isW width = true) (hf : at_ < 0 ∨ (N : Int) - width < at_) :
    Calls Tryd.prog 26 #[.pointer a, .int .i64 at_, .int .i64 width] w fun e w' => e = .returned (.tuple #[.int .u64 0, .int .i64 4]) ∧ w = w' := by
  have hw8 := isW_bd hW
  have HT := Lib.hid hT
  have HM := Lib.hid h
  have HW := Lib.hid hW
  have HF := Lib.hid hf
  clear hT hW h hf
  go_enter Tryd.func26, Tryd.ntmps26
  go_wp2_with (first | (go_at_call 55; refine (isWidth_any _ _ HT.out).mono ?_; rintro e w' ⟨rfl, rfl⟩; rw [HW.out]) | (go_at_call 56; refine (part_far _ _ _ _ _ _ HM.out hN (by omega) (by omega) HF.out).mono ?_; rintro e w' ⟨rfl, rfl⟩))
  go_ret2
  exact ⟨rfl, rfl⟩

set_option maxRecDepth 100000 in
theorem load_ok (p g n : Nat) (f : Nat → Int) (at_ width : Nat) (hT : Tab w) (h : Ar w p g n f) (hW : isW width = true) (hf : at_ + width ≤ n) :
    Calls Tryd.prog 26 #[.pointer (some ⟨p, 0, none⟩), .int .i64 at_, .int .i64 width] w fun e w' => e = .returned (.tuple #[.int .u64 (ld f at_ width), .int .i64 0]) ∧ w = w' := by
  have hs := h.small
  have hw8 := isW_8 hW
  have HP := Lib.hid (partA_some (g := g) (show at_ < n by omega))
  have HT := Lib.hid hT
  have HA := Lib.hid h
  have HW := Lib.hid hW
  clear hT h hW
  go_enter Tryd.func26, Tryd.ntmps26
  go_wp2_with (first | (go_at_call 55; refine (isWidth_any _ _ HT.out).mono ?_; rintro e w' ⟨rfl, rfl⟩; rw [HW.out]) | (go_at_call 56; refine (part_near _ _ _ _ _ _ HA.out.mem hs hf).mono ?_; rintro e w' ⟨rfl, rfl⟩; rw [HP.out]))
  go_loop [10, 26] (fun v i => ∃ k : Nat, k ≤ width ∧ i = .int .i64 k ∧ v = .int .u64 (ld f at_ k)) (fun _ i => width - (intOf i).toNat)
  case atStart => exact ⟨0, Nat.zero_le _, rfl, rfl⟩
  case round =>
    obtain ⟨k, hk, rfl, rfl⟩ := hrel
    by_cases hlt : k < width
    · obtain ⟨c, hc0, hc1, hE, hc⟩ := HA.out.byteAt (at_ + k) (by omega)
      have hk8 : k < 8 := by omega
      go_wp2
      go_round
      case rel =>
        refine ⟨k + 1, by omega, by go_num, ?_⟩
        obtain ⟨l1, l2⟩ := ld_bound HA.out.byte at_ k
        rw [or_shift _ _ _ hk8 l1 l2 hc0 hc1]
        show _ = Value.int .u64 (ld f at_ k + f (at_ + k) * 256 ^ k)
        rw [hE.out]
      case measure => simp [intOf]; omega
    · obtain rfl : width = k := by omega
      go_wp2
      go_ret2
      exact ⟨rfl, rfl⟩

/-! ### Store -/
theorem store_arg (a : Option Addr) (at_ width v : Int) (hT : Tab w) (hW : isW width = false) :
    Calls Tryd.prog 27 #[.pointer a, .int .i64 at_, .int .i64 width, .int .u64 v] w fun e w' => e = .returned (.int .i64 1) ∧ w = w' := by
  have HT := Lib.hid hT
  have HW := Lib.hid hW
  clear hT hW
  go_enter Tryd.func27, Tryd.ntmps27
  go_wp2_with (go_at_call 55; refine (isWidth_any _ _ HT.out).mono ?_; rintro e w' ⟨rfl, rfl⟩; rw [HW.out])
  go_ret
  exact ⟨rfl, rfl⟩

theorem store_far (a A : Option Addr) (N : Nat) (at_ width v : Int) (hT : Tab w) (h : Mem w a A N) (hN : N ≤ 65536) (hW : isW width = true) (hf : at_ < 0 ∨ (N : Int) - width < at_) :
    Calls Tryd.prog 27 #[.pointer a, .int .i64 at_, .int .i64 width, .int .u64 v] w fun e w' => e = .returned (.int .i64 4) ∧ w = w' := by
  have hw8 := isW_bd hW
  have HT := Lib.hid hT
  have HM := Lib.hid h
  have HW := Lib.hid hW
  have HF := Lib.hid hf
  clear hT hW h hf
  go_enter Tryd.func27, Tryd.ntmps27
  go_wp2_with (first | (go_at_call 55; refine (isWidth_any _ _ HT.out).mono ?_; rintro e w' ⟨rfl, rfl⟩; rw [HW.out]) | (go_at_call 56; refine (part_far _ _ _ _ _ _ HM.out hN (by omega) (by omega) HF.out).mono ?_; rintro e w' ⟨rfl, rfl⟩))
  go_ret
  exact ⟨rfl, rfl⟩

set_option maxRecDepth 100000 in
theorem store_ok (p g n : Nat) (f : Nat → Int) (at_ width : Nat) (v : Int) (hT : Tab w) (h : Ar w p g n f) (_hv : 0 ≤ v) (hW : isW width = true) (hf : at_ + width ≤ n) :
    Calls Tryd.prog 27 #[.pointer (some ⟨p, 0, none⟩), .int .i64 at_, .int .i64 width, .int .u64 v] w fun e w' => e = .returned (.int .i64 0) ∧ Ar w' p g n (st f at_ v width) ∧ Only g w w' := by
  have hs := h.small
  have hw8 := isW_8 hW
  have HP := Lib.hid (partA_some (g := g) (show at_ < n by omega))
  have HT := Lib.hid hT
  have HA := Lib.hid h
  have HW := Lib.hid hW
  clear hT h hW
  go_enter Tryd.func27, Tryd.ntmps27
  go_wp2_with (first | (go_at_call 55; refine (isWidth_any _ _ HT.out).mono ?_; rintro e w' ⟨rfl, rfl⟩; rw [HW.out]) | (go_at_call 56; refine (part_near _ _ _ _ _ _ HA.out.mem hs hf).mono ?_; rintro e w' ⟨rfl, rfl⟩; rw [HP.out]))
  go_loopw [26] (fun i wr => ∃ k : Nat, k ≤ width ∧ i = .int .i64 k ∧ Ar wr p g n (st f at_ v k) ∧ Only g w wr) (fun i _ => width - (intOf i).toNat)
  case atStart => exact ⟨0, Nat.zero_le _, rfl, HA.out.congr (st_zero _ _ _).symm, Only.refl _ _⟩
  case round =>
    obtain ⟨k, hk, rfl, hA, hO⟩ := hrel
    have HR := Lib.hid hA
    have HO := Lib.hid hO
    clear hA hO
    by_cases hlt : k < width
    · have hc := HR.out.cell (at_ + k) (by omega)
      have hfz := HR.out.body.frozen (at_ + k)
      have hk8 : k < 8 := by omega
      go_wp2
      go_roundw
      case rel =>
        refine ⟨k + 1, by omega, by go_num, ?_, ?_⟩
        · rw [byte_shift]
          exact (HR.out.put (at_ + k) (byteOf v k) (byteOf_bound _ _)).congr (st_succ f at_ v k)
        · exact HO.out.trans (Only.setCellAt _ _ _ _)
      case measure => simp [intOf]; omega
    · obtain rfl : width = k := by omega
      go_wp2
      go_ret
      exact ⟨rfl, HR.out, HO.out⟩

/-! ### Fill -/
theorem fill_neg (a : Option Addr) (at_ n c : Int) (hn : n < 0) :
    Calls Tryd.prog 37 #[.pointer a, .int .i64 at_, .int .i64 n, .int .u8 c] w fun e w' => e = .returned (.int .i64 1) ∧ w = w' := by
  go_enter Tryd.func37, Tryd.ntmps37
  go_wp2_with (go_at_call 56; refine (part_neg _ _ _ _ hn).mono ?_; rintro e w' ⟨rfl, rfl⟩)
  go_ret
  exact ⟨rfl, rfl⟩

theorem fill_far (a A : Option Addr) (N : Nat) (at_ n c : Int) (h : Mem w a A N) (hN : N ≤ 65536) (hn : 0 ≤ n) (hn2 : n ≤ 9223372036854775807) (hf : at_ < 0 ∨ (N : Int) - n < at_) :
    Calls Tryd.prog 37 #[.pointer a, .int .i64 at_, .int .i64 n, .int .u8 c] w fun e w' => e = .returned (.int .i64 4) ∧ w = w' := by
  have HM := Lib.hid h
  have HF := Lib.hid hf
  clear h hf
  go_enter Tryd.func37, Tryd.ntmps37
  go_wp2_with (go_at_call 56; refine (part_far _ _ _ _ _ _ HM.out hN hn hn2 HF.out).mono ?_; rintro e w' ⟨rfl, rfl⟩)
  go_ret
  exact ⟨rfl, rfl⟩

/-- Nothing is filled, of whatever arena. -/
theorem fill_none (a A : Option Addr) (N at_ : Nat) (c : Int) (h : Mem w a A N) (hN : N ≤ 65536) (hf : at_ ≤ N) :
    Calls Tryd.prog 37 #[.pointer a, .int .i64 at_, .int .i64 0, .int .u8 c] w fun e w' => e = .returned (.int .i64 0) ∧ w = w' := by
  have HM := Lib.hid h
  clear h
  go_enter Tryd.func37, Tryd.ntmps37
  go_wp2_with (go_at_call 56; refine (part_near _ _ _ _ 0 _ HM.out hN hf).mono ?_; rintro e w' ⟨rfl, rfl⟩)
  refine wp_loop_rounds 1 ?_
  rw [rounds_succ]
  go_wp2
  go_ret
  exact ⟨rfl, rfl⟩

set_option maxRecDepth 100000 in
theorem fill_ok (p g N : Nat) (f : Nat → Int) (at_ n : Nat) (c : Int) (h : Ar w p g N f) (hc : 0 ≤ c ∧ c ≤ 255) (hf : at_ + n ≤ N) :
    Calls Tryd.prog 37 #[.pointer (some ⟨p, 0, none⟩), .int .i64 at_, .int .i64 n, .int .u8 c] w fun e w' => e = .returned (.int .i64 0) ∧ Ar w' p g N (fl f at_ c n) ∧ Only g w w' := by
  rcases Nat.eq_zero_or_pos n with rfl | hn
  · refine (fill_none _ _ _ at_ c h.mem h.small hf).mono ?_
    rintro e w' ⟨rfl, rfl⟩
    exact ⟨rfl, h.congr (fl_zero _ _ _).symm, Only.refl _ _⟩
  have hs := h.small
  have HP := Lib.hid (partA_some (g := g) (show at_ < N by omega))
  have HA := Lib.hid h
  clear h
  go_enter Tryd.func37, Tryd.ntmps37
  go_wp2_with (go_at_call 56; refine (part_near _ _ _ _ _ _ HA.out.mem hs hf).mono ?_; rintro e w' ⟨rfl, rfl⟩; rw [HP.out])
  go_loopw [23] (fun i wr => ∃ k : Nat, k ≤ n ∧ i = .int .i64 k ∧ Ar wr p g N (fl f at_ c k) ∧ Only g w wr) (fun i _ => n - (intOf i).toNat)
  case atStart => exact ⟨0, Nat.zero_le _, rfl, HA.out.congr (fl_zero _ _ _).symm, Only.refl _ _⟩
  case round =>
    obtain ⟨k, hk, rfl, hA, hO⟩ := hrel
    have HR := Lib.hid hA
    have HO := Lib.hid hO
    clear hA hO
    by_cases hlt : k < n
    · have hcell := HR.out.cell (at_ + k) (by omega)
      have hfz := HR.out.body.frozen (at_ + k)
      go_wp2
      go_roundw
      case rel =>
        refine ⟨k + 1, by omega, by go_num, ?_, ?_⟩
        · exact (HR.out.put (at_ + k) c hc).congr (fl_succ f at_ c k)
        · exact HO.out.trans (Only.setCellAt _ _ _ _)
      case measure => simp [intOf]; omega
    · obtain rfl : n = k := by omega
      go_wp2
      go_ret
      exact ⟨rfl, HR.out, HO.out⟩

/-! ### Bytes -/
theorem bytes_neg (a : Option Addr) (at_ n : Int) (hn : n < 0) :
    Calls Tryd.prog 28 #[.pointer a, .int .i64 at_, .int .i64 n] w fun e w' => e = .returned (.tuple #[.slice none 0 0, .int .i64 1]) ∧ w = w' := by
  go_enter Tryd.func28, Tryd.ntmps28
  go_wp2_with (go_at_call 56; refine (part_neg _ _ _ _ hn).mono ?_; rintro e w' ⟨rfl, rfl⟩)
  go_ret2
  exact ⟨rfl, rfl⟩

theorem bytes_far (a A : Option Addr) (N : Nat) (at_ n : Int) (h : Mem w a A N) (hN : N ≤ 65536) (hn : 0 ≤ n) (hn2 : n ≤ 9223372036854775807) (hf : at_ < 0 ∨ (N : Int) - n < at_) :
    Calls Tryd.prog 28 #[.pointer a, .int .i64 at_, .int .i64 n] w fun e w' => e = .returned (.tuple #[.slice none 0 0, .int .i64 4]) ∧ w = w' := by
  have HM := Lib.hid h
  have HF := Lib.hid hf
  clear h hf
  go_enter Tryd.func28, Tryd.ntmps28
  go_wp2_with (go_at_call 56; refine (part_far _ _ _ _ _ _ HM.out hN hn hn2 HF.out).mono ?_; rintro e w' ⟨rfl, rfl⟩)
  go_ret2
  exact ⟨rfl, rfl⟩

theorem Tryd.info5 : (Tryd.prog.info? 5).map (fun i => (i.zero, i.size, i.bytes)) = some (some (.int .u8 0), 1, 1) := by kernel_rfl
theorem Tryd.size5 : (Tryd.prog.info? 5).map (·.size) = some 1 := by kernel_rfl

/-- make([]byte, n). -/
theorem run_make_bytes (w : World) (n : Nat) (hn : n ≤ 65536) :
    (Instr.makeSlice 57 (.int .i64 (n : Int)) (.int .i64 (n : Int))).run Tryd.prog w = .ok (.slice (some ⟨w.heap.size, 0, none⟩) n n) (w.alloc (.cells (row n fun _ => 0) 5)) := by
  obtain ⟨i0, hi, hz0, hz1, hz2⟩ := info_parts Tryd.info5
  have h := run_make (P := Tryd.prog) w 57 5 i0 (.int .u8 0) Tryd.underlying57 hi hz0 .i64 .i64 (n : Int) (n : Int) (by omega) (by omega) (by rw [hz2]; omega) (by omega)
  rw [h, hz1]
  have e : madeCells (Value.cells (.int .u8 0)) (n * 1) = row n fun _ => 0 := by
    apply Array.ext_getElem?
    intro j
    by_cases hj : j < n
    · rw [row_at _ _ j hj]
      have hl := congrArg (·[j]?) (toList_madeCells_one (.int .u8 0) (n * 1))
      simp only [Nat.mul_one] at hl ⊢
      have hv : Value.cells (.int .u8 0) = #[.int .u8 0] := rfl
      rw [hv, ← Array.getElem?_toList, hl]
      simp [hj]
    · rw [Array.getElem?_eq_none (by rw [size_madeCells]; omega), Array.getElem?_eq_none (by rw [row_size]; omega)]
  simp only [Int.toNat_natCast]
  rw [e]

/-- copy(out, part), out just made. -/
theorem run_copy_bytes (p g N : Nat) (f : Nat → Int) (at_ n c : Nat) (h : Ar w p g N f) (hf : at_ + n ≤ N) :
    ∃ w2, (Builtin.copy_ #[57, 57] 3 #[.slice (some ⟨w.heap.size, 0, none⟩) n n, .slice (partA (some ⟨g, 0, none⟩) N at_) n c]).run Tryd.prog (w.alloc (.cells (row n fun _ => 0) 5)) = .ok (.int .i64 n) w2 ∧
      Hid (Blk w2 w.heap.size 5 (row n fun i => f (at_ + i))) ∧ Hid (Below w.heap.size w w2) := by
  rcases Nat.eq_zero_or_pos n with rfl | hn
  · refine ⟨_, run_copy_none (P := Tryd.prog) _ 57 57 3 5 _ _ 0 0 0 c Tryd.underlying57 Tryd.size5 rfl, ?_, (Below.refl _ _).alloc (Nat.le_refl _) _⟩
    have e : (row 0 fun i => f (at_ + i)) = row 0 fun _ => 0 := rfl
    rw [e]
    exact Blk.new _ _ _
  · rw [partA_some (by omega)]
    have hg : g < w.heap.size := h.body.lt
    have hr := run_copy_row (P := Tryd.prog) (w.alloc (.cells (row n fun _ => 0) 5)) 57 57 3 5 w.heap.size 0 n n ⟨g, at_, none⟩ n c (row n fun _ => 0) 5 (row n fun i => f (at_ + i)).toList
      Tryd.underlying57 Tryd.size5 (Blk.new _ _ _) (by simp [row]) (by
        intro j v hv
        have hj : j < n := by
          rcases Nat.lt_or_ge j n with hlt | hge
          · exact hlt
          · rw [Array.getElem?_toList, Array.getElem?_eq_none (by rw [row_size]; exact hge)] at hv; cases hv
        rw [Array.getElem?_toList, row_at _ _ _ hj] at hv
        have ea : Addr.add ⟨g, at_, none⟩ j = ⟨g, at_ + j, none⟩ := by unfold Addr.add; split <;> simp_all
        rw [ea, (h.body.alloc _).cell, row_at _ _ _ (by omega), hv]) (by simp [row]) (by
        intro v hv
        simp [row] at hv
        obtain ⟨_, _, rfl⟩ := hv
        rfl)
    have hl : (row n fun i => f (at_ + i)).toList.length = n := by simp [row]
    have e : (List.take 0 (row n fun _ => 0).toList ++ (row n fun i => f (at_ + i)).toList ++ List.drop (0 + (row n fun i => f (at_ + i)).toList.length) (row n fun _ => 0).toList).toArray = row n fun i => f (at_ + i) := by
      have hd : List.drop (0 + (row n fun i => f (at_ + i)).toList.length) (row n fun _ => 0).toList = [] := by
        apply List.drop_eq_nil_of_le; simp [row]
      rw [hd]; simp
    rw [e, hl] at hr
    exact ⟨_, hr, setRow_heap (w.alloc (.cells (row n fun _ => 0) 5)) w.heap.size _ _ 5 _ (Blk.new _ _ _), below_setRow ((Below.refl _ _).alloc (Nat.le_refl _) _) (Nat.le_refl _) _⟩

set_option maxRecDepth 100000 in
theorem bytes_ok (p g N : Nat) (f : Nat → Int) (at_ n : Nat) (h : Ar w p g N f) (hf : at_ + n ≤ N) :
    Calls Tryd.prog 28 #[.pointer (some ⟨p, 0, none⟩), .int .i64 at_, .int .i64 n] w fun e w' =>
      e = .returned (.tuple #[.slice (some ⟨w.heap.size, 0, none⟩) n n, .int .i64 0]) ∧ Blk w' w.heap.size 5 (row n fun i => f (at_ + i)) ∧ Below w.heap.size w w' := by
  have hs := h.small
  have hmk := fun w => run_make_bytes w n (by omega)
  obtain ⟨w2, hcp, HB, HL⟩ := run_copy_bytes p g N f at_ n (N - at_) h hf
  have HA := Lib.hid h
  clear h
  go_enter Tryd.func28, Tryd.ntmps28
  go_wp2_with (go_at_call 56; refine (part_near _ _ _ _ _ _ HA.out.mem hs hf).mono ?_; rintro e w' ⟨rfl, rfl⟩)
  go_ret2
  exact ⟨rfl, HB.out, HL.out⟩

/-- The text of a memory's bytes. -/
def strOf (n : Nat) (f : Nat → Int) : ByteArray := ⟨((List.range n).map fun i => UInt8.ofNat (f i).toNat).toArray⟩
theorem strOf_congr {n : Nat} {f h : Nat → Int} (e : ∀ i, i < n → f i = h i) : strOf n f = strOf n h := by
  unfold strOf
  congr 2
  apply List.map_congr_left
  intro i hi
  rw [e i (by simpa using hi)]
/-- string(b). -/
theorem run_string (g o n N c : Nat) (f : Nat → Int) (hb : Bytes f) (h : Blk w g 5 (row N f)) (hn : o + n ≤ N) :
    (convert 57 9 (.slice (some ⟨g, o, none⟩) n c)).run Tryd.prog w = .ok (.string (strOf n fun i => f (o + i))) w := by
  have hr := run_convert_bytes_back (P := Tryd.prog) w 57 9 5 ⟨g, o, none⟩ c ((List.range n).map fun i => UInt8.ofNat (f (o + i)).toNat) Tryd.underlying57 Tryd.underlying5 Tryd.underlying9 (by
    intro j hj
    have hj' : j < n := by simpa using hj
    have ea : Addr.add ⟨g, o, none⟩ j = ⟨g, o + j, none⟩ := by unfold Addr.add; split <;> simp_all
    rw [ea, h.cell, row_at _ _ _ (by omega)]
    have h1 := hb (o + j)
    simp
    omega)
  simp only [List.length_map, List.length_range] at hr
  exact hr

/-! ### New -/
theorem new_bad (n : Int) (hn : n < 0 ∨ 65536 < n) :
    Calls Tryd.prog 32 #[.int .i64 n] w fun e w' => e = .returned (.tuple #[.pointer none, .int .i64 1]) ∧ w = w' := by
  rcases hn with hn | hn
  · go_enter Tryd.func32, Tryd.ntmps32
    go_wp2
    go_ret2
    exact ⟨rfl, rfl⟩
  · have h0 : ¬ n < 0 := by omega
    go_enter Tryd.func32, Tryd.ntmps32
    go_wp2
    go_ret2
    exact ⟨rfl, rfl⟩

theorem new_ok (n : Nat) (hn : n ≤ 65536) :
    Calls Tryd.prog 32 #[.int .i64 n] w fun e w' => e = .returned (.tuple #[.pointer (some ⟨w.heap.size + 1, 0, none⟩), .int .i64 0]) ∧ Ar w' (w.heap.size + 1) w.heap.size n (fun _ => 0) ∧ w'.heap.size = w.heap.size + 2 ∧ Below w.heap.size w w' := by
  have hmk := fun w => run_make_bytes w n hn
  go_enter Tryd.func32, Tryd.ntmps32
  go_wp2
  go_ret2
  refine ⟨rfl, ⟨?_, ?_, hn, fun _ => ⟨Int.le_refl _, by decide⟩⟩, by simp, ((Below.refl _ _).alloc (Nat.le_refl _) _).alloc (by simp) _⟩
  · have h := Blk.new (w.alloc (.cells (row n fun _ => 0) 5)) 90 #[.slice (some ⟨w.heap.size, 0, none⟩) n n]
    simpa using h
  · exact (Blk.new w 5 (row n fun _ => 0)).alloc _
end
end Go.Proofs.YtiacclmapicmdaaDoor
