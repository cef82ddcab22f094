/- The contracts of the document's answers for the arena (package turnbuckleref01): a list of bytes that is copied at each change. Condition: the list's cells are known. -/
import Derived.Test.YtbdnijpbgbplaaaDoorAny
import Derived.Laws.AppendOwn
import Derived.OwnWalk
namespace Go.Proofs.YtbdnijpbgbplaaaDoor
open Go.RowKit

/-- A list of N bytes, f, that the call itself made: its array is block g, from block B on. -/
def Sl (w : World) (B g N c : Nat) (f : Nat → Int) : Prop := w.ownsRow B 5 1 (.slice (some ⟨g, 0, none⟩) N c) N (row N f).toList

section
variable {w w' : World} {B g N c : Nat} {f : Nat → Int}
theorem Sl.cell (h : Sl w B g N c f) (i : Nat) (hi : i < N) : w.cell? ⟨g, i, none⟩ = some (.int .u8 (f i)) := by
  have := h.cellAt i (by omega)
  rw [this, Array.getElem?_toList, row_at _ _ _ hi]
theorem Sl.frozen (h : Sl w B g N c f) (i : Nat) : w.frozen? ⟨g, i, none⟩ = false := h.frozenAt i
theorem Sl.lt (h : Sl w B g N c f) : B ≤ g ∧ g < w.heap.size := World.ownsRow.lt h g rfl
theorem Sl.cap (h : Sl w B g N c f) : N ≤ c := by
  rcases h.2 with ⟨h', _⟩ | ⟨g', cap', cur, h', _, _, hnc, _⟩
  · simp at h'
  · simp only [Value.slice.injEq, Option.some.injEq, Addr.mk.injEq, and_true, true_and] at h'
    obtain ⟨rfl, rfl⟩ := h'
    exact hnc
theorem Sl.block (h : Sl w B g N c f) (e : w'.heap[g]? = w.heap[g]?) : Sl w' B g N c f := by
  refine ⟨h.1, ?_⟩
  rcases h.2 with ⟨h', _⟩ | ⟨g', cap', cur, h', h1, h2, h3⟩
  · simp at h'
  · refine .inr ⟨g', cap', cur, h', h1, ?_, h3⟩
    simp only [Value.slice.injEq, Option.some.injEq, Addr.mk.injEq, and_true, true_and] at h'
    obtain ⟨rfl, rfl⟩ := h'
    exact e.trans h2
theorem Sl.below {B' : Nat} (h : Sl w B g N c f) (hb : Below B' w w') (hg : g < B') : Sl w' B g N c f := h.block (hb.block g hg)
theorem Sl.only {g' : Nat} (h : Sl w B g N c f) (hb : Only g' w w') (hg : g ≠ g') : Sl w' B g N c f := h.block (hb.block g hg)
theorem Sl.alloc (h : Sl w B g N c f) (o : Obj) : Sl (w.alloc o) B g N c f := World.ownsRow.alloc h o
theorem Sl.congr {f' : Nat → Int} (h : Sl w B g N c f) (e : ∀ i, i < N → f i = f' i) : Sl w B g N c f' := by
  unfold Sl; rw [← row_congr e]; exact h
theorem Sl.less {B' : Nat} (h : Sl w B g N c f) (hB : B' ≤ B) : Sl w B' g N c f := by
  refine ⟨h.1, ?_⟩
  rcases h.2 with ⟨h', _⟩ | ⟨g', cap', cur, h', h1, h2⟩
  · simp at h'
  · exact .inr ⟨g', cap', cur, h', by omega, h2⟩
theorem Sl.put (h : Sl w B g N c f) (i : Nat) (u : Int) : Sl (w.setCell ⟨g, i, none⟩ (.int .u8 u)) B g N c (fun j => if j = i then u else f j) := by
  have := (World.ownsRow.stored h i (.int .u8 u)).1
  have e : (row N f).toList.set i (.int .u8 u) = (row N fun j => if j = i then u else f j).toList := by
    rw [← row_set, Array.toList_setIfInBounds]
  rw [e] at this
  exact this
end

/-! ### Width, Fits -/
section
variable {w : World}
theorem rwidth_any (x : Int) : Calls Tryd.prog 23 #[.int .i64 x] w fun e w' => e = .returned (.bool (isW x)) ∧ w = w' := by
  by_cases h1 : x = 1
  · subst h1
    go_enter Tryd.func23, Tryd.ntmps23
    go_wp2
    go_ret
    exact ⟨rfl, rfl⟩
  by_cases h2 : x = 2
  · subst h2
    go_enter Tryd.func23, Tryd.ntmps23
    go_wp2
    go_ret
    exact ⟨rfl, rfl⟩
  by_cases h3 : x = 4
  · subst h3
    go_enter Tryd.func23, Tryd.ntmps23
    go_wp2
    go_ret
    exact ⟨rfl, rfl⟩
  by_cases h4 : x = 8
  · subst h4
    go_enter Tryd.func23, Tryd.ntmps23
    go_wp2
    go_ret
    exact ⟨rfl, rfl⟩
  go_enter Tryd.func23, Tryd.ntmps23
  go_wp2
  go_ret
  exact ⟨rfl, rfl⟩

theorem rfits_any (N : Nat) (at_ n : Int) (hN : N ≤ 65536) (hn : n ≤ 9223372036854775807) : Calls Tryd.prog 24 #[.int .i64 N, .int .i64 at_, .int .i64 n] w fun e w' => e = .returned (.int .i64 (fits N at_ n)) ∧ w = w' := by
  by_cases h1 : n < 0
  · rw [show fits N at_ n = 1 from by unfold fits; rw [if_pos h1]]
    go_enter Tryd.func24, Tryd.ntmps24
    go_wp2
    go_ret
    exact ⟨rfl, rfl⟩
  by_cases h2 : at_ < 0
  · rw [show fits N at_ n = 4 from by unfold fits; rw [if_neg h1, if_pos (.inl h2)]]
    go_enter Tryd.func24, Tryd.ntmps24
    go_wp2
    go_ret
    exact ⟨rfl, rfl⟩
  by_cases h3 : (N : Int) < n
  · rw [show fits N at_ n = 4 from by unfold fits; rw [if_neg h1, if_pos (by omega)]]
    go_enter Tryd.func24, Tryd.ntmps24
    go_wp2
    go_ret
    exact ⟨rfl, rfl⟩
  by_cases h4 : (N : Int) - n < at_
  · rw [show fits N at_ n = 4 from by unfold fits; rw [if_neg h1, if_pos (by omega)]]
    go_enter Tryd.func24, Tryd.ntmps24
    go_wp2
    go_ret
    exact ⟨rfl, rfl⟩
  rw [show fits N at_ n = 0 from by unfold fits; rw [if_neg h1, if_neg (by omega)]]
  go_enter Tryd.func24, Tryd.ntmps24
  go_wp2
  go_ret
  exact ⟨rfl, rfl⟩

theorem accE_fits {N : Nat} {at_ width : Int} (h : isW width = true) : accE N at_ width = fits N at_ width := by
  have := isW_bd h
  unfold accE fits
  rw [if_neg (by simp [h]), if_neg (show ¬ width < 0 by omega)]
theorem accE_arg {N : Nat} {at_ width : Int} (h : isW width = false) : accE N at_ width = 1 := by
  unfold accE; rw [if_pos h]

/-! ### Load -/
theorem rload_bad (g N c : Nat) (f : Nat → Int) (at_ width : Int) (hN : N ≤ 65536) (h0 : accE N at_ width ≠ 0) :
    Calls Tryd.prog 13 #[.slice (some ⟨g, 0, none⟩) N c, .int .i64 at_, .int .i64 width] w fun e w' => e = .returned (.tuple #[.int .u64 (ldV N f at_ width), .int .i64 (accE N at_ width)]) ∧ w = w' := by
  rw [show ldV N f at_ width = 0 from by unfold ldV; rw [if_neg h0]]
  cases hW : isW width with
  | false =>
    rw [accE_arg hW]
    have HW := Lib.hid hW
    clear hW h0
    go_enter Tryd.func13, Tryd.ntmps13
    go_wp2_with (go_at_call 23; refine (rwidth_any _).mono ?_; rintro e w' ⟨rfl, rfl⟩; rw [HW.out])
    go_ret2
    exact ⟨rfl, rfl⟩
  | true =>
    have hb := isW_bd hW
    rw [accE_fits hW] at h0 ⊢
    have HW := Lib.hid hW
    have hq : (fits N at_ width != 0) = true := by simpa using h0
    clear hW h0
    go_enter Tryd.func13, Tryd.ntmps13
    go_wp2_with (first | (go_at_call 23; refine (rwidth_any _).mono ?_; rintro e w' ⟨rfl, rfl⟩; rw [HW.out]) | (go_at_call 24; refine (rfits_any _ _ _ hN (by omega)).mono ?_; rintro e w' ⟨rfl, rfl⟩))
    go_ret2
    exact ⟨rfl, rfl⟩

theorem ld_front (f : Nat → Int) (at_ m : Nat) : ld f at_ (m + 1) = ld f (at_ + 1) m * 256 + f at_ := by
  rw [Nat.add_comm, ld_add]
  simp [ld]
  omega

set_option maxRecDepth 100000 in
theorem rload_ok (B g N c : Nat) (f : Nat → Int) (at_ width : Nat) (hN : N ≤ 65536) (hf : Bytes f) (hW : isW width = true) (hfit : at_ + width ≤ N) (h : Sl w B g N c f) :
    Calls Tryd.prog 13 #[.slice (some ⟨g, 0, none⟩) N c, .int .i64 at_, .int .i64 width] w fun e w' => e = .returned (.tuple #[.int .u64 (ld f at_ width), .int .i64 0]) ∧ w = w' := by
  have hw := isW_8 hW
  have hb := isW_bd hW
  have HW := Lib.hid hW
  have HS := Lib.hid h
  have HF := Lib.hid (show fits N at_ width = 0 from fits_mk (by omega) (by omega) (by omega))
  clear hW h
  go_enter Tryd.func13, Tryd.ntmps13
  go_wp2_with (first | (go_at_call 23; refine (rwidth_any _).mono ?_; rintro e w' ⟨rfl, rfl⟩; rw [HW.out]) | (go_at_call 24; refine (rfits_any _ _ _ hN (by omega)).mono ?_; rintro e w' ⟨rfl, rfl⟩; rw [HF.out]))
  go_loop [9, 10] (fun v i => (∃ k : Nat, k < width ∧ i = .int .i64 k ∧ v = .int .u64 (ld f (at_ + k + 1) (width - k - 1))) ∨ (i = .int .i64 (-1) ∧ v = .int .u64 (ld f at_ width))) (fun _ i => (intOf i + 1).toNat)
  case atStart =>
    refine .inl ⟨width - 1, by omega, ?_, ?_⟩
    · go_num
    · rw [show width - (width - 1) - 1 = 0 by omega]; rfl
  case round =>
    rcases hrel with ⟨k, hk, rfl, rfl⟩ | ⟨rfl, rfl⟩
    · obtain ⟨x, hx⟩ : ∃ x, ld f (at_ + k + 1) (width - k - 1) = x := ⟨_, rfl⟩
      have hbd := ld_bound hf (at_ + k + 1) (width - k - 1)
      have hp : (256 : Int) ^ (width - k - 1) ≤ 256 ^ 7 := by
        have : (256 : Nat) ^ (width - k - 1) ≤ 256 ^ 7 := Nat.pow_le_pow_right (by decide) (by omega)
        exact_mod_cast this
      rw [hx] at hbd ⊢
      have hx0 : 0 ≤ x := hbd.1
      have hx1 : x < 72057594037927936 := by
        have : (256 : Int) ^ 7 = 72057594037927936 := by decide
        omega
      have hc := HS.out.cell (at_ + k) (by omega)
      obtain ⟨y, hy⟩ : ∃ y, f (at_ + k) = y := ⟨_, rfl⟩
      have hy0 := (hf (at_ + k)).1
      have hy1 := (hf (at_ + k)).2
      rw [hy] at hc hy0 hy1
      have HX := Lib.hid hx
      have HY := Lib.hid hy
      clear hx hy hbd hp
      have hres : ld f (at_ + k) (width - k) = x * 256 + y := by
        rw [show width - k = (width - k - 1) + 1 by omega, ld_front, HX.out, HY.out]
      have HR := Lib.hid hres
      clear hres
      by_cases hk0 : k = 0
      · subst hk0
        rw [Nat.add_zero] at hc
        go_wp2
        go_round
        case rel =>
          refine .inr ⟨rfl, ?_⟩
          have := HR.out
          simp only [Nat.add_zero, Nat.sub_zero] at this
          rw [this]
        case measure => simp [intOf]
      · obtain ⟨j, rfl⟩ : ∃ j, k = j + 1 := ⟨k - 1, by omega⟩
        go_wp2
        go_round
        case rel =>
          refine .inl ⟨j, by omega, by go_num, ?_⟩
          have := HR.out
          rw [show width - j - 1 = width - (j + 1) by omega, show at_ + j + 1 = at_ + (j + 1) by omega, this]
        case measure => simp [intOf]; omega
    · go_wp2
      go_ret2
      exact ⟨rfl, rfl⟩

theorem rload_any (B g N c : Nat) (f : Nat → Int) (at_ width : Int) (hN : N ≤ 65536) (hf : Bytes f) (h : Sl w B g N c f) :
    Calls Tryd.prog 13 #[.slice (some ⟨g, 0, none⟩) N c, .int .i64 at_, .int .i64 width] w fun e w' => e = .returned (.tuple #[.int .u64 (ldV N f at_ width), .int .i64 (accE N at_ width)]) ∧ w = w' := by
  by_cases h0 : accE N at_ width = 0
  · obtain ⟨hW, ha, hb⟩ := accE_ok h0
    have hw := isW_bd hW
    obtain ⟨a, rfl⟩ := Int.eq_ofNat_of_zero_le ha
    obtain ⟨k, rfl⟩ := Int.eq_ofNat_of_zero_le (Int.le_of_lt hw.1)
    rw [h0, show ldV N f a k = ld f a k from by unfold ldV; rw [if_pos h0]; rfl]
    exact rload_ok B g N c f a k hN hf hW (by omega) h
  · exact rload_bad g N c f at_ width hN h0
end
end Go.Proofs.YtbdnijpbgbplaaaDoor
