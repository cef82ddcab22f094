/- The contracts of the slab's Block, and of a nil slab's. Conditions: the slab's blocks are known. -/
import Derived.Test.YthblpnnbkjhmhaaDoorSAlloc
import Derived.BigQuiet
namespace Go.Proofs.YthblpnnbkjhmhaaDoor
open Go.RowKit
open Pool (num cnt upd Pl low setR num_testBit quiet_same)

section
variable {w w' : World} {L : Pt} {n : Nat} {s : St} {f : Nat → Int}
theorem isB_nat (a : Nat) : isB n s a = (decide (a < 512 * n) && !decide ((s (a / 512)).1 = 0) && decide (a % (s (a / 512)).1 = 0) && !decide (a ∈ (s (a / 512)).2)) := by
  unfold isB
  have h1 : decide ((0 : Int) ≤ (a : Int)) = true := by simp
  have h2 : decide ((a : Int) < ((512 * n : Nat) : Int)) = decide (a < 512 * n) := by
    by_cases h : a < 512 * n
    · rw [decide_eq_true h, decide_eq_true (by omega)]
    · rw [decide_eq_false h, decide_eq_false (by omega)]
  rw [h1, h2, Int.toNat_natCast, Bool.true_and]
theorem isB_out {at_ : Int} (h : at_ < 0 ∨ ((512 * n : Nat) : Int) ≤ at_) : isB n s at_ = false := by
  unfold isB
  rcases h with h | h
  · have : decide (0 ≤ at_) = false := by simp; omega
    rw [this]; rfl
  · have : decide (at_ < ((512 * n : Nat) : Int)) = false := by simp; omega
    rw [this]; simp
/-- The bit of a place that is a multiple of the class. -/
theorem bit_mem {a c : Nat} {l : List Nat} (hs : s (a / 512) = (c, l)) (hC : IsC c) (hm : a % c = 0) : (num (tk s (a / 512)) 32).testBit (a % 512 / c) = !decide (a ∈ l) := by
  obtain ⟨h1, h2⟩ := blk_of hC hm
  have := hC.many
  rw [num_testBit]
  unfold tk
  rw [hs]
  dsimp only
  rw [← h2]
  have h3 : a % 512 / c < 32 := by omega
  simp [h1, h3]
theorem below_drewN {B : Nat} {w w' : World} (h : Below B w w') (m : Nat) : Below B w (w'.drewN m) := ⟨h.os, h.tape, h.output, h.size, h.block⟩

set_option maxRecDepth 100000 in
set_option maxHeartbeats 1000000 in
theorem block_any (at_ : Int) (h : Sl w L n s f) :
    Calls Tryd.prog 25 #[.pointer (some ⟨L.p, 0, none⟩), .int .i64 at_] w fun e w' => e = .returned (.tuple #[.int .i64 (bkV n s at_), .bool (isB n s at_)]) ∧ Below w.heap.size w w' := by
  have hn := h.raw.small
  have h2 := h.raw.h2
  have H := Lib.hid h
  clear h
  by_cases hneg : at_ < 0
  · have e1 := isB_out (n := n) (s := s) (.inl hneg)
    have e2 : bkV n s at_ = 0 := by unfold bkV; rw [e1]; rfl
    rw [e1, e2]
    clear e1 e2 h2
    have hd : decide (at_ < 0) = true := decide_eq_true hneg
    go_enter Tryd.func25, Tryd.ntmps25
    go_wp2
    go_ret2
    exact ⟨rfl, Below.refl _ _⟩
  by_cases hbig : ((512 * n : Nat) : Int) ≤ at_
  · have e1 := isB_out (n := n) (s := s) (.inr hbig)
    have e2 : bkV n s at_ = 0 := by unfold bkV; rw [e1]; rfl
    rw [e1, e2]
    have hd : decide (at_ < 0) = false := decide_eq_false hneg
    clear e1 e2 h2
    go_enter Tryd.func25, Tryd.ntmps25
    go_wp2_with (first | (go_at_call 11; refine (arena_at H.out.raw).mono ?_; rintro e w' ⟨rfl, rfl⟩) | (go_at_call 12; refine (len_any _ _ _ _ H.out.raw.ar.mem).mono ?_; rintro e w' ⟨rfl, rfl⟩))
    go_ret2
    exact ⟨rfl, Below.refl _ _⟩
  obtain ⟨a, rfl⟩ : ∃ a : Nat, at_ = a := ⟨at_.toNat, by omega⟩
  have ha : a < 512 * n := by omega
  have hd : decide (((a : Nat) : Int) < 0) = false := decide_eq_false hneg
  have hi : a / 512 < n := by omega
  have hq : (a : Int).tdiv 512 = ((a / 512 : Nat) : Int) := by rw [Int.tdiv_eq_ediv_of_nonneg (by omega)]; omega
  have c0 := H.out.raw.p0 _ hi
  have c1 := H.out.raw.p1 _ hi
  have c2 := H.out.raw.p2 _ hi
  have hB := isB_nat (n := n) (s := s) a
  generalize hs : s (a / 512) = pg at hB
  obtain ⟨c, l⟩ := pg
  have hr : rawOf s (a / 512) = (c, num (tk s (a / 512)) 32, head0 l) := by unfold rawOf; rw [hs]
  rw [hr] at c0 c1 c2
  dsimp only at c0 c1 c2 hB
  have hbk : bkV n s a = if isB n s a then (c : Int) else 0 := by unfold bkV; rw [Int.toNat_natCast, hs]
  rw [hbk, hB]
  have hIC := H.out.inv.cls (a / 512)
  rw [hs] at hIC
  dsimp only at hIC
  have htk := num_lt32 (tk s (a / 512))
  have hbm : IsC c → a % c = 0 → (num (tk s (a / 512)) 32).testBit (a % 512 / c) = !decide (a ∈ l) := fun hC hm => bit_mem hs hC hm
  have hdl : decide (a < 512 * n) = true := decide_eq_true ha
  rw [hdl, Bool.true_and]
  clear hneg hbig hB hs hr hbk hdl
  generalize num (tk s (a / 512)) 32 = tkn at *
  generalize head0 l = nx at *
  generalize a / 512 = i at *
  obtain ⟨w1, hw1⟩ : ∃ w1, w1 = w.alloc (.cells #[.int .i64 c, .int .u32 tkn, .int .i64 nx] 77) := ⟨_, rfl⟩
  have b1 : Blk w1 w.heap.size 77 #[.int .i64 c, .int .u32 tkn, .int .i64 nx] := by rw [hw1]; exact Blk.new _ _ _
  have l1 : Below w.heap.size w w1 := by rw [hw1]; exact (Below.refl _ w).alloc (Nat.le_refl _) _
  have q0 : w1.cell? ⟨w.heap.size, 0, none⟩ = some (.int .i64 c) := b1.cell 0
  have q1 : w1.cell? ⟨w.heap.size, 1, none⟩ = some (.int .u32 tkn) := b1.cell 1
  have Q0 := Lib.hid q0
  have L1 := Lib.hid l1
  clear b1 l1
  have HW1 := Lib.hid hw1
  rcases hIC with rfl | hC
  · clear hbm
    have HW1 := Lib.hid (show w1 = w.alloc (.cells #[.int .i64 0, .int .u32 tkn, .int .i64 nx] 77) from hw1)
    go_enter Tryd.func25, Tryd.ntmps25
    go_wp2_with (first | (go_at_call 11; refine (arena_at H.out.raw).mono ?_; rintro e w' ⟨rfl, rfl⟩) | (go_at_call 12; refine (len_any _ _ _ _ H.out.raw.ar.mem).mono ?_; rintro e w' ⟨rfl, rfl⟩))
    rw [← HW1.out]
    clear hw1
    go_quiet (fail)
    go_wp2
    go_ret2
    exact ⟨rfl, below_drewN L1.out _⟩
  · have hb := hC.bd
    have hc0 : ((c : Nat) : Int) ≠ 0 := by omega
    have hcb : (((c : Nat) : Int) == 0) = false := by simpa using hc0
    have hd0 : decide (c = 0) = false := decide_eq_false (by omega)
    have hmd : (a : Int).tmod c = ((a % c : Nat) : Int) := by rw [Int.tmod_eq_emod_of_nonneg (by omega)]; omega
    have HC := Lib.hid hC
    rw [hd0]
    by_cases hm : a % c = 0
    · have hbb := hbm hC hm
      have hdm : decide (a % c = 0) = true := decide_eq_true hm
      rw [hdm]
      obtain ⟨m, hmm⟩ : ∃ m, m = a % c := ⟨_, rfl⟩
      rw [← hmm] at hmd
      have hm2 : (((m : Nat) : Int) != 0) = false := by rw [hmm, hm]; rfl
      have hwm : IntKind.i64.wrap ((m : Nat) : Int) = m := by rw [hmm, hm]; rfl
      have hj : a % 512 / c < 32 := by
        rcases hC with rfl | rfl | rfl | rfl | rfl <;> omega
      clear hbm hm hdm hC hmm
      have BT : Hid (∀ m, Calls Tryd.prog 36 #[.pointer (some ⟨w.heap.size, 0, none⟩), .int .i64 a] (w1.drewN m) fun e w' => e = .returned (.int .u32 (bt (a % 512 / c) : Nat)) ∧ w1.drewN m = w') := Lib.hid fun m => bit_any (w := w1.drewN m) _ 0 a c Q0.out HC.out (by omega)
      generalize hjj : a % 512 / c = j at *
      by_cases hin : a ∈ l
      · rw [decide_eq_true hin] at hbb ⊢
        have hb1 := b_and_f htk hj hbb
        clear hbb hin
        go_enter Tryd.func25, Tryd.ntmps25
        go_wp2_with (first | (go_at_call 11; refine (arena_at H.out.raw).mono ?_; rintro e w' ⟨rfl, rfl⟩) | (go_at_call 12; refine (len_any _ _ _ _ H.out.raw.ar.mem).mono ?_; rintro e w' ⟨rfl, rfl⟩))
        rw [← HW1.out]
        clear hw1
        go_quiet ((go_at_call 36; exact quiet_same (BT.out _)))
        go_wp2
        go_ret2
        exact ⟨rfl, below_drewN L1.out _⟩
      · rw [decide_eq_false hin] at hbb ⊢
        have hb1 := b_and_t htk hj hbb
        have hb2 : ((bt j : Nat) : Int) ≠ 0 := by have := bt_pos j; omega
        have hb3 : (((bt j : Nat) : Int) == 0) = false := by simpa using hb2
        clear hbb hin
        go_enter Tryd.func25, Tryd.ntmps25
        go_wp2_with (first | (go_at_call 11; refine (arena_at H.out.raw).mono ?_; rintro e w' ⟨rfl, rfl⟩) | (go_at_call 12; refine (len_any _ _ _ _ H.out.raw.ar.mem).mono ?_; rintro e w' ⟨rfl, rfl⟩))
        rw [← HW1.out]
        clear hw1
        go_quiet ((go_at_call 36; exact quiet_same (BT.out _)))
        go_wp2
        go_ret2
        exact ⟨rfl, below_drewN L1.out _⟩
    · have hdm : decide (a % c = 0) = false := decide_eq_false hm
      rw [hdm]
      have hm' : ((a % c : Nat) : Int) ≠ 0 := by omega
      have hm2 : (((a % c : Nat) : Int) != 0) = true := by rw [bne_iff_ne]; exact hm'
      generalize a % c = m at *
      clear hbm hm hdm hC
      go_enter Tryd.func25, Tryd.ntmps25
      go_wp2_with (first | (go_at_call 11; refine (arena_at H.out.raw).mono ?_; rintro e w' ⟨rfl, rfl⟩) | (go_at_call 12; refine (len_any _ _ _ _ H.out.raw.ar.mem).mono ?_; rintro e w' ⟨rfl, rfl⟩))
      rw [← HW1.out]
      clear hw1
      go_quiet (fail)
      go_wp2
      go_ret2
      exact ⟨rfl, below_drewN L1.out _⟩

theorem block_nil (at_ : Int) :
    Calls Tryd.prog 25 #[.pointer none, .int .i64 at_] w fun e w' => e = .returned (.tuple #[.int .i64 0, .bool false]) ∧ w = w' := by
  have hm : Mem w none none 0 := .inl ⟨rfl, rfl, rfl⟩
  have HM := Lib.hid hm
  clear hm
  by_cases hneg : at_ < 0
  · have hd : decide (at_ < 0) = true := decide_eq_true hneg
    go_enter Tryd.func25, Tryd.ntmps25
    go_wp2
    go_ret2
    exact ⟨rfl, rfl⟩
  · have hd : decide (at_ < 0) = false := decide_eq_false hneg
    go_enter Tryd.func25, Tryd.ntmps25
    go_wp2_with (first | (go_at_call 11; refine (arena_nil).mono ?_; rintro e w' ⟨rfl, rfl⟩) | (go_at_call 12; refine (len_any _ _ _ _ HM.out).mono ?_; rintro e w' ⟨rfl, rfl⟩))
    go_ret2
    exact ⟨rfl, rfl⟩
end
end Go.Proofs.YthblpnnbkjhmhaaDoor
