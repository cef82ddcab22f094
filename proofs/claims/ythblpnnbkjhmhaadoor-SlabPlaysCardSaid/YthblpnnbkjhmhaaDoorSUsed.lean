/- The contracts of the slab's Used, Pages, New, and of a nil slab's functions. Conditions: the slab's blocks are known. -/
import Derived.Test.YthblpnnbkjhmhaaDoorSOnes
import Derived.LoopNIn
namespace Go.Proofs.YthblpnnbkjhmhaaDoor
open Go.RowKit
open Pool (num cnt upd Pl low setR num_testBit quiet_same cnt_le)

section
variable {n : Nat} {s : St}
theorem usd_le (hI : Inv0 n s) : ∀ k, usd s k ≤ k * 8192
  | 0 => Nat.zero_le _
  | k + 1 => by
    have h1 := usd_le hI k
    have h2 := cls_le hI k
    have h3 := cnt_le (tk s k) 32
    have h4 := Nat.mul_le_mul h2 h3
    unfold usd
    omega
theorem pgs_le (s : St) : ∀ k, pgs s k ≤ k
  | 0 => Nat.zero_le _
  | k + 1 => by
    have := pgs_le s k
    unfold pgs
    split <;> omega
end

section
variable {w w' : World} {L : Pt} {n : Nat} {s : St} {f : Nat → Int}
set_option maxRecDepth 100000 in
theorem used_any (h : Sl w L n s f) :
    Calls Tryd.prog 21 #[.pointer (some ⟨L.p, 0, none⟩)] w fun e w' => e = .returned (.int .i64 (usd s n : Nat)) ∧ Below w.heap.size w w' := by
  have hn := h.raw.small
  have H := Lib.hid h
  clear h
  go_enter Tryd.func21, Tryd.ntmps21
  go_wp2_with (go_at_call 39; refine (all_at H.out.raw).mono ?_; rintro e w' ⟨rfl, rfl⟩)
  go_loopw [3, 9] (fun u v wr => ∃ k : Nat, k ≤ n ∧ v = .int .i64 k ∧ u = .int .i64 (usd s k : Nat) ∧ Hid (Below w.heap.size w wr)) (fun _ v _ => n - (intOf v).toNat)
  case atStart => exact ⟨0, Nat.zero_le _, rfl, rfl, Lib.hid (Below.refl _ _)⟩
  case round =>
    obtain ⟨k, hk, rfl, rfl, hBl⟩ := hrel
    by_cases hlt : k < n
    · have hS := H.out.fr_below hBl.out
      have c0 := hS.raw.p0 k hlt
      have c1 := hS.raw.p1 k hlt
      have c2 := hS.raw.p2 k hlt
      have hr : rawOf s k = ((s k).1, num (tk s k) 32, head0 (s k).2) := rfl
      rw [hr] at c0 c1 c2
      dsimp only at c0 c1 c2
      have hu := usd_le H.out.inv.toInv0 k
      have hc := cls_le H.out.inv.toInv0 k
      have hct := cnt_le (tk s k) 32
      have hm := Nat.mul_le_mul hc hct
      have hus : usd s (k + 1) = usd s k + (s k).1 * cnt (tk s k) 32 := rfl
      have hmi : (((s k).1 : Nat) : Int) * ((cnt (tk s k) 32 : Nat) : Int) = (((s k).1 * cnt (tk s k) 32 : Nat) : Int) := by rw [Int.natCast_mul]
      have HUS := Lib.hid hus
      have ON := Lib.hid (fun (w : World) => ones_any (w := w) (tk s k))
      generalize head0 (s k).2 = nx at *
      generalize num (tk s k) 32 = tkn at *
      generalize cnt (tk s k) 32 = cn at *
      generalize (s k).1 = c at *
      obtain ⟨m, hmm⟩ : ∃ m, m = c * cn := ⟨_, rfl⟩
      rw [← hmm] at hmi hm
      have HMM := Lib.hid hmm
      clear hmm hr hus hS
      generalize usd s k = us at *
      have hw1 : IntKind.i64.wrap ((m : Nat) : Int) = m := IntWalk.i64_in _ (by omega)
      have hw2 : IntKind.i64.wrap (((us : Nat) : Int) + m) = us + m := IntWalk.i64_in _ (by omega)
      go_wp2_with fail
      obtain ⟨w1, hw⟩ : ∃ w1, w1 = wr.alloc (.cells #[.int .i64 c, .int .u32 tkn, .int .i64 nx] 77) := ⟨_, rfl⟩
      rw [← hw]
      have b1 : Blk w1 wr.heap.size 77 #[.int .i64 c, .int .u32 tkn, .int .i64 nx] := by rw [hw]; exact Blk.new _ _ _
      have l1 : Below wr.heap.size wr w1 := by rw [hw]; exact (Below.refl _ wr).alloc (Nat.le_refl _) _
      have q0 : w1.cell? ⟨wr.heap.size, 0, none⟩ = some (.int .i64 c) := b1.cell 0
      have q1 : w1.cell? ⟨wr.heap.size, 1, none⟩ = some (.int .u32 tkn) := b1.cell 1
      have L1 := Lib.hid (hBl.out.trans (l1.mono hBl.out.size))
      clear hw b1 l1 c0 c1 c2
      go_quiet ((go_at_call 40; exact Calls.quiet_of (ON.out _)))
      go_wp2
      go_roundw
      case rel =>
        refine ⟨k + 1, hlt, by go_num, ?_, Lib.hid (below_drewN L1.out _)⟩
        rw [HUS.out, ← HMM.out]
        simp
      case measure => simp [intOf]; omega
    · obtain rfl : n = k := by omega
      have hB := hBl
      go_wp2
      go_ret
      exact ⟨rfl, hB.out⟩

set_option maxRecDepth 100000 in
theorem pages_any (h : Sl w L n s f) :
    Calls Tryd.prog 23 #[.pointer (some ⟨L.p, 0, none⟩)] w fun e w' => e = .returned (.int .i64 (pgs s n : Nat)) ∧ Below w.heap.size w w' := by
  have hn := h.raw.small
  have H := Lib.hid h
  clear h
  go_enter Tryd.func23, Tryd.ntmps23
  go_wp2_with (go_at_call 39; refine (all_at H.out.raw).mono ?_; rintro e w' ⟨rfl, rfl⟩)
  go_loopw [3, 9] (fun u v wr => ∃ k : Nat, k ≤ n ∧ v = .int .i64 k ∧ u = .int .i64 (pgs s k : Nat) ∧ Hid (Below w.heap.size w wr)) (fun _ v _ => n - (intOf v).toNat)
  case atStart => exact ⟨0, Nat.zero_le _, rfl, rfl, Lib.hid (Below.refl _ _)⟩
  case round =>
    obtain ⟨k, hk, rfl, rfl, hBl⟩ := hrel
    by_cases hlt : k < n
    · have hS := H.out.fr_below hBl.out
      have c0 := hS.raw.p0 k hlt
      have c1 := hS.raw.p1 k hlt
      have c2 := hS.raw.p2 k hlt
      have hr : rawOf s k = ((s k).1, num (tk s k) 32, head0 (s k).2) := rfl
      rw [hr] at c0 c1 c2
      dsimp only at c0 c1 c2
      have hu := pgs_le s k
      have hus : pgs s (k + 1) = pgs s k + if (s k).1 = 0 then 0 else 1 := rfl
      have HUS := Lib.hid hus
      generalize head0 (s k).2 = nx at *
      generalize num (tk s k) 32 = tkn at *
      generalize (s k).1 = c at *
      clear hr hus hS
      generalize pgs s k = us at *
      by_cases hc : c = 0
      · subst hc
        go_wp2
        go_roundw
        case rel =>
          refine ⟨k + 1, hlt, by go_num, ?_, Lib.hid (hBl.out.alloc hBl.out.size _)⟩
          rw [HUS.out]
          rfl
        case measure => simp [intOf]; omega
      · have hci : ¬ ((c : Nat) : Int) = 0 := by omega
        have HCN := Lib.hid hc
        clear hc
        go_wp2
        go_roundw
        case rel =>
          refine ⟨k + 1, hlt, by go_num, ?_, Lib.hid (hBl.out.alloc hBl.out.size _)⟩
          rw [HUS.out, if_neg HCN.out]
          simp
        case measure => simp [intOf]; omega
    · obtain rfl : n = k := by omega
      have hB := hBl
      go_wp2
      go_ret
      exact ⟨rfl, hB.out⟩

/-! ### A nil slab -/
theorem used_nil :
    Calls Tryd.prog 21 #[.pointer none] w fun e w' => e = .returned (.int .i64 0) ∧ w = w' := by
  go_enter Tryd.func21, Tryd.ntmps21
  go_wp2_with (go_at_call 39; refine (all_nil).mono ?_; rintro e w' ⟨rfl, rfl⟩)
  refine wp_loop_rounds 2 ?_
  rw [rounds_succ]
  go_wp2
  go_ret
  exact ⟨rfl, rfl⟩
theorem pages_nil :
    Calls Tryd.prog 23 #[.pointer none] w fun e w' => e = .returned (.int .i64 0) ∧ w = w' := by
  go_enter Tryd.func23, Tryd.ntmps23
  go_wp2_with (go_at_call 39; refine (all_nil).mono ?_; rintro e w' ⟨rfl, rfl⟩)
  refine wp_loop_rounds 2 ?_
  rw [rounds_succ]
  go_wp2
  go_ret
  exact ⟨rfl, rfl⟩
theorem free_nil (at_ : Int) :
    Calls Tryd.prog 19 #[.pointer none, .int .i64 at_] w fun e w' => e = .returned (.int .i64 1) ∧ w = w' := by
  go_enter Tryd.func19, Tryd.ntmps19
  go_wp2_with (go_at_call 25; refine (block_nil _).mono ?_; rintro e w' ⟨rfl, rfl⟩)
  go_ret
  exact ⟨rfl, rfl⟩
end
end Go.Proofs.YthblpnnbkjhmhaaDoor
