/- The contracts of the slab's New, and of a nil slab's Alloc. Conditions: the tables lie in their blocks. -/
import Derived.Test.YthblpnnbkjhmhaaDoorSUsed
namespace Go.Proofs.YthblpnnbkjhmhaaDoor
open Go.RowKit Go.Shelf
open Pool (num cnt upd Pl low setR num_testBit quiet_same cnt_le)

section
variable {w : World}
theorem pageFor_nil (c : Nat) :
    Calls Tryd.prog 32 #[.pointer none, .int .i64 c] w fun e w' => e = .returned (.tuple #[.int .i64 0, .bool false]) ∧ Below w.heap.size w w' := by
  obtain ⟨w1, hw1⟩ : ∃ w1, w1 = w.alloc (.cells #[.pointer none] 24) := ⟨_, rfl⟩
  have b1 : Blk w1 w.heap.size 24 #[.pointer none] := by rw [hw1]; exact Blk.new _ _ _
  have l1 : Below w.heap.size w w1 := by rw [hw1]; exact (Below.refl _ w).alloc (Nat.le_refl _) _
  have cb : w1.cell? ⟨w.heap.size, 0, none⟩ = some (.pointer none) := b1.cell 0
  have L1 := Lib.hid l1
  clear b1 l1
  refine (callsIn_wide (n := 3)).1 ?_
  refine callsIn_of_wp_marks Tryd.func32 rfl trivial ?_ rfl
  simp only [Tryd.ntmps32, List.size_toArray, List.length_cons, List.length_nil, Nat.reduceAdd, Nat.reduceSub, Array.replicate_succ, Array.replicate_zero, List.push_toArray, List.append_toArray, List.nil_append, List.cons_append]
  gi_wp2_with (rw [← hw1]; refine ⟨trivial, ?_⟩; gi_at_call 39; refine (callsIn_wide.2 (all_nil)).mono ?_; rintro e w' ⟨rfl, rfl⟩)
  gi_loopw [14] (fun v wr => v = .int .i64 0 ∧ Hid (Below w1.heap.size w1 wr)) (fun _ _ => 0)
  case atStart => exact ⟨rfl, Lib.hid (by rw [← hw1]; exact Below.refl _ _)⟩
  case round =>
    obtain ⟨rfl, hBl⟩ := hrel
    have cb1 : wr.cell? ⟨w.heap.size, 0, none⟩ = some (.pointer none) := (hBl.out.cell (p := ⟨w.heap.size, 0, none⟩) (by rw [hw1, World.size_alloc]; exact Nat.lt_succ_self _)).trans cb
    have hs1 : w.heap.size ≤ w1.heap.size := by rw [hw1, World.size_alloc]; omega
    clear cb
    gi_wp2_with (refine ⟨trivial, ?_⟩; gi_at_call 11; refine (callsIn_wide.2 (arena_nil)).mono ?_; rintro e w' ⟨rfl, rfl⟩)
    exact ⟨_, results_tmp2 rfl _ _ _, rfl, L1.out.trans (hBl.out.mono hs1)⟩
def nbE (size : Int) : Int := if alOk size then 5 else 1
theorem alloc_nil (size : Int) (hT : Cl w) :
    Calls Tryd.prog 14 #[.pointer none, .int .i64 size] w fun e w' => e = .returned (.tuple #[.int .i64 0, .int .i64 (nbE size)]) ∧ Below w.heap.size w w' := by
  have HT := Lib.hid hT
  clear hT
  cases hok : alOk size with
  | false =>
    have e1 : cofV size = 0 := by unfold cofV; rw [hok]; rfl
    have e2 : nbE size = 1 := by unfold nbE; rw [hok]; rfl
    have E1 := Lib.hid e1
    have HOK := Lib.hid hok
    rw [e2]
    clear e1 e2 hok
    go_enter Tryd.func14, Tryd.ntmps14
    go_wp2_with (go_at_call 31; refine (classOf_any _ HT.out).mono ?_; rw [E1.out, HOK.out]; rintro e w' ⟨rfl, rfl⟩)
    go_ret2
    exact ⟨rfl, Below.refl _ _⟩
  | true =>
    have e1 : cofV size = (clsOf size : Nat) := by unfold cofV; rw [hok]; rfl
    have e2 : nbE size = 5 := by unfold nbE; rw [hok]; rfl
    have E1 := Lib.hid e1
    have HOK := Lib.hid hok
    rw [e2]
    clear e1 e2 hok
    go_enter Tryd.func14, Tryd.ntmps14
    go_wp2_with (go_at_call 31; refine (classOf_any _ HT.out).mono ?_; rw [E1.out, HOK.out]; rintro e w' ⟨rfl, rfl⟩)
    refine (pageFor_nil (clsOf size)).mono ?_
    rintro e w1 ⟨rfl, hB⟩
    have HB := Lib.hid hB
    clear hB
    go_wp2
    go_ret2
    exact ⟨rfl, HB.out⟩

/-! ### New -/
theorem Tryd.info77 : (Tryd.prog.info? 77).map (fun i => (i.zero, i.size, i.bytes)) = some (some (.agg #[.int .i64 0, .int .u32 0, .int .i64 0]), 3, 24) := by kernel_rfl
theorem run_make_pages (w : World) (n : Nat) (hn : n ≤ 128) :
    (Instr.makeSlice 67 (.int .i64 (n : Int)) (.int .i64 (n : Int))).run Tryd.prog w = .ok (.slice (some ⟨w.heap.size, 0, none⟩) n n) (w.alloc (.cells (prow n fun _ => (0, 0, 0)) 77)) := by
  obtain ⟨i0, hi, hz0, hz1, hz2⟩ := info_parts Tryd.info77
  have h := run_make (P := Tryd.prog) w 67 77 i0 (.agg #[.int .i64 0, .int .u32 0, .int .i64 0]) Tryd.underlying67 hi hz0 .i64 .i64 (n : Int) (n : Int) (by omega) (by omega) (by rw [hz2]; omega) (by omega)
  rw [h, hz1]
  have e : madeCells (Value.cells (.agg #[.int .i64 0, .int .u32 0, .int .i64 0])) (n * 3) = prow n fun _ => (0, 0, 0) := by
    apply Array.ext_getElem?
    intro j
    by_cases hj : j < 3 * n
    · rw [prow_at _ _ j hj]
      have hv : Value.cells (.agg #[.int .i64 0, .int .u32 0, .int .i64 0]) = #[.int .i64 0, .int .u32 0, .int .i64 0] := by kernel_rfl
      rw [hv]
      unfold madeCells
      have h3 : j < n * 3 := by omega
      have : j % 3 = 0 ∨ j % 3 = 1 ∨ j % 3 = 2 := by omega
      rcases this with h | h | h <;> simp [h3, pcell, h]
    · rw [Array.getElem?_eq_none (by rw [size_madeCells]; omega), Array.getElem?_eq_none (by simp [prow, vals]; omega)]
  simp only [Int.toNat_natCast]
  rw [e]
theorem tkp0 (n : Nat) (h : 1 ≤ n) : setR (fun _ => false) 0 1 true = tkp st0 n := by
  funext k
  unfold setR tkp st0
  by_cases e : k = 0
  · subst e; simp; omega
  · rw [if_neg (by omega)]; simp [e]
theorem raw0 : rawOf st0 = fun _ => (0, 0, 0) := by
  funext k
  unfold rawOf
  rw [num_zero32 fun j _ => by unfold tk st0; simp]
  rfl
theorem low0 (n : Nat) (h : 1 ≤ n) : low n (fun _ => false) 1 = some 0 := Pool.low_some ⟨by omega, fun _ _ _ => rfl⟩ fun _ hi => by omega

theorem newS_bad (n : Int) (hn : n < 1 ∨ 128 < n) :
    Calls Tryd.prog 10 #[.int .i64 n] w fun e w' => e = .returned (.tuple #[.pointer none, .int .i64 1]) ∧ w = w' := by
  rcases hn with hn | hn
  · have hd : decide (n < 1) = true := decide_eq_true hn
    go_enter Tryd.func10, Tryd.ntmps10
    go_wp2
    go_ret2
    exact ⟨rfl, rfl⟩
  · have hd : decide (n < 1) = false := decide_eq_false (by omega)
    go_enter Tryd.func10, Tryd.ntmps10
    go_wp2
    go_ret2
    exact ⟨rfl, rfl⟩
/-- Where a new slab lies. -/
def newPt (w : World) : Pt := ⟨w.heap.size + 4, w.heap.size + 1, w.heap.size, w.heap.size + 2, w.heap.size + 3⟩
set_option maxRecDepth 100000 in
theorem newS_ok (n : Nat) (hn1 : 1 ≤ n) (hn : n ≤ 128) :
    Calls Tryd.prog 10 #[.int .i64 n] w fun e w' => e = .returned (.tuple #[.pointer (some ⟨(newPt w).p, 0, none⟩), .int .i64 0]) ∧ Sl w' (newPt w) n st0 (fun _ => 0) ∧ Below w.heap.size w w' ∧ w'.heap.size = w.heap.size + 5 := by
  have hd : decide ((n : Int) < 1) = false := decide_eq_false (by omega)
  have hmk := fun w => run_make_pages w n hn
  go_enter Tryd.func10, Tryd.ntmps10
  go_wp2_with fail
  have e512 : ((n : Int) * 512) = ((512 * n : Nat) : Int) := by omega
  rw [e512]
  refine (new_ok (512 * n) (by omega)).mono ?_
  rintro e w1 ⟨rfl, hA1, hs1, hB1⟩
  have HA1 := Lib.hid hA1
  have HB1 := Lib.hid hB1
  clear hA1 hB1
  go_wp2_with fail
  refine (Pool.new_ok n hn).mono ?_
  rintro e w2 ⟨rfl, hP2, hs2, hB2⟩
  have HP2 := Lib.hid hP2
  have HB2 := Lib.hid hB2
  clear hP2 hB2
  go_wp2_with fail
  rw [hs1] at HP2
  refine (Pool.take_any _ n _ HP2.out).mono ?_
  have hlow := low0 n hn1
  have t1 : Pool.trT n (fun _ => false) 1 = tkp st0 n := by simp [Pool.trT, hlow, tkp0 n hn1]
  rw [t1]
  rintro e w3 ⟨rfl, hP3, hO3⟩
  have hs3 : w3.heap.size = w.heap.size + 3 := by have := hO3.size; omega
  have hA3 : Ar w3 (w.heap.size + 1) w.heap.size (512 * n) (fun _ => 0) := (HA1.out.below HB2.out (by omega) (by omega)).only hO3 (by omega) (by omega)
  have hB3 : Below w.heap.size w w3 := (HB1.out.trans (HB2.out.mono (by omega))).trans (hO3.below (by omega))
  have HA3 := Lib.hid hA3
  have HP3 := Lib.hid hP3
  have HB3 := Lib.hid hB3
  clear hA3 hP3 hO3 hB3 t1 hlow
  go_wp2
  go_ret2
  have z3 : w3.heap.size = w.heap.size + 3 := hs3
  refine ⟨by simp [newPt], ⟨⟨?_, ?_, ?_, ?_, hn1⟩, inv0 n, fun _ => trivial⟩, (HB3.out.alloc (by omega) _).alloc (by simp [World.size_alloc]; omega) _, by simp [World.size_alloc, z3]⟩
  · have := Blk.new (w3.alloc (.cells (prow n fun _ => (0, 0, 0)) 77)) 69 #[.pointer (some ⟨w.heap.size + 1, 0, none⟩), .pointer (some ⟨w.heap.size + 2, 0, none⟩), .slice (some ⟨w.heap.size + 3, 0, none⟩) n n]
    rw [World.size_alloc, z3] at this
    exact this
  · exact ⟨(HA3.out.head.alloc _).alloc _, (HA3.out.body.alloc _).alloc _, HA3.out.small, HA3.out.byte⟩
  · exact ⟨(HP3.out.blk.alloc _).alloc _, HP3.out.small, HP3.out.off⟩
  · have := (Blk.new w3 77 (prow n fun _ => (0, 0, 0)))
    rw [z3] at this
    rw [raw0]
    exact this.alloc _
end
end Go.Proofs.YthblpnnbkjhmhaaDoor
