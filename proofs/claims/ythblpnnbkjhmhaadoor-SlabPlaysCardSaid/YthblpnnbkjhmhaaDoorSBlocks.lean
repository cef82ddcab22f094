/- The iterator over a page's blocks, and its contract. No condition but the class's and the page's bounds. -/
import Derived.Test.YthblpnnbkjhmhaaDoorSSmall
import Derived.RangeFuncNested
import Derived.RangeFuncBound
import Derived.RangeFuncCalls
import Derived.RangeFuncLeaves
import Derived.Shelf.Abstract
import Derived.Shelf.RegionOpen
import Derived.WalkKit
import Derived.OwnWalkIn
import Derived.TacticsInMore
import Derived.LoopNIn
import Derived.LoopIn
namespace Go.Proofs.YthblpnnbkjhmhaaDoor
open Go.RowKit Go.Shelf
attribute [local go_sem] Oper.semAt_some

/-- A block of page i. -/
abbrev Bk (i c : Nat) := { a : Nat // a ∈ blks i c }
def bkAt {c : Nat} (hC : IsC c) (i k : Nat) : Bk i c := ⟨blk i c (512 / c - 1 - k), mem_blks.2 ⟨_, by have := hC.many; omega, rfl⟩⟩
def up {c : Nat} (hC : IsC c) (i k : Nat) : List (Bk i c) := (List.range k).map (bkAt hC i)
theorem up_succ {c : Nat} (hC : IsC c) (i k : Nat) : up hC i (k + 1) = up hC i k ++ [bkAt hC i k] := by simp [up, List.range_succ]
theorem up_len {c : Nat} (hC : IsC c) (i k : Nat) : (up hC i k).length = k := by simp [up]
theorem bkAt_val {c : Nat} (hC : IsC c) (i k : Nat) (hk : k < 512 / c) : ((bkAt hC i k).1 : Int) = 512 * i + 512 - c - k * c := by
  have h1 := hC.mul
  show ((512 * i + (512 / c - 1 - k) * c : Nat) : Int) = _
  have h2 : (512 / c - 1 - k) * c + (k + 1) * c = 512 := by
    rw [← Nat.add_mul]
    have : 512 / c - 1 - k + (k + 1) = 512 / c := by omega
    rw [this, h1]
  rw [Nat.add_mul, Nat.one_mul] at h2
  have h3 : ((k * c : Nat) : Int) = (k : Int) * c := by simp
  omega
def Kp (b1 b2 : Nat) (W W' : World) : Prop := W'.heap[b1]? = W.heap[b1]? ∧ W'.heap[b2]? = W.heap[b2]?
theorem Kp.trans {b1 b2 : Nat} {A B C : World} (h : Kp b1 b2 A B) (k : Kp b1 b2 B C) : Kp b1 b2 A C := ⟨k.1.trans h.1, k.2.trans h.2⟩
theorem Kp.put {b1 b2 B : Nat} (h1 : b1 < B) (h2 : b2 < B) (W : World) (l : Nat) (o o' : Obj) (hl : B ≤ l) (_ : W.heap[l]? = some o) (_ : o.isCells = false) (_ : o.isWalk = false) : Kp b1 b2 W (W.putObj l o') :=
  ⟨World.putObj_heap_other (by omega), World.putObj_heap_other (by omega)⟩

section
variable {w : World}
theorem blocks_any (i c : Nat) :
    Calls Tryd.prog 42 #[.int .i64 i, .int .i64 c] w fun e w' => e = .returned (.func (.func 50) #[] #[.pointer (some ⟨w.heap.size, 0, none⟩), .pointer (some ⟨w.heap.size + 1, 0, none⟩)]) ∧ w' = (w.alloc (.cells #[.int .i64 i] 3)).alloc (.cells #[.int .i64 c] 3) := by
  go_enter Tryd.func42, Tryd.ntmps42
  go_wp2
  go_ret
  exact ⟨by simp, rfl⟩

set_option maxRecDepth 100000 in
set_option maxHeartbeats 2000000 in
theorem blocks_stops (n0 i c b1 b2 : Nat) (hn0 : 1 ≤ n0) (hC : IsC c) (hi : i < 128) (h1 : Blk w b1 3 #[.int .i64 i]) (h2 : Blk w b2 3 #[.int .i64 c]) :
    SeqStopsK Fence.wide n0 Tryd.prog 50 #[.pointer (some ⟨b1, 0, none⟩), .pointer (some ⟨b2, 0, none⟩)] (fun a : Bk i c => #[Value.int .i64 (a.1 : Nat)]) (Kp b1 b2)
      (fun xs => xs = up hC i (512 / c)) (fun pre => ∃ k, k ≤ 512 / c ∧ pre = up hC i k) (512 / c) w := fun l J Jx W hW _ _ hY h0 => by
  have hb := hC.bd
  have hm := hC.mul
  have d1 := h1.below hW h1.lt
  have d2 := h2.below hW h2.lt
  have e1 : W.cell? ⟨b1, 0, none⟩ = some (.int .i64 i) := d1.cell 0
  have e2 : W.cell? ⟨b2, 0, none⟩ = some (.int .i64 c) := d2.cell 0
  have D2 := Lib.hid d2
  clear d1 d2 h1 h2
  refine callsIn_of_wp Tryd.func50 rfl trivial ?_ rfl
  simp only [Tryd.ntmps50, List.size_toArray, List.length_cons, List.length_nil, Nat.reduceAdd, Nat.reduceSub, Array.replicate_succ, Array.replicate_zero, List.push_toArray, List.append_toArray, List.nil_append, List.cons_append]
  gi_wp2
  gi_loopw [5] (fun v wr => ∃ (k : Nat) (x : Int), k ≤ 512 / c ∧ v = .int .i64 x ∧ Hid (x = 512 * i + 512 - c - k * c) ∧ Hid (Blk wr b2 3 #[.int .i64 c]) ∧ J (up hC i k) wr) (fun v _ => (intOf v + c - 512 * i).toNat)
  case atStart => exact ⟨0, _, Nat.zero_le _, rfl, Lib.hid (by omega), D2, h0⟩
  case round =>
    obtain ⟨k, x, hk, rfl, hx, hB, hJ⟩ := hrel
    by_cases hlt : k < 512 / c
    · obtain ⟨y, hy⟩ : ∃ y, y = bkAt hC i k := ⟨_, rfl⟩
      have hv : x = ((y.1 : Nat) : Int) := by rw [hx.out, hy, bkAt_val hC i k hlt]
      have HY := Lib.hid hy
      have hge : 512 * i ≤ y.1 ∧ y.1 + c ≤ 512 * i + 512 := by
        obtain ⟨j, hj, e⟩ := mem_blks.1 y.2
        rw [e]
        exact blk_le hC hj
      clear hy
      obtain ⟨a, ha⟩ := y
      dsimp only at hv hge
      subst hv
      have HX := hx
      clear hx
      have c2 : wr.cell? ⟨b2, 0, none⟩ = some (.int .i64 c) := hB.out.cell 0
      obtain ⟨fn, tmps, assign, body, hyy, hR⟩ := hY (up hC i k) ⟨a, ha⟩ wr hJ (by rw [up_len]; exact hlt)
      dsimp only at hyy
      gi_wp2
      refine hR.mono ?_
      rintro e W3 (⟨rfl, hJ3, hk3⟩ | ⟨rfl, hJx3⟩)
      · have B3 : Blk W3 b2 3 #[.int .i64 c] := hk3.2.trans hB.out
        have c3 : W3.cell? ⟨b2, 0, none⟩ = some (.int .i64 c) := B3.cell 0
        have HB3 := Lib.hid B3
        clear B3 hk3
        gi_wp2
        go_roundw
        case rel =>
          refine ⟨k + 1, _, hlt, rfl, Lib.hid ?_, HB3, by rw [up_succ, ← HY.out]; exact hJ3⟩
          rw [HX.out]
          have : ((k + 1 : Nat) : Int) * c = k * c + c := by rw [Int.natCast_add, Int.add_mul]; simp
          omega
        case measure => simp [intOf]; omega
      · gi_wp2
        refine bodyPost_ret (results_none rfl _ _ _) rfl ?_
        exact ⟨⟨_, rfl⟩, .inr ⟨_, ⟨k + 1, hlt, rfl⟩, by rw [up_succ, ← HY.out]; exact hJx3⟩⟩
    · obtain rfl : k = 512 / c := by omega
      have hv : x = 512 * i - c := by
        rw [hx.out]
        have : ((512 / c * c : Nat) : Int) = 512 := by rw [hm]; rfl
        rw [Int.natCast_mul] at this
        omega
      subst hv
      clear hx
      gi_wp2
      go_end0
      exact ⟨⟨_, rfl⟩, .inl ⟨_, rfl, hJ⟩⟩
end
end Go.Proofs.YthblpnnbkjhmhaaDoor
