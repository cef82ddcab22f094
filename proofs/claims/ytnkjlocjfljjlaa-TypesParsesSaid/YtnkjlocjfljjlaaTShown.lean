/- The document's examples. No condition. -/
import Derived.Test.YtnkjlocjfljjlaaTRows
import Derived.Test.YtnkjlocjfljjlaaTCheck
namespace Go.Proofs.Ytnkjlocjfljjlaa
open Go.RowKit
set_option maxRecDepth 100000
set_option maxHeartbeats 4000000

def f0 : Fd := ⟨1, 2, 0, 0, 0⟩
def f1 : Fd := ⟨3, 0, 0, 0, 0⟩
def f2 : Fd := ⟨4, 0, 0, 0, 0⟩
def f3 : Fd := ⟨5, 0, 0, 1, 0⟩
def t0 : Ty := ⟨⟨#[116]⟩, false, false, [f0, f1, f2]⟩
def u0 (v : Bool) : Ty := ⟨⟨#[117]⟩, v, false, [f3]⟩
theorem t0_len : t0.name.size ≤ 9223372036854775807 := by decide +kernel
theorem u0_len (v : Bool) : (u0 v).name.size ≤ 9223372036854775807 := by cases v <;> decide +kernel
theorem f_ok : ∀ f ∈ [f0, f1, f2], f.ok := by
  intro f hf
  simp at hf
  rcases hf with rfl | rfl | rfl <;> exact ⟨by unfold Rg; decide, by unfold Rg; decide, by unfold Rg; decide, by unfold Rg; decide, by unfold Rg; decide⟩
theorem f3_ok : ∀ f ∈ [f3], f.ok := by
  intro f hf
  simp at hf
  subst hf
  exact ⟨by unfold Rg; decide, by unfold Rg; decide, by unfold Rg; decide, by unfold Rg; decide, by unfold Rg; decide⟩
theorem show_layout : laE [f0, f1, f2] = 0 ∧ laV [f0, f1, f2] = [8, 24, 40] ∧ laN [f0, f1, f2] = 64 := by decide +kernel
theorem tp0 (v : Bool) : tpE [t0, u0 v] 0 = 0 := by
  rw [tp_go (t := t0) rfl (by decide +kernel) (dup_false (by intro j u hj; omega))]
  cases v <;> decide +kernel
theorem dup1 (v : Bool) : dup [t0, u0 v] 1 (u0 v).name = false := dup_false (by
  intro j u hj hu
  obtain rfl : j = 0 := by omega
  simp at hu
  subst hu
  intro e
  have := congrArg (fun b : ByteArray => b.data.toList) e
  simp [t0, u0] at this)
theorem show_no : ckI [t0, u0 false] = 1 ∧ ckE [t0, u0 false] = 7 := by
  have e : tpE [t0, u0 false] 1 = 7 := by
    rw [tp_go (t := u0 false) rfl (by decide +kernel) (dup1 false)]
    decide +kernel
  have := ck_one (ts := [t0, u0 false]) (i := 1) (by decide) (by decide) (fun j (hj : j < 1) => (show j = 0 by omega) ▸ tp0 false) (by rw [e]; decide)
  rw [e] at this
  exact this
theorem show_lock : ckI [t0, u0 true] = 1 ∧ ckE [t0, u0 true] = 9 := by
  have e : tpE [t0, u0 true] 1 = 9 := by
    rw [tp_go (t := u0 true) rfl (by decide +kernel) (dup1 true)]
    decide +kernel
  have := ck_one (ts := [t0, u0 true]) (i := 1) (by decide) (by decide) (fun j (hj : j < 1) => (show j = 0 by omega) ▸ tp0 true) (by rw [e]; decide)
  rw [e] at this
  exact this
theorem oi3 {w : World} {B : Nat} {v : Value} {a b c : Int} (h : Oi w B v [a, b, c]) : ∃ g cap, v = .slice (some ⟨g, 0, none⟩) 3 cap ∧ g < w.heap.size ∧ 3 ≤ cap ∧ cap ≤ 9223372036854775807 ∧ w.cell? ⟨g, 0, none⟩ = some (.int .i64 a) ∧ w.cell? ⟨g, 1, none⟩ = some (.int .i64 b) ∧ w.cell? ⟨g, 2, none⟩ = some (.int .i64 c) := by
  rcases h.2 with ⟨_, h2⟩ | ⟨g, cap, cur, h1, hb, hg, hle, hmax, hsz, htk⟩
  · simp at h2
  · have hc := h.cells (g := g) (by rw [h1]; rfl)
    refine ⟨g, cap, h1, (Array.getElem?_eq_some_iff.1 hg).1, hle, by simpa [maxLen] using hmax, ?_, ?_, ?_⟩
    · simpa [addr_add] using hc 0 (.int .i64 a) rfl
    · simpa [addr_add] using hc 1 (.int .i64 b) rfl
    · simpa [addr_add] using hc 2 (.int .i64 c) rfl
section
variable {w : World}
theorem shown_any : Calls Try.prog 11 #[] w fun e w' => e = .returned (.bool true) ∧ Below w.heap.size w w' := by
  have HLA := Lib.hid show_layout
  have HN := Lib.hid show_no
  have HK := Lib.hid show_lock
  obtain ⟨w1, hw1⟩ : ∃ w1, w1 = (w.alloc (Obj.cells (fcs [f0, f1, f2]).toArray 53)).alloc (Obj.cells #[.string ⟨#[116]⟩, .bool false, .bool false, .slice (some ⟨w.heap.size, 0, none⟩) 3 3] 32) := ⟨_, rfl⟩
  have BF := Lib.hid (show Blk w1 w.heap.size 53 (fcs [f0, f1, f2]).toArray by rw [hw1]; exact (Blk.new _ _ _).alloc _)
  have BT := Lib.hid (show Blk w1 (w.heap.size + 1) 32 #[.string ⟨#[116]⟩, .bool false, .bool false, .slice (some ⟨w.heap.size, 0, none⟩) 3 3] by rw [hw1]; exact blk_new (by simp) _ _)
  have L1 := Lib.hid (show Below w.heap.size w w1 by rw [hw1]; (repeat' (first | exact Below.refl _ _ | assumption | (refine Below.alloc ?_ (by (try simp) <;> omega) _))))
  have hs1 : w1.heap.size = w.heap.size + 2 := by rw [hw1]; simp
  have HW1 := Lib.hid hw1
  have S1 := Lib.hid hs1
  have LF1 := Lib.hid (Lf.blk (n := 3) BF.out rfl f_ok rfl (by omega))
  clear hw1 hs1
  go_enter Try.func11, Try.ntmps11
  go_wp2_with (go_at_call 14; rw [show (w.alloc (Obj.cells #[.int .i64 1, .int .i64 2, .int .i64 0, .int .i64 0, .int .i64 0, .int .i64 3, .int .i64 0, .int .i64 0, .int .i64 0, .int .i64 0, .int .i64 4, .int .i64 0, .int .i64 0, .int .i64 0, .int .i64 0] 53)).alloc (Obj.cells #[.string ⟨#[116]⟩, .bool false, .bool false, .slice (some ⟨w.heap.size, 0, none⟩) 3 3] 32) = w1 from HW1.out.symm]; refine (layout_any ⟨#[116]⟩ false false _ 3 3 [f0, f1, f2] LF1.out).mono ?_; rintro e w2 ⟨v2, rfl, ho2, hb2⟩; rw [HLA.out.1, HLA.out.2.2]; rw [HLA.out.2.1] at ho2; have HO2 := Lib.hid ho2; have HB2 := Lib.hid hb2; have hs2 := hb2.size; rw [S1.out] at hs2; have hb3 := hb2.alloc hb2.size (Obj.cells #[.int .i64 5, .int .i64 0, .int .i64 0, .int .i64 1, .int .i64 0] 53); obtain ⟨q0, q1, q2, q3⟩ := four BT.out hb3 (by rw [S1.out]; omega); clear ho2 hb2 hb3)
  go_wp2_with (go_at_call 12; obtain ⟨w3, hw3⟩ : ∃ w3, w3 = (w2.alloc (Obj.cells #[.int .i64 5, .int .i64 0, .int .i64 0, .int .i64 1, .int .i64 0] 53)).alloc (Obj.cells #[.string ⟨#[116]⟩, .bool false, .bool false, .slice (some ⟨w.heap.size, 0, none⟩) 3 3, .string ⟨#[117]⟩, .bool false, .bool false, .slice (some ⟨w2.heap.size, 0, none⟩) 1 1] 32) := ⟨_, rfl⟩; rw [← hw3]; have b3 : Blk w3 (w2.heap.size + 1) 32 _ := hw3 ▸ blk_new (by simp) _ _; have bf3 : Blk w3 w2.heap.size 53 _ := hw3 ▸ (Blk.new _ _ _).alloc _; have l3 : Below w1.heap.size w1 w3 := hw3 ▸ (HB2.out.alloc HB2.out.size _).alloc (by simp; have := HB2.out.size; omega) _; have hs3 : w3.heap.size = w2.heap.size + 2 := (by rw [hw3]; simp); have LT3 : Lt w3 (some ⟨w2.heap.size + 1, 0, none⟩) 2 2 [t0, u0 false] := Lt.blk (l := [⟨t0, some ⟨w.heap.size, 0, none⟩, 3, 3⟩, ⟨u0 false, some ⟨w2.heap.size, 0, none⟩, 1, 1⟩]) b3 rfl (fun q hq => (by simp at hq; rcases hq with rfl | rfl; exact ⟨t0_len, LF1.out.below l3 (Nat.le_refl _)⟩; exact ⟨u0_len false, Lf.blk (n := 1) bf3 rfl f3_ok rfl (by omega)⟩)) rfl (by omega); refine (check_any _ 2 2 _ LT3).mono ?_; rintro e w4 ⟨rfl, hb4⟩; rw [HN.out.1, HN.out.2]; have hs4 := hb4.size; rw [hs3] at hs4; have M4 := Lib.hid (show Below w2.heap.size w2 w4 from (show Below w2.heap.size w2 w3 from hw3 ▸ (((Below.refl _ w2).alloc (Nat.le_refl _) _).alloc (by simp) _)).trans (hb4.mono (by rw [hs3]; omega))); have L4 := Lib.hid (l3.trans (hb4.mono (by rw [hs3, S1.out]; omega))); have BF4 := Lib.hid (bf3.below hb4 (by rw [hs3]; omega)); obtain ⟨r0, r1, r2, r3⟩ := four BT.out L4.out (by rw [S1.out]; omega); clear hw3 b3 bf3 l3 hs3 LT3 hb4)
  go_wp2_with (go_at_call 12; obtain ⟨w5, hw5⟩ : ∃ w5, w5 = w4.alloc (Obj.cells #[.string ⟨#[116]⟩, .bool false, .bool false, .slice (some ⟨w.heap.size, 0, none⟩) 3 3, .string ⟨#[117]⟩, .bool true, .bool false, .slice (some ⟨w2.heap.size, 0, none⟩) 1 1] 32) := ⟨_, rfl⟩; rw [← hw5]; have b5 : Blk w5 w4.heap.size 32 _ := hw5 ▸ Blk.new _ _ _; have bf5 : Blk w5 w2.heap.size 53 _ := hw5 ▸ BF4.out.alloc _; have l5 : Below w1.heap.size w1 w5 := hw5 ▸ L4.out.alloc L4.out.size _; have hs5 : w5.heap.size = w4.heap.size + 1 := (by rw [hw5]; simp); have LT5 : Lt w5 (some ⟨w4.heap.size, 0, none⟩) 2 2 [t0, u0 true] := Lt.blk (l := [⟨t0, some ⟨w.heap.size, 0, none⟩, 3, 3⟩, ⟨u0 true, some ⟨w2.heap.size, 0, none⟩, 1, 1⟩]) b5 rfl (fun q hq => (by simp at hq; rcases hq with rfl | rfl; exact ⟨t0_len, LF1.out.below l5 (Nat.le_refl _)⟩; exact ⟨u0_len true, Lf.blk (n := 1) bf5 rfl f3_ok rfl (by omega)⟩)) rfl (by omega); refine (check_any _ 2 2 _ LT5).mono ?_; rintro e w6 ⟨rfl, hb6⟩; rw [HK.out.1, HK.out.2]; have L6 := Lib.hid (l5.trans (hb6.mono (by rw [hs5, S1.out]; omega))); have O6 := Lib.hid (Oi.keep HO2.out ((show Below w2.heap.size w2 w5 from hw5 ▸ M4.out.alloc M4.out.size _).trans (hb6.mono (by rw [hs5]; omega))) (Nat.le_refl _)); obtain ⟨g6, c6, rfl, hg6, hc6, hm6, p0, p1, p2⟩ := oi3 O6.out; clear hw5 b5 bf5 l5 hs5 LT5 hb6)
  go_ret
  exact ⟨rfl, L1.out.trans (L6.out.mono (by rw [S1.out]; omega))⟩
end
end Go.Proofs.Ytnkjlocjfljjlaa
