/- The contracts of tree's Root, Child, Owner, Red, First, and of what Add, Remove and these refuse. Conditions: the table of widths lies in its block; the arena's blocks are known. -/
import Derived.Test.YtiacclmapicmdaaDoorTrMove2
namespace Go.Proofs.YtiacclmapicmdaaDoor
open Go.RowKit

section
variable {w : World} {p g n : Nat} {f : Nat → Int}
set_option maxRecDepth 100000 in
set_option maxHeartbeats 4000000 in
theorem troot_far (a : Aw w p g n f) (k : Int) (hf : hd n k 8 = false) :
    Calls Tryd.prog 23 #[.pointer (some ⟨p, 0, none⟩), .int .i64 k] w fun e w' => e = .returned (.tuple #[.int .i64 0, .int .i64 4]) ∧ Below w.heap.size w w' := by
  have H1 := Lib.hid hf
  clear hf
  obtain ⟨w1, hw1⟩ : ∃ w1, w1 = w.alloc (.cells #[.pointer (some ⟨p, 0, none⟩)] 69) := ⟨_, rfl⟩
  obtain ⟨b, hbe⟩ : ∃ b, b = w.heap.size := ⟨_, rfl⟩
  have UC : Hid (Vb w w1 p g n b f) := Lib.hid (by rw [hw1, hbe]; exact Vb.new a)
  have FR : Hid (Below w.heap.size w w1) := Lib.hid (by rw [hw1]; exact below_one w _)
  have HW := Lib.hid hw1
  have HBE := Lib.hid hbe
  clear hw1 hbe a
  go_enter Tryd.func23, Tryd.ntmps23
  go_wp2_with fail
  rw [← HBE.out, ← HW.out]
  have c1 := UC.out.cell
  go_wp2_with (go_at_call 33; (with_reducible refine (UC.out.aw.tholds k 8 (by omega) false H1.out).mono ?_); rintro e wc ⟨rfl, hbc⟩; have FR := Lib.hid (FR.out.trans (hbc.mono FR.out.size)); have UC := Lib.hid (UC.out.below hbc); (try clear c1); have c1 := UC.out.cell; clear hbc)
  go_ret2
  exact ⟨rfl, FR.out⟩
set_option maxRecDepth 100000 in
set_option maxHeartbeats 4000000 in
theorem tchild_far (a : Aw w p g n f) (k : Int) (d : Bool) (hf : hd n k 24 = false) :
    Calls Tryd.prog 29 #[.pointer (some ⟨p, 0, none⟩), .int .i64 k, .bool d] w fun e w' => e = .returned (.tuple #[.int .i64 0, .int .i64 4]) ∧ Below w.heap.size w w' := by
  have H1 := Lib.hid hf
  clear hf
  obtain ⟨w1, hw1⟩ : ∃ w1, w1 = w.alloc (.cells #[.pointer (some ⟨p, 0, none⟩)] 69) := ⟨_, rfl⟩
  obtain ⟨b, hbe⟩ : ∃ b, b = w.heap.size := ⟨_, rfl⟩
  have UC : Hid (Vb w w1 p g n b f) := Lib.hid (by rw [hw1, hbe]; exact Vb.new a)
  have FR : Hid (Below w.heap.size w w1) := Lib.hid (by rw [hw1]; exact below_one w _)
  have HW := Lib.hid hw1
  have HBE := Lib.hid hbe
  clear hw1 hbe a
  go_enter Tryd.func29, Tryd.ntmps29
  go_wp2_with fail
  rw [← HBE.out, ← HW.out]
  have c1 := UC.out.cell
  go_wp2_with (go_at_call 33; (with_reducible refine (UC.out.aw.tholds k 24 (by omega) false H1.out).mono ?_); rintro e wc ⟨rfl, hbc⟩; have FR := Lib.hid (FR.out.trans (hbc.mono FR.out.size)); have UC := Lib.hid (UC.out.below hbc); (try clear c1); have c1 := UC.out.cell; clear hbc)
  go_ret2
  exact ⟨rfl, FR.out⟩
set_option maxRecDepth 100000 in
set_option maxHeartbeats 4000000 in
theorem towner_far (a : Aw w p g n f) (k : Int) (hf : hd n k 24 = false) :
    Calls Tryd.prog 30 #[.pointer (some ⟨p, 0, none⟩), .int .i64 k] w fun e w' => e = .returned (.tuple #[.int .i64 0, .int .i64 4]) ∧ Below w.heap.size w w' := by
  have H1 := Lib.hid hf
  clear hf
  obtain ⟨w1, hw1⟩ : ∃ w1, w1 = w.alloc (.cells #[.pointer (some ⟨p, 0, none⟩)] 69) := ⟨_, rfl⟩
  obtain ⟨b, hbe⟩ : ∃ b, b = w.heap.size := ⟨_, rfl⟩
  have UC : Hid (Vb w w1 p g n b f) := Lib.hid (by rw [hw1, hbe]; exact Vb.new a)
  have FR : Hid (Below w.heap.size w w1) := Lib.hid (by rw [hw1]; exact below_one w _)
  have HW := Lib.hid hw1
  have HBE := Lib.hid hbe
  clear hw1 hbe a
  go_enter Tryd.func30, Tryd.ntmps30
  go_wp2_with fail
  rw [← HBE.out, ← HW.out]
  have c1 := UC.out.cell
  go_wp2_with (go_at_call 33; (with_reducible refine (UC.out.aw.tholds k 24 (by omega) false H1.out).mono ?_); rintro e wc ⟨rfl, hbc⟩; have FR := Lib.hid (FR.out.trans (hbc.mono FR.out.size)); have UC := Lib.hid (UC.out.below hbc); (try clear c1); have c1 := UC.out.cell; clear hbc)
  go_ret2
  exact ⟨rfl, FR.out⟩
set_option maxRecDepth 100000 in
set_option maxHeartbeats 4000000 in
theorem tred_far (a : Aw w p g n f) (k : Int) (hf : hd n k 24 = false) :
    Calls Tryd.prog 25 #[.pointer (some ⟨p, 0, none⟩), .int .i64 k] w fun e w' => e = .returned (.tuple #[.bool false, .int .i64 4]) ∧ Below w.heap.size w w' := by
  have H1 := Lib.hid hf
  clear hf
  obtain ⟨w1, hw1⟩ : ∃ w1, w1 = w.alloc (.cells #[.pointer (some ⟨p, 0, none⟩)] 69) := ⟨_, rfl⟩
  obtain ⟨b, hbe⟩ : ∃ b, b = w.heap.size := ⟨_, rfl⟩
  have UC : Hid (Vb w w1 p g n b f) := Lib.hid (by rw [hw1, hbe]; exact Vb.new a)
  have FR : Hid (Below w.heap.size w w1) := Lib.hid (by rw [hw1]; exact below_one w _)
  have HW := Lib.hid hw1
  have HBE := Lib.hid hbe
  clear hw1 hbe a
  go_enter Tryd.func25, Tryd.ntmps25
  go_wp2_with fail
  rw [← HBE.out, ← HW.out]
  have c1 := UC.out.cell
  go_wp2_with (go_at_call 33; (with_reducible refine (UC.out.aw.tholds k 24 (by omega) false H1.out).mono ?_); rintro e wc ⟨rfl, hbc⟩; have FR := Lib.hid (FR.out.trans (hbc.mono FR.out.size)); have UC := Lib.hid (UC.out.below hbc); (try clear c1); have c1 := UC.out.cell; clear hbc)
  go_ret2
  exact ⟨rfl, FR.out⟩
set_option maxRecDepth 100000 in
set_option maxHeartbeats 4000000 in
theorem tfirst_far (a : Aw w p g n f) (k : Int) (hf : hd n k 8 = false) :
    Calls Tryd.prog 19 #[.pointer (some ⟨p, 0, none⟩), .int .i64 k] w fun e w' => e = .returned (.tuple #[.int .i64 0, .int .i64 4]) ∧ Below w.heap.size w w' := by
  have H1 := Lib.hid hf
  clear hf
  obtain ⟨w1, hw1⟩ : ∃ w1, w1 = w.alloc (.cells #[.pointer (some ⟨p, 0, none⟩)] 69) := ⟨_, rfl⟩
  obtain ⟨b, hbe⟩ : ∃ b, b = w.heap.size := ⟨_, rfl⟩
  have UC : Hid (Vb w w1 p g n b f) := Lib.hid (by rw [hw1, hbe]; exact Vb.new a)
  have FR : Hid (Below w.heap.size w w1) := Lib.hid (by rw [hw1]; exact below_one w _)
  have HW := Lib.hid hw1
  have HBE := Lib.hid hbe
  clear hw1 hbe a
  go_enter Tryd.func19, Tryd.ntmps19
  go_wp2_with fail
  rw [← HBE.out, ← HW.out]
  have c1 := UC.out.cell
  go_wp2_with (go_at_call 33; (with_reducible refine (UC.out.aw.tholds k 8 (by omega) false H1.out).mono ?_); rintro e wc ⟨rfl, hbc⟩; have FR := Lib.hid (FR.out.trans (hbc.mono FR.out.size)); have UC := Lib.hid (UC.out.below hbc); (try clear c1); have c1 := UC.out.cell; clear hbc)
  go_ret2
  exact ⟨rfl, FR.out⟩
set_option maxRecDepth 100000 in
set_option maxHeartbeats 4000000 in
theorem tall_far (a : Aw w p g n f) (k : Int) (hf : hd n k 8 = false) :
    Calls Tryd.prog 21 #[.pointer (some ⟨p, 0, none⟩), .int .i64 k] w fun e w' => e = .returned (.tuple #[.slice none 0 0, .int .i64 4]) ∧ Below w.heap.size w w' := by
  have H1 := Lib.hid hf
  clear hf
  obtain ⟨w1, hw1⟩ : ∃ w1, w1 = w.alloc (.cells #[.pointer (some ⟨p, 0, none⟩)] 69) := ⟨_, rfl⟩
  obtain ⟨b, hbe⟩ : ∃ b, b = w.heap.size := ⟨_, rfl⟩
  have UC : Hid (Vb w w1 p g n b f) := Lib.hid (by rw [hw1, hbe]; exact Vb.new a)
  have FR : Hid (Below w.heap.size w w1) := Lib.hid (by rw [hw1]; exact below_one w _)
  have HW := Lib.hid hw1
  have HBE := Lib.hid hbe
  clear hw1 hbe a
  go_enter Tryd.func21, Tryd.ntmps21
  go_wp2_with fail
  rw [← HBE.out, ← HW.out]
  have c1 := UC.out.cell
  go_wp2_with (go_at_call 33; (with_reducible refine (UC.out.aw.tholds k 8 (by omega) false H1.out).mono ?_); rintro e wc ⟨rfl, hbc⟩; have FR := Lib.hid (FR.out.trans (hbc.mono FR.out.size)); have UC := Lib.hid (UC.out.below hbc); (try clear c1); have c1 := UC.out.cell; clear hbc)
  go_ret2
  exact ⟨rfl, FR.out⟩
set_option maxRecDepth 100000 in
set_option maxHeartbeats 4000000 in
theorem troot_at (a : Aw w p g n f) (k : Nat) (h1 : 1 ≤ k) (h2 : k + 8 ≤ n) :
    Calls Tryd.prog 23 #[.pointer (some ⟨p, 0, none⟩), .int .i64 (k : Nat)] w fun e w' => e = .returned (.tuple #[.int .i64 (tgv f k 0), .int .i64 0]) ∧ Below w.heap.size w w' := by
  have H1 : Hid (hd n (k : Int) 8 = true) := Lib.hid (thd_in (size := 8) h1 h2)
  obtain ⟨w1, hw1⟩ : ∃ w1, w1 = w.alloc (.cells #[.pointer (some ⟨p, 0, none⟩)] 69) := ⟨_, rfl⟩
  obtain ⟨b, hbe⟩ : ∃ b, b = w.heap.size := ⟨_, rfl⟩
  have UC : Hid (Vb w w1 p g n b f) := Lib.hid (by rw [hw1, hbe]; exact Vb.new a)
  have FR : Hid (Below w.heap.size w w1) := Lib.hid (by rw [hw1]; exact below_one w _)
  have HW := Lib.hid hw1
  have HBE := Lib.hid hbe
  clear hw1 hbe a
  go_enter Tryd.func23, Tryd.ntmps23
  go_wp2_with fail
  rw [← HBE.out, ← HW.out]
  have c1 := UC.out.cell
  go_wp2_with (first
    | (go_at_call 33; (with_reducible refine (UC.out.aw.tholds k 8 (by omega) true H1.out).mono ?_); rintro e wc ⟨rfl, hbc⟩; have FR := Lib.hid (FR.out.trans (hbc.mono FR.out.size)); have UC := Lib.hid (UC.out.below hbc); (try clear c1); have c1 := UC.out.cell; clear hbc)
    | (go_at_call 34; (with_reducible refine (tgeti UC.out.aw k 0 0 rfl (by omega)).mono ?_); rintro e wc ⟨rfl, hbc⟩; have FR := Lib.hid (FR.out.trans (hbc.mono FR.out.size)); have UC := Lib.hid (UC.out.below hbc); (try clear c1); have c1 := UC.out.cell; clear hbc))
  go_ret2
  exact ⟨rfl, FR.out⟩
set_option maxRecDepth 100000 in
set_option maxHeartbeats 4000000 in
theorem tchild_at (a : Aw w p g n f) (k : Nat) (d : Bool) (h1 : 1 ≤ k) (h2 : k + 24 ≤ n) :
    Calls Tryd.prog 29 #[.pointer (some ⟨p, 0, none⟩), .int .i64 (k : Nat), .bool d] w fun e w' => e = .returned (.tuple #[.int .i64 (tgv f k (ko d)), .int .i64 0]) ∧ Below w.heap.size w w' := by
  have H1 : Hid (hd n (k : Int) 24 = true) := Lib.hid (thd_in (size := 24) h1 h2)
  obtain ⟨w1, hw1⟩ : ∃ w1, w1 = w.alloc (.cells #[.pointer (some ⟨p, 0, none⟩)] 69) := ⟨_, rfl⟩
  obtain ⟨b, hbe⟩ : ∃ b, b = w.heap.size := ⟨_, rfl⟩
  have UC : Hid (Vb w w1 p g n b f) := Lib.hid (by rw [hw1, hbe]; exact Vb.new a)
  have FR : Hid (Below w.heap.size w w1) := Lib.hid (by rw [hw1]; exact below_one w _)
  have HW := Lib.hid hw1
  have HBE := Lib.hid hbe
  clear hw1 hbe a
  go_enter Tryd.func29, Tryd.ntmps29
  go_wp2_with fail
  rw [← HBE.out, ← HW.out]
  have c1 := UC.out.cell
  go_wp2_with (first
    | (go_at_call 33; (with_reducible refine (UC.out.aw.tholds k 24 (by omega) true H1.out).mono ?_); rintro e wc ⟨rfl, hbc⟩; have FR := Lib.hid (FR.out.trans (hbc.mono FR.out.size)); have UC := Lib.hid (UC.out.below hbc); (try clear c1); have c1 := UC.out.cell; clear hbc)
    | (go_at_call 53; (with_reducible refine (tchild UC.out.aw k d (.inr h2)).mono ?_); rintro e wc ⟨rfl, hbc⟩; have FR := Lib.hid (FR.out.trans (hbc.mono FR.out.size)); have UC := Lib.hid (UC.out.below hbc); (try clear c1); have c1 := UC.out.cell; clear hbc))
  go_ret2
  exact ⟨rfl, FR.out⟩
set_option maxRecDepth 100000 in
set_option maxHeartbeats 4000000 in
theorem towner_at (a : Aw w p g n f) (k : Nat) (h1 : 1 ≤ k) (h2 : k + 24 ≤ n) :
    Calls Tryd.prog 30 #[.pointer (some ⟨p, 0, none⟩), .int .i64 (k : Nat)] w fun e w' => e = .returned (.tuple #[.int .i64 (tgv f k 12), .int .i64 0]) ∧ Below w.heap.size w w' := by
  have H1 : Hid (hd n (k : Int) 24 = true) := Lib.hid (thd_in (size := 24) h1 h2)
  obtain ⟨w1, hw1⟩ : ∃ w1, w1 = w.alloc (.cells #[.pointer (some ⟨p, 0, none⟩)] 69) := ⟨_, rfl⟩
  obtain ⟨b, hbe⟩ : ∃ b, b = w.heap.size := ⟨_, rfl⟩
  have UC : Hid (Vb w w1 p g n b f) := Lib.hid (by rw [hw1, hbe]; exact Vb.new a)
  have FR : Hid (Below w.heap.size w w1) := Lib.hid (by rw [hw1]; exact below_one w _)
  have HW := Lib.hid hw1
  have HBE := Lib.hid hbe
  clear hw1 hbe a
  go_enter Tryd.func30, Tryd.ntmps30
  go_wp2_with fail
  rw [← HBE.out, ← HW.out]
  have c1 := UC.out.cell
  go_wp2_with (first
    | (go_at_call 33; (with_reducible refine (UC.out.aw.tholds k 24 (by omega) true H1.out).mono ?_); rintro e wc ⟨rfl, hbc⟩; have FR := Lib.hid (FR.out.trans (hbc.mono FR.out.size)); have UC := Lib.hid (UC.out.below hbc); (try clear c1); have c1 := UC.out.cell; clear hbc)
    | (go_at_call 34; (with_reducible refine (tgeti UC.out.aw k 12 12 rfl (by omega)).mono ?_); rintro e wc ⟨rfl, hbc⟩; have FR := Lib.hid (FR.out.trans (hbc.mono FR.out.size)); have UC := Lib.hid (UC.out.below hbc); (try clear c1); have c1 := UC.out.cell; clear hbc))
  go_ret2
  exact ⟨rfl, FR.out⟩
set_option maxRecDepth 100000 in
set_option maxHeartbeats 4000000 in
theorem tred_at (a : Aw w p g n f) (k : Nat) (r : Bool) (h1 : 1 ≤ k) (h2 : k + 24 ≤ n) (hr : tgv f k 16 = if r then 1 else 0) :
    Calls Tryd.prog 25 #[.pointer (some ⟨p, 0, none⟩), .int .i64 (k : Nat)] w fun e w' => e = .returned (.tuple #[.bool r, .int .i64 0]) ∧ Below w.heap.size w w' := by
  have H1 : Hid (hd n (k : Int) 24 = true) := Lib.hid (thd_in (size := 24) h1 h2)
  have HR := Lib.hid hr
  clear hr
  obtain ⟨w1, hw1⟩ : ∃ w1, w1 = w.alloc (.cells #[.pointer (some ⟨p, 0, none⟩)] 69) := ⟨_, rfl⟩
  obtain ⟨b, hbe⟩ : ∃ b, b = w.heap.size := ⟨_, rfl⟩
  have UC : Hid (Vb w w1 p g n b f) := Lib.hid (by rw [hw1, hbe]; exact Vb.new a)
  have FR : Hid (Below w.heap.size w w1) := Lib.hid (by rw [hw1]; exact below_one w _)
  have HW := Lib.hid hw1
  have HBE := Lib.hid hbe
  clear hw1 hbe a
  go_enter Tryd.func25, Tryd.ntmps25
  go_wp2_with fail
  rw [← HBE.out, ← HW.out]
  have c1 := UC.out.cell
  go_wp2_with (first
    | (go_at_call 33; (with_reducible refine (UC.out.aw.tholds k 24 (by omega) true H1.out).mono ?_); rintro e wc ⟨rfl, hbc⟩; have FR := Lib.hid (FR.out.trans (hbc.mono FR.out.size)); have UC := Lib.hid (UC.out.below hbc); (try clear c1); have c1 := UC.out.cell; clear hbc)
    | (go_at_call 54; (with_reducible refine (tred UC.out.aw k r (.inr h2) HR.out).mono ?_); rintro e wc ⟨rfl, hbc⟩; have FR := Lib.hid (FR.out.trans (hbc.mono FR.out.size)); have UC := Lib.hid (UC.out.below hbc); (try clear c1); have c1 := UC.out.cell; clear hbc))
  go_ret2
  exact ⟨rfl, FR.out⟩
set_option maxRecDepth 100000 in
set_option maxHeartbeats 4000000 in
theorem tadd_far (a : Aw w p g n f) (rt lf dl : Int) (hf : hd n rt 8 = false ∨ hd n lf 24 = false) :
    Calls Tryd.prog 16 #[.pointer (some ⟨p, 0, none⟩), .int .i64 rt, .int .i64 lf, .int .i64 dl] w fun e w' => e = .returned (.int .i64 4) ∧ Below w.heap.size w w' := by
  obtain ⟨w1, hw1⟩ : ∃ w1, w1 = w.alloc (.cells #[.pointer (some ⟨p, 0, none⟩)] 69) := ⟨_, rfl⟩
  obtain ⟨b, hbe⟩ : ∃ b, b = w.heap.size := ⟨_, rfl⟩
  have UC : Hid (Vb w w1 p g n b f) := Lib.hid (by rw [hw1, hbe]; exact Vb.new a)
  have FR : Hid (Below w.heap.size w w1) := Lib.hid (by rw [hw1]; exact below_one w _)
  have HW := Lib.hid hw1
  have HBE := Lib.hid hbe
  clear hw1 hbe a
  cases h1 : hd n rt 8 with
  | false =>
    have H1 := Lib.hid h1
    clear hf h1
    go_enter Tryd.func16, Tryd.ntmps16
    go_wp2_with fail
    rw [← HBE.out, ← HW.out]
    have c1 := UC.out.cell
    go_wp2_with (go_at_call 33; (with_reducible refine (UC.out.aw.tholds rt 8 (by omega) false H1.out).mono ?_); rintro e wc ⟨rfl, hbc⟩; have FR := Lib.hid (FR.out.trans (hbc.mono FR.out.size)); have UC := Lib.hid (UC.out.below hbc); (try clear c1); have c1 := UC.out.cell; clear hbc)
    go_ret
    exact ⟨rfl, FR.out⟩
  | true =>
    have H1 := Lib.hid h1
    have H2 := Lib.hid (hf.resolve_left (by rw [h1]; simp))
    clear hf h1
    go_enter Tryd.func16, Tryd.ntmps16
    go_wp2_with fail
    rw [← HBE.out, ← HW.out]
    have c1 := UC.out.cell
    go_wp2_with (first
      | (go_at_call 33; (with_reducible refine (UC.out.aw.tholds rt 8 (by omega) true H1.out).mono ?_); rintro e wc ⟨rfl, hbc⟩; have FR := Lib.hid (FR.out.trans (hbc.mono FR.out.size)); have UC := Lib.hid (UC.out.below hbc); (try clear c1); have c1 := UC.out.cell; clear hbc)
      | (go_at_call 33; (with_reducible refine (UC.out.aw.tholds lf 24 (by omega) false H2.out).mono ?_); rintro e wc ⟨rfl, hbc⟩; have FR := Lib.hid (FR.out.trans (hbc.mono FR.out.size)); have UC := Lib.hid (UC.out.below hbc); (try clear c1); have c1 := UC.out.cell; clear hbc))
    go_ret
    exact ⟨rfl, FR.out⟩
set_option maxRecDepth 100000 in
set_option maxHeartbeats 4000000 in
theorem tremove_far (a : Aw w p g n f) (rt lf : Int) (hf : hd n rt 8 = false ∨ hd n lf 24 = false) :
    Calls Tryd.prog 13 #[.pointer (some ⟨p, 0, none⟩), .int .i64 rt, .int .i64 lf] w fun e w' => e = .returned (.int .i64 4) ∧ Below w.heap.size w w' := by
  obtain ⟨w1, hw1⟩ : ∃ w1, w1 = w.alloc (.cells #[.pointer (some ⟨p, 0, none⟩)] 69) := ⟨_, rfl⟩
  obtain ⟨b, hbe⟩ : ∃ b, b = w.heap.size := ⟨_, rfl⟩
  have UC : Hid (Vb w w1 p g n b f) := Lib.hid (by rw [hw1, hbe]; exact Vb.new a)
  have FR : Hid (Below w.heap.size w w1) := Lib.hid (by rw [hw1]; exact below_one w _)
  have HW := Lib.hid hw1
  have HBE := Lib.hid hbe
  clear hw1 hbe a
  cases h1 : hd n rt 8 with
  | false =>
    have H1 := Lib.hid h1
    clear hf h1
    go_enter Tryd.func13, Tryd.ntmps13
    go_wp2_with fail
    rw [← HBE.out, ← HW.out]
    have c1 := UC.out.cell
    go_wp2_with (go_at_call 33; (with_reducible refine (UC.out.aw.tholds rt 8 (by omega) false H1.out).mono ?_); rintro e wc ⟨rfl, hbc⟩; have FR := Lib.hid (FR.out.trans (hbc.mono FR.out.size)); have UC := Lib.hid (UC.out.below hbc); (try clear c1); have c1 := UC.out.cell; clear hbc)
    go_ret
    exact ⟨rfl, FR.out⟩
  | true =>
    have H1 := Lib.hid h1
    have H2 := Lib.hid (hf.resolve_left (by rw [h1]; simp))
    clear hf h1
    go_enter Tryd.func13, Tryd.ntmps13
    go_wp2_with fail
    rw [← HBE.out, ← HW.out]
    have c1 := UC.out.cell
    go_wp2_with (first
      | (go_at_call 33; (with_reducible refine (UC.out.aw.tholds rt 8 (by omega) true H1.out).mono ?_); rintro e wc ⟨rfl, hbc⟩; have FR := Lib.hid (FR.out.trans (hbc.mono FR.out.size)); have UC := Lib.hid (UC.out.below hbc); (try clear c1); have c1 := UC.out.cell; clear hbc)
      | (go_at_call 33; (with_reducible refine (UC.out.aw.tholds lf 24 (by omega) false H2.out).mono ?_); rintro e wc ⟨rfl, hbc⟩; have FR := Lib.hid (FR.out.trans (hbc.mono FR.out.size)); have UC := Lib.hid (UC.out.below hbc); (try clear c1); have c1 := UC.out.cell; clear hbc))
    go_ret
    exact ⟨rfl, FR.out⟩
set_option maxRecDepth 100000 in
set_option maxHeartbeats 4000000 in
theorem tadd_key (a : Aw w p g n f) (rt lf dl : Int) (h1 : hd n rt 8 = true) (h2 : hd n lf 24 = true) (hx : IntKind.i64.wrap (lf + dl) = lf + dl) (hf : lf + dl < 0 ∨ (n : Int) - 8 < lf + dl) :
    Calls Tryd.prog 16 #[.pointer (some ⟨p, 0, none⟩), .int .i64 rt, .int .i64 lf, .int .i64 dl] w fun e w' => e = .returned (.int .i64 4) ∧ Below w.heap.size w w' := by
  have H1 := Lib.hid h1
  have H2 := Lib.hid h2
  have hn := a.ar.small
  have HF := Lib.hid hf
  clear h1 h2 hf
  obtain ⟨w1, hw1⟩ : ∃ w1, w1 = w.alloc (.cells #[.pointer (some ⟨p, 0, none⟩)] 69) := ⟨_, rfl⟩
  obtain ⟨b, hbe⟩ : ∃ b, b = w.heap.size := ⟨_, rfl⟩
  have UC : Hid (Vb w w1 p g n b f) := Lib.hid (by rw [hw1, hbe]; exact Vb.new a)
  have FR : Hid (Below w.heap.size w w1) := Lib.hid (by rw [hw1]; exact below_one w _)
  have HW := Lib.hid hw1
  have HBE := Lib.hid hbe
  clear hw1 hbe a
  have LD : Hid (∀ w, Aw w p g n f → Calls Tryd.prog 26 #[.pointer (some ⟨p, 0, none⟩), .int .i64 (lf + dl), .int .i64 8] w fun e w' => e = .returned (.tuple #[.int .u64 0, .int .i64 4]) ∧ w = w') := Lib.hid fun w a =>
    load_far _ _ n (lf + dl) 8 a.tab a.ar.mem hn (by decide) HF.out
  go_enter Tryd.func16, Tryd.ntmps16
  go_wp2_with fail
  rw [← HBE.out, ← HW.out]
  have c1 := UC.out.cell
  go_wp2_with (first
    | (go_at_call 33; (with_reducible refine (UC.out.aw.tholds rt 8 (by omega) true H1.out).mono ?_); rintro e wc ⟨rfl, hbc⟩; have FR := Lib.hid (FR.out.trans (hbc.mono FR.out.size)); have UC := Lib.hid (UC.out.below hbc); (try clear c1); have c1 := UC.out.cell; clear hbc)
    | (go_at_call 33; (with_reducible refine (UC.out.aw.tholds lf 24 (by omega) true H2.out).mono ?_); rintro e wc ⟨rfl, hbc⟩; have FR := Lib.hid (FR.out.trans (hbc.mono FR.out.size)); have UC := Lib.hid (UC.out.below hbc); (try clear c1); have c1 := UC.out.cell; clear hbc)
    | (go_at_call 26; (with_reducible refine (LD.out _ UC.out.aw).mono ?_); rintro e wc ⟨rfl, rfl⟩))
  go_ret
  exact ⟨rfl, FR.out⟩
end
section
variable {c : Cx} {w w' : World} {s : Tr} {I : Nat → Bool}
theorem Td.hdR (t : Td c w s I) : hd c.n (c.rt : Int) 8 = true := thd_in (size := 8) t.pl.rpos.1 t.pl.rpos.2
theorem Td.hdL (t : Td c w s I) {k : Nat} (hk : c.N k) : hd c.n (c.ad k : Int) 24 = true := thd_in (size := 24) (t.pl.pos k hk).2.1 (t.pl.pos k hk).2.2
theorem Td.holds (t : Td c w s I) (a size : Int) (hs : 0 ≤ size ∧ size ≤ 65536) (r : Bool) (hr : hd c.n a size = r) :
    Calls Tryd.prog 33 #[lv c.p, .int .i64 a, .int .i64 size] w fun e w' => e = .returned (.bool r) ∧ Below w.heap.size w w' := by
  obtain ⟨f, t⟩ := t
  exact t.aw.tholds a size hs r hr
theorem Td.rootP (t : Td c w s I) :
    Calls Tryd.prog 23 #[.pointer (some ⟨c.p, 0, none⟩), .int .i64 (c.rt : Nat)] w fun e w' => e = .returned (.tuple #[.int .i64 (c.ad s.top : Nat), .int .i64 0]) ∧ Below w.heap.size w w' := by
  obtain ⟨f, t⟩ := t
  have h := t.tm.pl.rpos
  have := troot_at t.aw c.rt h.1 h.2
  have e : tgv f c.rt 0 = (c.ad s.top : Nat) := by
    unfold tgv
    rw [if_neg (by omega), Nat.add_zero]
    exact t.tm.top
  rwa [e] at this
theorem Td.childP (t : Td c w s I) {x : Nat} (hx : c.N x) (d : Bool) :
    Calls Tryd.prog 29 #[.pointer (some ⟨c.p, 0, none⟩), .int .i64 (c.ad x : Nat), .bool d] w fun e w' => e = .returned (.tuple #[.int .i64 (c.ad (s.ch x d) : Nat), .int .i64 0]) ∧ Below w.heap.size w w' := by
  obtain ⟨f, t⟩ := t
  have h := t.tm.pl.pos x hx
  have := tchild_at t.aw (c.ad x) d h.2.1 h.2.2
  rwa [t.chv (.inr hx) d] at this
theorem Td.ownerP (t : Td c w s I) {x : Nat} (hx : c.N x) :
    Calls Tryd.prog 30 #[.pointer (some ⟨c.p, 0, none⟩), .int .i64 (c.ad x : Nat)] w fun e w' => e = .returned (.tuple #[.int .i64 ((if I x then c.rt else 0 : Nat)), .int .i64 0]) ∧ Below w.heap.size w w' := by
  obtain ⟨f, t⟩ := t
  have h := t.tm.pl.pos x hx
  have := towner_at t.aw (c.ad x) h.2.1 h.2.2
  have e : tgv f (c.ad x) 12 = ((if I x then c.rt else 0 : Nat) : Int) := t.wd hx 12 3 (by decide) rfl
  rwa [e] at this
theorem Td.redP (t : Td c w s I) {x : Nat} (hx : c.N x) :
    Calls Tryd.prog 25 #[.pointer (some ⟨c.p, 0, none⟩), .int .i64 (c.ad x : Nat)] w fun e w' => e = .returned (.tuple #[.bool (s.red x), .int .i64 0]) ∧ Below w.heap.size w w' := by
  obtain ⟨f, t⟩ := t
  have h := t.tm.pl.pos x hx
  exact tred_at t.aw (c.ad x) (s.red x) h.2.1 h.2.2 (t.redv (.inr hx))
set_option maxRecDepth 100000 in
set_option maxHeartbeats 4000000 in
theorem Td.firstP (t : Td c w s I) {T0 : T} (h : At s T0 s.top 0) (hlen : T0.ns.length < c.n) :
    Calls Tryd.prog 19 #[.pointer (some ⟨c.p, 0, none⟩), .int .i64 (c.rt : Nat)] w fun e w' => e = .returned (.tuple #[.int .i64 (c.ad (fst T0) : Nat), .int .i64 0]) ∧ Below w.heap.size w w' := by
  have HR := Lib.hid t.hdR
  have TN := Lib.hid t.topN
  have HA := Lib.hid h
  obtain ⟨w1, hw1⟩ : ∃ w1, w1 = w.alloc (.cells #[.pointer (some ⟨c.p, 0, none⟩)] 69) := ⟨_, rfl⟩
  obtain ⟨b, hbe⟩ : ∃ b, b = w.heap.size := ⟨_, rfl⟩
  have UC : Hid (Tb c w w1 b s I) := Lib.hid (by rw [hw1, hbe]; exact Tb.new t)
  have FR : Hid (Below w.heap.size w w1) := Lib.hid (by rw [hw1]; exact below_one w _)
  have HW := Lib.hid hw1
  have HBE := Lib.hid hbe
  clear hw1 hbe t h
  go_enter Tryd.func19, Tryd.ntmps19
  go_wp2_with fail
  rw [← HBE.out, ← HW.out]
  have C1 := Lib.hid UC.out.cell
  have c1 := C1.out
  go_wp2_with (go_at_call 33; (with_reducible refine (UC.out.td.holds c.rt 8 (by omega) true HR.out).mono ?_); rintro e wc ⟨rfl, hbc⟩; have FR := Lib.hid (FR.out.trans (hbc.mono FR.out.size)); have UC := Lib.hid (UC.out.below hbc); have C1 := Lib.hid UC.out.cell; (try clear c1); have c1 := C1.out; clear hbc)
  have UC := Lib.hid UC.out.drew
  have FR := Lib.hid FR.out.drew
  go_region_held3 (fun w' => w'.cell? ⟨b, 0, none⟩ = some (.pointer (some ⟨c.p, 0, none⟩))) (first | go_keep | with_reducible exact C1.out) (first
    | (go_at_call 34; (with_reducible refine (UC.out.td.root).mono ?_); rintro e wc ⟨rfl, hbc⟩; have FR := Lib.hid (FR.out.trans (hbc.mono FR.out.size)); have UC := Lib.hid (UC.out.below hbc); have C1 := Lib.hid UC.out.cell; replace hbc := Lib.hid hbc)
    | (go_at_call 51; (with_reducible refine (UC.out.td.leftmost HA.out TN.out hlen).mono ?_); rintro e wc ⟨rfl, hbc⟩; have FR := Lib.hid (FR.out.trans (hbc.mono FR.out.size)); have UC := Lib.hid (UC.out.below hbc); have C1 := Lib.hid UC.out.cell; replace hbc := Lib.hid hbc))
  all_goals
    go_wp2_with fail
    go_ret2
    exact ⟨rfl, FR.out⟩
end
end Go.Proofs.YtiacclmapicmdaaDoor
