/- The contracts of chain's End, Next, Owner. Conditions: the table of widths lies in its block; the arena's blocks are known. -/
import Derived.Test.YthklbkgehfgdgaaDoorChPush
namespace Go.Proofs.YthklbkgehfgdgaaDoor
open Go.RowKit

section
variable {w : World} {p g n : Nat} {H : List Nat} {N : Nat → Prop} {L : Nat → List Nat} {f : Nat → Int}
set_option maxRecDepth 100000 in
theorem end_far (a : Aw w p g n f) (k : Int) (d : Bool) (hf : hd n k 8 = false) :
    Calls Tryd.prog 21 #[.pointer (some ⟨p, 0, none⟩), .int .i64 k, .bool d] w fun e w' => e = .returned (.tuple #[.int .i64 0, .int .i64 4]) ∧ Below w.heap.size w w' := by
  have H1 := Lib.hid hf
  obtain ⟨w1, hw1⟩ : ∃ w1, w1 = w.alloc (.cells #[.pointer (some ⟨p, 0, none⟩)] 60) := ⟨_, rfl⟩
  obtain ⟨b, hbe⟩ : ∃ b, b = w.heap.size := ⟨_, rfl⟩
  have UC : Hid (Ub w w1 p g n b f) := Lib.hid (by rw [hw1, hbe]; exact Ub.new a)
  have FR : Hid (Below w.heap.size w w1) := Lib.hid (by rw [hw1]; exact below_one w _)
  have HW := Lib.hid hw1
  have HBE := Lib.hid hbe
  clear hw1 hbe
  clear a hf
  go_enter Tryd.func21, Tryd.ntmps21
  go_wp2_with fail
  rw [← HBE.out, ← HW.out]
  have c1 := UC.out.cell
  go_wp2_with (go_at_call 28; (with_reducible refine (UC.out.aw.holds k 8 (by omega) false H1.out).mono ?_); rintro e wc ⟨rfl, hbc⟩; have FR := Lib.hid (FR.out.trans (hbc.mono FR.out.size)); have UC := Lib.hid (UC.out.below hbc); try clear c1; have c1 := UC.out.cell; clear hbc)
  go_ret2
  exact ⟨rfl, FR.out⟩
set_option maxRecDepth 100000 in
theorem end_at (a : Aw w p g n f) (k v : Nat) (d : Bool) (h1 : 1 ≤ k) (h2 : k + 8 ≤ n) (hv : lk f (k + off d) = (v : Nat)) :
    Calls Tryd.prog 21 #[.pointer (some ⟨p, 0, none⟩), .int .i64 k, .bool d] w fun e w' => e = .returned (.tuple #[.int .i64 (v : Nat), .int .i64 0]) ∧ Below w.heap.size w w' := by
  have hn := a.ar.small
  have H1 : Hid (hd n (k : Int) 8 = true) := Lib.hid (hd_in (size := 8) h1 h2)
  have od := off_bd d
  obtain ⟨o1, ho1⟩ : ∃ o1, o1 = off d := ⟨_, rfl⟩
  obtain ⟨o2, ho2⟩ : ∃ o2, o2 = off (!d) := ⟨_, rfl⟩
  have SD : ∀ w, Calls Tryd.prog 30 #[.bool d] w fun e w' => e = .returned (.tuple #[.int .i64 (o1 : Nat), .int .i64 (o2 : Nat)]) ∧ w = w' := fun w => by rw [ho1, ho2]; exact sides_any d w
  rw [← ho1] at od hv
  replace SD := Lib.hid SD
  have K1 : ∀ w, Aw w p g n f → Calls Tryd.prog 29 #[lv p, .int .i64 ((k : Int) + o1)] w fun e w' => e = .returned (.int .i64 ((v : Nat))) ∧ Below w.heap.size w w' := fun w a => by
    have := a.link (k + o1) (by omega)
    rwa [hv] at this
  replace K1 := Lib.hid K1
  obtain ⟨w1, hw1⟩ : ∃ w1, w1 = w.alloc (.cells #[.pointer (some ⟨p, 0, none⟩)] 60) := ⟨_, rfl⟩
  obtain ⟨b, hbe⟩ : ∃ b, b = w.heap.size := ⟨_, rfl⟩
  have UC : Hid (Ub w w1 p g n b f) := Lib.hid (by rw [hw1, hbe]; exact Ub.new a)
  have FR : Hid (Below w.heap.size w w1) := Lib.hid (by rw [hw1]; exact below_one w _)
  have HW := Lib.hid hw1
  have HBE := Lib.hid hbe
  clear hw1 hbe
  clear a hv ho1 ho2
  go_enter Tryd.func21, Tryd.ntmps21
  go_wp2_with fail
  rw [← HBE.out, ← HW.out]
  have c1 := UC.out.cell
  go_wp2_with (first
    | (go_at_call 28; (with_reducible refine (UC.out.aw.holds k 8 (by omega) true H1.out).mono ?_); rintro e wc ⟨rfl, hbc⟩; have FR := Lib.hid (FR.out.trans (hbc.mono FR.out.size)); have UC := Lib.hid (UC.out.below hbc); try clear c1; have c1 := UC.out.cell; clear hbc)
    | (go_at_call 30; (with_reducible refine (SD.out _).mono ?_); rintro e wc ⟨rfl, rfl⟩)
    | (go_at_call 29; (with_reducible refine (K1.out _ UC.out.aw).mono ?_); rintro e wc ⟨rfl, hbc⟩; have FR := Lib.hid (FR.out.trans (hbc.mono FR.out.size)); have UC := Lib.hid (UC.out.below hbc); try clear c1; have c1 := UC.out.cell; clear hbc))
  go_ret2
  exact ⟨rfl, FR.out⟩
set_option maxRecDepth 100000 in
theorem next_far (a : Aw w p g n f) (k : Int) (d : Bool) (hf : hd n k 16 = false) :
    Calls Tryd.prog 23 #[.pointer (some ⟨p, 0, none⟩), .int .i64 k, .bool d] w fun e w' => e = .returned (.tuple #[.int .i64 0, .int .i64 4]) ∧ Below w.heap.size w w' := by
  have H1 := Lib.hid hf
  obtain ⟨w1, hw1⟩ : ∃ w1, w1 = w.alloc (.cells #[.pointer (some ⟨p, 0, none⟩)] 60) := ⟨_, rfl⟩
  obtain ⟨b, hbe⟩ : ∃ b, b = w.heap.size := ⟨_, rfl⟩
  have UC : Hid (Ub w w1 p g n b f) := Lib.hid (by rw [hw1, hbe]; exact Ub.new a)
  have FR : Hid (Below w.heap.size w w1) := Lib.hid (by rw [hw1]; exact below_one w _)
  have HW := Lib.hid hw1
  have HBE := Lib.hid hbe
  clear hw1 hbe
  clear a hf
  go_enter Tryd.func23, Tryd.ntmps23
  go_wp2_with fail
  rw [← HBE.out, ← HW.out]
  have c1 := UC.out.cell
  go_wp2_with (go_at_call 28; (with_reducible refine (UC.out.aw.holds k 16 (by omega) false H1.out).mono ?_); rintro e wc ⟨rfl, hbc⟩; have FR := Lib.hid (FR.out.trans (hbc.mono FR.out.size)); have UC := Lib.hid (UC.out.below hbc); try clear c1; have c1 := UC.out.cell; clear hbc)
  go_ret2
  exact ⟨rfl, FR.out⟩
set_option maxRecDepth 100000 in
theorem next_at (a : Aw w p g n f) (k v : Nat) (d : Bool) (h1 : 1 ≤ k) (h2 : k + 16 ≤ n) (hv : lk f (k + off d) = (v : Nat)) :
    Calls Tryd.prog 23 #[.pointer (some ⟨p, 0, none⟩), .int .i64 k, .bool d] w fun e w' => e = .returned (.tuple #[.int .i64 (v : Nat), .int .i64 0]) ∧ Below w.heap.size w w' := by
  have hn := a.ar.small
  have H1 : Hid (hd n (k : Int) 16 = true) := Lib.hid (hd_in (size := 16) h1 h2)
  have od := off_bd d
  obtain ⟨o1, ho1⟩ : ∃ o1, o1 = off d := ⟨_, rfl⟩
  obtain ⟨o2, ho2⟩ : ∃ o2, o2 = off (!d) := ⟨_, rfl⟩
  have SD : ∀ w, Calls Tryd.prog 30 #[.bool d] w fun e w' => e = .returned (.tuple #[.int .i64 (o1 : Nat), .int .i64 (o2 : Nat)]) ∧ w = w' := fun w => by rw [ho1, ho2]; exact sides_any d w
  rw [← ho1] at od hv
  replace SD := Lib.hid SD
  have K1 : ∀ w, Aw w p g n f → Calls Tryd.prog 29 #[lv p, .int .i64 ((k : Int) + o1)] w fun e w' => e = .returned (.int .i64 ((v : Nat))) ∧ Below w.heap.size w w' := fun w a => by
    have := a.link (k + o1) (by omega)
    rwa [hv] at this
  replace K1 := Lib.hid K1
  obtain ⟨w1, hw1⟩ : ∃ w1, w1 = w.alloc (.cells #[.pointer (some ⟨p, 0, none⟩)] 60) := ⟨_, rfl⟩
  obtain ⟨b, hbe⟩ : ∃ b, b = w.heap.size := ⟨_, rfl⟩
  have UC : Hid (Ub w w1 p g n b f) := Lib.hid (by rw [hw1, hbe]; exact Ub.new a)
  have FR : Hid (Below w.heap.size w w1) := Lib.hid (by rw [hw1]; exact below_one w _)
  have HW := Lib.hid hw1
  have HBE := Lib.hid hbe
  clear hw1 hbe
  clear a hv ho1 ho2
  go_enter Tryd.func23, Tryd.ntmps23
  go_wp2_with fail
  rw [← HBE.out, ← HW.out]
  have c1 := UC.out.cell
  go_wp2_with (first
    | (go_at_call 28; (with_reducible refine (UC.out.aw.holds k 16 (by omega) true H1.out).mono ?_); rintro e wc ⟨rfl, hbc⟩; have FR := Lib.hid (FR.out.trans (hbc.mono FR.out.size)); have UC := Lib.hid (UC.out.below hbc); try clear c1; have c1 := UC.out.cell; clear hbc)
    | (go_at_call 30; (with_reducible refine (SD.out _).mono ?_); rintro e wc ⟨rfl, rfl⟩)
    | (go_at_call 29; (with_reducible refine (K1.out _ UC.out.aw).mono ?_); rintro e wc ⟨rfl, hbc⟩; have FR := Lib.hid (FR.out.trans (hbc.mono FR.out.size)); have UC := Lib.hid (UC.out.below hbc); try clear c1; have c1 := UC.out.cell; clear hbc))
  go_ret2
  exact ⟨rfl, FR.out⟩
set_option maxRecDepth 100000 in
theorem owner_far (a : Aw w p g n f) (k : Int) (hf : hd n k 16 = false) :
    Calls Tryd.prog 22 #[.pointer (some ⟨p, 0, none⟩), .int .i64 k] w fun e w' => e = .returned (.tuple #[.int .i64 0, .int .i64 4]) ∧ Below w.heap.size w w' := by
  have H1 := Lib.hid hf
  obtain ⟨w1, hw1⟩ : ∃ w1, w1 = w.alloc (.cells #[.pointer (some ⟨p, 0, none⟩)] 60) := ⟨_, rfl⟩
  obtain ⟨b, hbe⟩ : ∃ b, b = w.heap.size := ⟨_, rfl⟩
  have UC : Hid (Ub w w1 p g n b f) := Lib.hid (by rw [hw1, hbe]; exact Ub.new a)
  have FR : Hid (Below w.heap.size w w1) := Lib.hid (by rw [hw1]; exact below_one w _)
  have HW := Lib.hid hw1
  have HBE := Lib.hid hbe
  clear hw1 hbe
  clear a hf
  go_enter Tryd.func22, Tryd.ntmps22
  go_wp2_with fail
  rw [← HBE.out, ← HW.out]
  have c1 := UC.out.cell
  go_wp2_with (go_at_call 28; (with_reducible refine (UC.out.aw.holds k 16 (by omega) false H1.out).mono ?_); rintro e wc ⟨rfl, hbc⟩; have FR := Lib.hid (FR.out.trans (hbc.mono FR.out.size)); have UC := Lib.hid (UC.out.below hbc); try clear c1; have c1 := UC.out.cell; clear hbc)
  go_ret2
  exact ⟨rfl, FR.out⟩
set_option maxRecDepth 100000 in
theorem owner_at (a : Aw w p g n f) (k v : Nat) (h1 : 1 ≤ k) (h2 : k + 16 ≤ n) (hv : lk f (k + 8) = (v : Nat)) :
    Calls Tryd.prog 22 #[.pointer (some ⟨p, 0, none⟩), .int .i64 k] w fun e w' => e = .returned (.tuple #[.int .i64 (v : Nat), .int .i64 0]) ∧ Below w.heap.size w w' := by
  have hn := a.ar.small
  have H1 : Hid (hd n (k : Int) 16 = true) := Lib.hid (hd_in (size := 16) h1 h2)
  have K1 : ∀ w, Aw w p g n f → Calls Tryd.prog 29 #[lv p, .int .i64 ((k : Int) + 8)] w fun e w' => e = .returned (.int .i64 ((v : Nat))) ∧ Below w.heap.size w w' := fun w a => by
    have := a.link (k + 8) (by omega)
    rwa [hv] at this
  replace K1 := Lib.hid K1
  obtain ⟨w1, hw1⟩ : ∃ w1, w1 = w.alloc (.cells #[.pointer (some ⟨p, 0, none⟩)] 60) := ⟨_, rfl⟩
  obtain ⟨b, hbe⟩ : ∃ b, b = w.heap.size := ⟨_, rfl⟩
  have UC : Hid (Ub w w1 p g n b f) := Lib.hid (by rw [hw1, hbe]; exact Ub.new a)
  have FR : Hid (Below w.heap.size w w1) := Lib.hid (by rw [hw1]; exact below_one w _)
  have HW := Lib.hid hw1
  have HBE := Lib.hid hbe
  clear hw1 hbe
  clear a hv
  go_enter Tryd.func22, Tryd.ntmps22
  go_wp2_with fail
  rw [← HBE.out, ← HW.out]
  have c1 := UC.out.cell
  go_wp2_with (first
    | (go_at_call 28; (with_reducible refine (UC.out.aw.holds k 16 (by omega) true H1.out).mono ?_); rintro e wc ⟨rfl, hbc⟩; have FR := Lib.hid (FR.out.trans (hbc.mono FR.out.size)); have UC := Lib.hid (UC.out.below hbc); try clear c1; have c1 := UC.out.cell; clear hbc)
    | (go_at_call 29; (with_reducible refine (K1.out _ UC.out.aw).mono ?_); rintro e wc ⟨rfl, hbc⟩; have FR := Lib.hid (FR.out.trans (hbc.mono FR.out.size)); have UC := Lib.hid (UC.out.below hbc); try clear c1; have c1 := UC.out.cell; clear hbc))
  go_ret2
  exact ⟨rfl, FR.out⟩
end
end Go.Proofs.YthklbkgehfgdgaaDoor
