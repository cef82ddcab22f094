/- The contracts of chain's Remove and Pop. Conditions: the table of widths lies in its block; the arena's blocks are known; where they answer no ErrRange, its bytes are lists' links. -/
import Derived.Test.YthklbkgehfgdgaaDoorChReads
namespace Go.Proofs.YthklbkgehfgdgaaDoor
open Go.RowKit

section
variable {w : World} {p g n : Nat} {H : List Nat} {N : Nat → Prop} {L : Nat → List Nat} {f : Nat → Int}
set_option maxRecDepth 100000 in
theorem remove_far (a : Aw w p g n f) (h x : Int) (hf : hd n h 8 = false ∨ hd n x 16 = false) :
    Calls Tryd.prog 18 #[.pointer (some ⟨p, 0, none⟩), .int .i64 h, .int .i64 x] w fun e w' => e = .returned (.int .i64 4) ∧ Below w.heap.size w w' := by
  obtain ⟨w1, hw1⟩ : ∃ w1, w1 = w.alloc (.cells #[.pointer (some ⟨p, 0, none⟩)] 60) := ⟨_, rfl⟩
  obtain ⟨b, hbe⟩ : ∃ b, b = w.heap.size := ⟨_, rfl⟩
  have UC : Hid (Ub w w1 p g n b f) := Lib.hid (by rw [hw1, hbe]; exact Ub.new a)
  have FR : Hid (Below w.heap.size w w1) := Lib.hid (by rw [hw1]; exact below_one w _)
  have HW := Lib.hid hw1
  have HBE := Lib.hid hbe
  clear hw1 hbe
  cases h1 : hd n h 8 with
  | false =>
    have H1 := Lib.hid h1
    clear a hf h1
    go_enter Tryd.func18, Tryd.ntmps18
    go_wp2_with fail
    rw [← HBE.out, ← HW.out]
    have c1 := UC.out.cell
    go_wp2_with (go_at_call 28; (with_reducible refine (UC.out.aw.holds h 8 (by omega) false H1.out).mono ?_); rintro e wc ⟨rfl, hbc⟩; have FR := Lib.hid (FR.out.trans (hbc.mono FR.out.size)); have UC := Lib.hid (UC.out.below hbc); try clear c1; have c1 := UC.out.cell; clear hbc)
    go_ret
    exact ⟨rfl, FR.out⟩
  | true =>
    have H1 := Lib.hid h1
    have H2 := Lib.hid (hf.resolve_left (by rw [h1]; simp))
    clear a hf h1
    go_enter Tryd.func18, Tryd.ntmps18
    go_wp2_with fail
    rw [← HBE.out, ← HW.out]
    have c1 := UC.out.cell
    go_wp2_with (first | (go_at_call 28; (with_reducible refine (UC.out.aw.holds h 8 (by omega) true H1.out).mono ?_); rintro e wc ⟨rfl, hbc⟩; have FR := Lib.hid (FR.out.trans (hbc.mono FR.out.size)); have UC := Lib.hid (UC.out.below hbc); try clear c1; have c1 := UC.out.cell; clear hbc) | (go_at_call 28; (with_reducible refine (UC.out.aw.holds x 16 (by omega) false H2.out).mono ?_); rintro e wc ⟨rfl, hbc⟩; have FR := Lib.hid (FR.out.trans (hbc.mono FR.out.size)); have UC := Lib.hid (UC.out.below hbc); try clear c1; have c1 := UC.out.cell; clear hbc))
    go_ret
    exact ⟨rfl, FR.out⟩
set_option maxRecDepth 100000 in
theorem remove_not (a : Aw w p g n f) (l : Lay n H N) {h x k : Nat} (hh : h ∈ H) (hx : N x) (ho : lk f (x + 8) = (k : Nat)) (hk : k ≠ h) :
    Calls Tryd.prog 18 #[.pointer (some ⟨p, 0, none⟩), .int .i64 h, .int .i64 x] w fun e w' => e = .returned (.int .i64 8) ∧ Below w.heap.size w w' := by
  have hxb := l.xin x hx
  have hn := a.ar.small
  have H1 := Lib.hid (l.hdH hh)
  have H2 := Lib.hid (l.hdX hx)
  have K1 : ∀ w, Aw w p g n f → Calls Tryd.prog 29 #[lv p, .int .i64 ((x : Int) + 8)] w fun e w' => e = .returned (.int .i64 ((k : Nat))) ∧ Below w.heap.size w w' := fun w a => by
    have := a.link (x + 8) (by omega)
    rwa [ho] at this
  replace K1 := Lib.hid K1
  obtain ⟨w1, hw1⟩ : ∃ w1, w1 = w.alloc (.cells #[.pointer (some ⟨p, 0, none⟩)] 60) := ⟨_, rfl⟩
  obtain ⟨b, hbe⟩ : ∃ b, b = w.heap.size := ⟨_, rfl⟩
  have UC : Hid (Ub w w1 p g n b f) := Lib.hid (by rw [hw1, hbe]; exact Ub.new a)
  have FR : Hid (Below w.heap.size w w1) := Lib.hid (by rw [hw1]; exact below_one w _)
  have HW := Lib.hid hw1
  have HBE := Lib.hid hbe
  clear hw1 hbe
  have hki : ¬ ((k : Nat) : Int) = h := by omega
  clear a l hh hx ho hk
  go_enter Tryd.func18, Tryd.ntmps18
  go_wp2_with fail
  rw [← HBE.out, ← HW.out]
  have c1 := UC.out.cell
  go_wp2_with (first
    | (go_at_call 28; (with_reducible refine (UC.out.aw.holds h 8 (by omega) true H1.out).mono ?_); rintro e wc ⟨rfl, hbc⟩; have FR := Lib.hid (FR.out.trans (hbc.mono FR.out.size)); have UC := Lib.hid (UC.out.below hbc); try clear c1; have c1 := UC.out.cell; clear hbc)
    | (go_at_call 28; (with_reducible refine (UC.out.aw.holds x 16 (by omega) true H2.out).mono ?_); rintro e wc ⟨rfl, hbc⟩; have FR := Lib.hid (FR.out.trans (hbc.mono FR.out.size)); have UC := Lib.hid (UC.out.below hbc); try clear c1; have c1 := UC.out.cell; clear hbc)
    | (go_at_call 29; (with_reducible refine (K1.out _ UC.out.aw).mono ?_); rintro e wc ⟨rfl, hbc⟩; have FR := Lib.hid (FR.out.trans (hbc.mono FR.out.size)); have UC := Lib.hid (UC.out.below hbc); try clear c1; have c1 := UC.out.cell; clear hbc))
  go_ret
  exact ⟨rfl, FR.out⟩
set_option maxRecDepth 100000 in
theorem remove_ok (a : Aw w p g n f) (c : Ch n H N L f) {h x : Nat} (hh : h ∈ H) (hm : x ∈ L h) :
    Calls Tryd.prog 18 #[.pointer (some ⟨p, 0, none⟩), .int .i64 h, .int .i64 x] w fun e w' => e = .returned (.int .i64 0) ∧
      Aw w' p g n (cutF f h x (nxt (dl true (L h)) x) (nxt (dl false (L h)) x)) ∧ Fg g w w' := by
  have hx := c.mem h hh x hm
  have l := c.lay
  have ho := c.own h hh x hm
  have hxb := l.xin x hx
  have hn := a.ar.small
  have H1 := Lib.hid (l.hdH hh)
  have H2 := Lib.hid (l.hdX hx)
  have K1 : ∀ w, Aw w p g n f → Calls Tryd.prog 29 #[lv p, .int .i64 ((x : Int) + 8)] w fun e w' => e = .returned (.int .i64 ((h : Nat))) ∧ Below w.heap.size w w' := fun w a => by
    have := a.link (x + 8) (by omega)
    rwa [ho] at this
  replace K1 := Lib.hid K1
  have UN : ∀ w, Aw w p g n f → Calls Tryd.prog 36 #[lv p, .int .i64 h, .int .i64 x] w fun e w' => (∃ u, e = .returned u) ∧ Aw w' p g n (cutF f h x (nxt (dl true (L h)) x) (nxt (dl false (L h)) x)) ∧ Fg g w w' := fun w a => unlink_any a c hh hm
  generalize cutF f h x (nxt (dl true (L h)) x) (nxt (dl false (L h)) x) = f' at UN ⊢
  replace UN := Lib.hid UN
  obtain ⟨w1, hw1⟩ : ∃ w1, w1 = w.alloc (.cells #[.pointer (some ⟨p, 0, none⟩)] 60) := ⟨_, rfl⟩
  obtain ⟨b, hbe⟩ : ∃ b, b = w.heap.size := ⟨_, rfl⟩
  have UC : Hid (Ub w w1 p g n b f) := Lib.hid (by rw [hw1, hbe]; exact Ub.new a)
  have FR : Hid (Below w.heap.size w w1) := Lib.hid (by rw [hw1]; exact below_one w _)
  have HW := Lib.hid hw1
  have HBE := Lib.hid hbe
  clear hw1 hbe
  clear a c l hh hx ho hm
  go_enter Tryd.func18, Tryd.ntmps18
  go_wp2_with fail
  rw [← HBE.out, ← HW.out]
  have c1 := UC.out.cell
  go_wp2_with (first
    | (go_at_call 28; (with_reducible refine (UC.out.aw.holds h 8 (by omega) true H1.out).mono ?_); rintro e wc ⟨rfl, hbc⟩; have FR := Lib.hid (FR.out.trans (hbc.mono FR.out.size)); have UC := Lib.hid (UC.out.below hbc); try clear c1; have c1 := UC.out.cell; clear hbc)
    | (go_at_call 28; (with_reducible refine (UC.out.aw.holds x 16 (by omega) true H2.out).mono ?_); rintro e wc ⟨rfl, hbc⟩; have FR := Lib.hid (FR.out.trans (hbc.mono FR.out.size)); have UC := Lib.hid (UC.out.below hbc); try clear c1; have c1 := UC.out.cell; clear hbc)
    | (go_at_call 29; (with_reducible refine (K1.out _ UC.out.aw).mono ?_); rintro e wc ⟨rfl, hbc⟩; have FR := Lib.hid (FR.out.trans (hbc.mono FR.out.size)); have UC := Lib.hid (UC.out.below hbc); try clear c1; have c1 := UC.out.cell; clear hbc)
    | (go_at_call 36; (with_reducible refine (UN.out _ UC.out.aw).mono ?_); rintro e wc ⟨⟨u, rfl⟩, hac, hfc⟩; have UC := Lib.hid (UC.out.fg hfc hac); try clear c1; have c1 := UC.out.cell; clear hac hfc))
  go_ret
  exact ⟨rfl, UC.out.aw, UC.out.fr⟩
set_option maxRecDepth 100000 in
theorem pop_far (a : Aw w p g n f) (h : Int) (d : Bool) (hf : hd n h 8 = false) :
    Calls Tryd.prog 16 #[.pointer (some ⟨p, 0, none⟩), .int .i64 h, .bool d] w fun e w' => e = .returned (.tuple #[.int .i64 0, .int .i64 4]) ∧ Below w.heap.size w w' := by
  have A0 := Lib.hid a
  clear a
  go_enter Tryd.func16, Tryd.ntmps16
  go_wp2_with (go_at_call 21; refine (end_far A0.out h d hf).mono ?_; rintro e wc ⟨rfl, hbc⟩; have FR := Lib.hid hbc; clear hbc)
  go_ret2
  exact ⟨rfl, FR.out⟩
set_option maxRecDepth 100000 in
theorem pop_none (a : Aw w p g n f) (h : Nat) (d : Bool) (h1 : 1 ≤ h) (h2 : h + 8 ≤ n) (hv : lk f (h + off d) = 0) :
    Calls Tryd.prog 16 #[.pointer (some ⟨p, 0, none⟩), .int .i64 h, .bool d] w fun e w' => e = .returned (.tuple #[.int .i64 0, .int .i64 6]) ∧ Below w.heap.size w w' := by
  have E1 := Lib.hid (end_at a h 0 d h1 h2 hv)
  clear a
  go_enter Tryd.func16, Tryd.ntmps16
  go_wp2_with (go_at_call 21; refine E1.out.mono ?_; rintro e wc ⟨rfl, hbc⟩; have FR := Lib.hid hbc; clear hbc)
  go_ret2
  exact ⟨rfl, FR.out⟩
set_option maxRecDepth 100000 in
theorem pop_ok (a : Aw w p g n f) (c : Ch n H N L f) {h x : Nat} (d : Bool) (hh : h ∈ H) (hm : x ∈ L h) (hx : (dl d (L h)).headD 0 = x) :
    Calls Tryd.prog 16 #[.pointer (some ⟨p, 0, none⟩), .int .i64 h, .bool d] w fun e w' => e = .returned (.tuple #[.int .i64 (x : Nat), .int .i64 0]) ∧
      Aw w' p g n (cutF f h x (nxt (dl true (L h)) x) (nxt (dl false (L h)) x)) ∧ Fg g w w' := by
  have hb := c.lay.hin h hh
  have hxb := c.lay.xin x (c.mem h hh x hm)
  have E1 := Lib.hid (end_at a h x d hb.1 hb.2 (by rw [c.first hh d, hx]))
  have UN : ∀ w, Aw w p g n f → Calls Tryd.prog 36 #[lv p, .int .i64 h, .int .i64 x] w fun e w' => (∃ u, e = .returned u) ∧ Aw w' p g n (cutF f h x (nxt (dl true (L h)) x) (nxt (dl false (L h)) x)) ∧ Fg g w w' := fun w a => unlink_any a c hh hm
  generalize cutF f h x (nxt (dl true (L h)) x) (nxt (dl false (L h)) x) = f' at UN ⊢
  replace UN := Lib.hid UN
  have A0 := Lib.hid a
  have hx0 : ¬ ((x : Nat) : Int) = 0 := by omega
  clear a c hh hm hx
  go_enter Tryd.func16, Tryd.ntmps16
  go_wp2_with (first
    | (go_at_call 21; refine E1.out.mono ?_; rintro e wc ⟨rfl, hbc⟩; have A1 := Lib.hid (A0.out.below hbc); have FR := Lib.hid (Fg.of_below (g := g) hbc (Nat.le_refl _)); clear hbc)
    | (go_at_call 36; (with_reducible refine (UN.out _ A1.out).mono ?_); rintro e wd ⟨⟨u, rfl⟩, hac, hfc⟩; have A2 := Lib.hid hac; have FR := Lib.hid (FR.out.trans hfc); clear hac hfc))
  go_ret2
  exact ⟨rfl, A2.out, FR.out⟩
end
end Go.Proofs.YthklbkgehfgdgaaDoor
