/- The contracts of chain's Push. Conditions: the table of widths lies in its block; the arena's blocks are known; where it answers no ErrRange, its bytes are lists' links. -/
import Derived.Test.YthklbkgehfgdgaaDoorChUnlink
namespace Go.Proofs.YthklbkgehfgdgaaDoor
open Go.RowKit

section
variable {w : World} {p g n : Nat} {H : List Nat} {N : Nat → Prop} {L : Nat → List Nat} {f : Nat → Int}
theorem Aw.holds (a : Aw w p g n f) (at_ size : Int) (hs : 0 ≤ size ∧ size ≤ 65536) (r : Bool) (hr : hd n at_ size = r) :
    Calls Tryd.prog 28 #[lv p, .int .i64 at_, .int .i64 size] w fun e w' => e = .returned (.bool r) ∧ Below w.heap.size w w' := by
  subst hr
  exact holds_any at_ size a.ar hs
theorem hd_in {n a size : Nat} (h1 : 1 ≤ a) (h2 : a + size ≤ n) : hd n (a : Int) (size : Int) = true := by
  unfold hd
  have e1 : decide ((1 : Int) ≤ a) = true := decide_eq_true (by omega)
  have e2 : decide ((a : Int) ≤ (n : Int) - (size : Int)) = true := decide_eq_true (by omega)
  rw [e1, e2]
  rfl
theorem Lay.hdH (l : Lay n H N) {h : Nat} (hh : h ∈ H) : hd n (h : Int) 8 = true := hd_in (size := 8) (l.hin h hh).1 (l.hin h hh).2
theorem Lay.hdX (l : Lay n H N) {x : Nat} (hx : N x) : hd n (x : Int) 16 = true := hd_in (size := 16) (l.xin x hx).1 (l.xin x hx).2
set_option maxRecDepth 100000 in
theorem push_far (a : Aw w p g n f) (h x : Int) (d : Bool) (hf : hd n h 8 = false ∨ hd n x 16 = false) :
    Calls Tryd.prog 14 #[.pointer (some ⟨p, 0, none⟩), .int .i64 h, .int .i64 x, .bool d] w fun e w' => e = .returned (.int .i64 4) ∧ Below w.heap.size w w' := by
  obtain ⟨w1, hw1⟩ : ∃ w1, w1 = w.alloc (.cells #[.pointer (some ⟨p, 0, none⟩)] 60) := ⟨_, rfl⟩
  obtain ⟨b, hbe⟩ : ∃ b, b = w.heap.size := ⟨_, rfl⟩
  have UC : Hid (Ub w w1 p g n b f) := Lib.hid (by rw [hw1, hbe]; exact Ub.new a)
  have FR : Hid (Below w.heap.size w w1) := Lib.hid (by rw [hw1]; exact below_one w _)
  have hsz : Hid (w.heap.size ≤ w1.heap.size) := Lib.hid FR.out.size
  have HW := Lib.hid hw1
  have HBE := Lib.hid hbe
  clear hw1 hbe
  cases h1 : hd n h 8 with
  | false =>
    have H1 := Lib.hid h1
    clear a hf h1
    go_enter Tryd.func14, Tryd.ntmps14
    go_wp2_with fail
    rw [← HBE.out, ← HW.out]
    have c1 := UC.out.cell
    go_wp2_with (go_at_call 28; (with_reducible refine (UC.out.aw.holds h 8 (by omega) false H1.out).mono ?_); rintro e wc ⟨rfl, hbc⟩; have FR := Lib.hid (FR.out.trans (hbc.mono FR.out.size)); have UC := Lib.hid (UC.out.below hbc); try clear c1; have c1 := UC.out.cell; clear hbc)
    go_ret
    exact ⟨rfl, FR.out⟩
  | true =>
    have H1 := Lib.hid h1
    have H2 := Lib.hid (hf.resolve_left (by rw [h1]; simp))
    clear a hf h1
    go_enter Tryd.func14, Tryd.ntmps14
    go_wp2_with fail
    rw [← HBE.out, ← HW.out]
    have c1 := UC.out.cell
    go_wp2_with (first | (go_at_call 28; (with_reducible refine (UC.out.aw.holds h 8 (by omega) true H1.out).mono ?_); rintro e wc ⟨rfl, hbc⟩; have FR := Lib.hid (FR.out.trans (hbc.mono FR.out.size)); have UC := Lib.hid (UC.out.below hbc); try clear c1; have c1 := UC.out.cell; clear hbc) | (go_at_call 28; (with_reducible refine (UC.out.aw.holds x 16 (by omega) false H2.out).mono ?_); rintro e wc ⟨rfl, hbc⟩; have FR := Lib.hid (FR.out.trans (hbc.mono FR.out.size)); have UC := Lib.hid (UC.out.below hbc); try clear c1; have c1 := UC.out.cell; clear hbc))
    go_ret
    exact ⟨rfl, FR.out⟩
set_option maxRecDepth 100000 in
theorem push_in (a : Aw w p g n f) (l : Lay n H N) {h x k : Nat} (d : Bool) (hh : h ∈ H) (hx : N x) (ho : lk f (x + 8) = (k : Nat)) (hk : k ≠ 0) :
    Calls Tryd.prog 14 #[.pointer (some ⟨p, 0, none⟩), .int .i64 h, .int .i64 x, .bool d] w fun e w' => e = .returned (.int .i64 8) ∧ Below w.heap.size w w' := by
  have hxb := l.xin x hx
  have hn := a.ar.small
  have H1 := Lib.hid (l.hdH hh)
  have H2 := Lib.hid (l.hdX hx)
  have K1 : ∀ w, Aw w p g n f → Calls Tryd.prog 29 #[lv p, .int .i64 ((x : Int) + 8)] w fun e w' => e = .returned (.int .i64 (k : Nat)) ∧ Below w.heap.size w w' := fun w a => by
    have := a.link (x + 8) (by omega)
    rwa [ho] at this
  have hki : ¬ ((k : Nat) : Int) = 0 := by omega
  replace K1 := Lib.hid K1
  obtain ⟨w1, hw1⟩ : ∃ w1, w1 = w.alloc (.cells #[.pointer (some ⟨p, 0, none⟩)] 60) := ⟨_, rfl⟩
  obtain ⟨b, hbe⟩ : ∃ b, b = w.heap.size := ⟨_, rfl⟩
  have UC : Hid (Ub w w1 p g n b f) := Lib.hid (by rw [hw1, hbe]; exact Ub.new a)
  have FR : Hid (Below w.heap.size w w1) := Lib.hid (by rw [hw1]; exact below_one w _)
  have hsz : Hid (w.heap.size ≤ w1.heap.size) := Lib.hid FR.out.size
  have HW := Lib.hid hw1
  have HBE := Lib.hid hbe
  clear hw1 hbe
  clear a l hh hx ho hk
  go_enter Tryd.func14, Tryd.ntmps14
  go_wp2_with fail
  rw [← HBE.out, ← HW.out]
  have c1 := UC.out.cell
  go_wp2_with (first
      | (go_at_call 28; (with_reducible refine (UC.out.aw.holds h 8 (by omega) true H1.out).mono ?_); rintro e wc ⟨rfl, hbc⟩; have FR := Lib.hid (FR.out.trans (hbc.mono FR.out.size)); have UC := Lib.hid (UC.out.below hbc); try clear c1; have c1 := UC.out.cell; clear hbc)
      | (go_at_call 28; (with_reducible refine (UC.out.aw.holds x 16 (by omega) true H2.out).mono ?_); rintro e wc ⟨rfl, hbc⟩; have FR := Lib.hid (FR.out.trans (hbc.mono FR.out.size)); have UC := Lib.hid (UC.out.below hbc); try clear c1; have c1 := UC.out.cell; clear hbc)
      | (go_at_call 29; (with_reducible refine (K1.out _ UC.out.aw).mono ?_); rintro e wc ⟨rfl, hbc⟩; have FR := Lib.hid (FR.out.trans (hbc.mono FR.out.size)); have UC := Lib.hid (UC.out.below hbc); try clear c1; have c1 := UC.out.cell; clear hbc))
  go_ret
  exact ⟨rfl, FR.out⟩
set_option maxRecDepth 100000 in
set_option maxHeartbeats 4000000 in
theorem push_ok (a : Aw w p g n f) (c : Ch n H N L f) {h x : Nat} (d : Bool) (hh : h ∈ H) (hx : N x) (hfree : ∀ k, k ∈ H → x ∉ L k) :
    Calls Tryd.prog 14 #[.pointer (some ⟨p, 0, none⟩), .int .i64 h, .int .i64 x, .bool d] w fun e w' => e = .returned (.int .i64 0) ∧
      Aw w' p g n (pushF f h x d ((dl d (L h)).headD 0)) ∧ Fg g w w' := by
  have hxb := c.lay.xin x hx
  have hhb := c.lay.hin h hh
  have hn := c.big
  have H1 := Lib.hid (c.lay.hdH hh)
  have H2 := Lib.hid (c.lay.hdX hx)
  have e1 := c.first hh d
  have e2 := (c.free x hx hfree).2
  have m1 : (dl d (L h)).headD 0 = 0 ∨ (dl d (L h)).headD 0 ∈ L h := by
    rcases e : dl d (L h) with _ | ⟨y, ys⟩
    · exact .inl rfl
    · refine .inr (dl_mem (d := d) |>.1 ?_)
      rw [e]
      simp
  generalize (dl d (L h)).headD 0 = nb at e1 m1 ⊢
  have b1 := c.oh_bd hh m1
  have v1 := c.val_bd hh m1
  obtain ⟨q, hq⟩ : ∃ q, q = oh nb h := ⟨_, rfl⟩
  rw [← hq] at b1
  have O1 : ∀ w, Calls Tryd.prog 32 #[.int .i64 nb, .int .i64 h] w fun e w' => e = .returned (.int .i64 (q : Nat)) ∧ w = w' := fun w => by rw [hq]; exact orHead_any nb h w
  have EC : pushF f h x d nb = st (st (st (st f (x + off d) nb 4) (x + 8) h 4) (h + off d) x 4) (q + off (!d)) x 4 := by rw [hq]; rfl
  rw [EC]
  have od := off_bd d
  have od' := off_bd (!d)
  obtain ⟨o1, ho1⟩ : ∃ o1, o1 = off d := ⟨_, rfl⟩
  obtain ⟨o2, ho2⟩ : ∃ o2, o2 = off (!d) := ⟨_, rfl⟩
  have SD : ∀ w, Calls Tryd.prog 30 #[.bool d] w fun e w' => e = .returned (.tuple #[.int .i64 (o1 : Nat), .int .i64 (o2 : Nat)]) ∧ w = w' := fun w => by rw [ho1, ho2]; exact sides_any d w
  rw [← ho1, ← ho2]
  rw [← ho1] at e1 od
  rw [← ho2] at od'
  have K1 : ∀ w, Aw w p g n f → Calls Tryd.prog 29 #[lv p, .int .i64 ((x : Int) + 8)] w fun e w' => e = .returned (.int .i64 0) ∧ Below w.heap.size w w' := fun w a => by
    have := a.link (x + 8) (by omega)
    rwa [e2] at this
  have K2 : ∀ w, Aw w p g n f → Calls Tryd.prog 29 #[lv p, .int .i64 ((h : Int) + o1)] w fun e w' => e = .returned (.int .i64 (nb : Nat)) ∧ Below w.heap.size w w' := fun w a => by
    have := a.link (h + o1) (by omega)
    rwa [e1] at this
  have S1 : ∀ w, Aw w p g n f → Calls Tryd.prog 31 #[lv p, .int .i64 ((x : Int) + o1), .int .i64 (nb : Int)] w fun e w' => (∃ u, e = .returned u) ∧ Aw w' p g n (st f (x + o1) nb 4) ∧ Fg g w w' := fun w a => a.set (x + o1) nb (by omega) (by omega)
  generalize st f (x + o1) nb 4 = f1 at S1 ⊢
  have S2 : ∀ w, Aw w p g n f1 → Calls Tryd.prog 31 #[lv p, .int .i64 ((x : Int) + 8), .int .i64 (h : Int)] w fun e w' => (∃ u, e = .returned u) ∧ Aw w' p g n (st f1 (x + 8) h 4) ∧ Fg g w w' := fun w a => a.set (x + 8) h (by omega) (by omega)
  generalize st f1 (x + 8) h 4 = f2 at S2 ⊢
  have S3 : ∀ w, Aw w p g n f2 → Calls Tryd.prog 31 #[lv p, .int .i64 ((h : Int) + o1), .int .i64 (x : Int)] w fun e w' => (∃ u, e = .returned u) ∧ Aw w' p g n (st f2 (h + o1) x 4) ∧ Fg g w w' := fun w a => a.set (h + o1) x (by omega) (by omega)
  generalize st f2 (h + o1) x 4 = f3 at S3 ⊢
  have S4 : ∀ w, Aw w p g n f3 → Calls Tryd.prog 31 #[lv p, .int .i64 ((q : Int) + o2), .int .i64 (x : Int)] w fun e w' => (∃ u, e = .returned u) ∧ Aw w' p g n (st f3 (q + o2) x 4) ∧ Fg g w w' := fun w a => a.set (q + o2) x (by omega) (by omega)
  generalize st f3 (q + o2) x 4 = f4 at S4 ⊢
  obtain ⟨w1, hw1⟩ : ∃ w1, w1 = w.alloc (.cells #[.pointer (some ⟨p, 0, none⟩)] 60) := ⟨_, rfl⟩
  obtain ⟨b, hbe⟩ : ∃ b, b = w.heap.size := ⟨_, rfl⟩
  have UC : Hid (Ub w w1 p g n b f) := Lib.hid (by rw [hw1, hbe]; exact Ub.new a)
  have FR : Hid (Below w.heap.size w w1) := Lib.hid (by rw [hw1]; exact below_one w _)
  have hsz : Hid (w.heap.size ≤ w1.heap.size) := Lib.hid FR.out.size
  have HW := Lib.hid hw1
  have HBE := Lib.hid hbe
  clear hw1 hbe
  replace O1 := Lib.hid O1
  replace SD := Lib.hid SD
  replace K1 := Lib.hid K1
  replace K2 := Lib.hid K2
  replace S1 := Lib.hid S1
  replace S2 := Lib.hid S2
  replace S3 := Lib.hid S3
  replace S4 := Lib.hid S4
  have x1 : IntKind.i64.wrap ((h : Int) + o1) = h + o1 := IntWalk.i64_in _ (by omega)
  have x2 : IntKind.i64.wrap ((x : Int) + o1) = x + o1 := IntWalk.i64_in _ (by omega)
  have x3 : IntKind.i64.wrap ((q : Int) + o2) = q + o2 := IntWalk.i64_in _ (by omega)
  clear e1 e2 m1 hq a c hh hx hfree EC od od' ho1 ho2
  go_enter Tryd.func14, Tryd.ntmps14
  go_wp2_with fail
  rw [← HBE.out, ← HW.out]
  have c1 := UC.out.cell
  go_wp2_with (first
      | (go_at_call 28; (with_reducible refine (UC.out.aw.holds h 8 (by omega) true H1.out).mono ?_); rintro e wc ⟨rfl, hbc⟩; have FR := Lib.hid (FR.out.trans (hbc.mono FR.out.size)); have UC := Lib.hid (UC.out.below hbc); try clear c1; have c1 := UC.out.cell; clear hbc)
      | (go_at_call 28; (with_reducible refine (UC.out.aw.holds x 16 (by omega) true H2.out).mono ?_); rintro e wc ⟨rfl, hbc⟩; have FR := Lib.hid (FR.out.trans (hbc.mono FR.out.size)); have UC := Lib.hid (UC.out.below hbc); try clear c1; have c1 := UC.out.cell; clear hbc)
      | (go_at_call 29; (with_reducible refine (K1.out _ UC.out.aw).mono ?_); rintro e wc ⟨rfl, hbc⟩; have FR := Lib.hid (FR.out.trans (hbc.mono FR.out.size)); have UC := Lib.hid (UC.out.below hbc); try clear c1; have c1 := UC.out.cell; clear hbc)
      | (go_at_call 30; (with_reducible refine (SD.out _).mono ?_); rintro e wc ⟨rfl, rfl⟩)
      | (go_at_call 29; (with_reducible refine (K2.out _ UC.out.aw).mono ?_); rintro e wc ⟨rfl, hbc⟩; have FR := Lib.hid (FR.out.trans (hbc.mono FR.out.size)); have UC := Lib.hid (UC.out.below hbc); try clear c1; have c1 := UC.out.cell; clear hbc)
      | (go_at_call 31; (with_reducible refine (S1.out _ UC.out.aw).mono ?_); rintro e wc ⟨⟨u, rfl⟩, hac, hfc⟩; have UC := Lib.hid (UC.out.fg hfc hac); try clear c1; have c1 := UC.out.cell; clear hac hfc)
      | (go_at_call 31; (with_reducible refine (S2.out _ UC.out.aw).mono ?_); rintro e wc ⟨⟨u, rfl⟩, hac, hfc⟩; have UC := Lib.hid (UC.out.fg hfc hac); try clear c1; have c1 := UC.out.cell; clear hac hfc)
      | (go_at_call 31; (with_reducible refine (S3.out _ UC.out.aw).mono ?_); rintro e wc ⟨⟨u, rfl⟩, hac, hfc⟩; have UC := Lib.hid (UC.out.fg hfc hac); try clear c1; have c1 := UC.out.cell; clear hac hfc))
  have UC := Lib.hid UC.out.drew
  have C1 := Lib.hid c1
  have A1 := Lib.hid UC.out.aw
  go_region_held3 (fun w' => w'.cell? ⟨b, 0, none⟩ = some (.pointer (some ⟨p, 0, none⟩))) (first | go_keep | with_reducible exact C1.out) (first
      | (go_at_call 32; (with_reducible refine (O1.out _).mono ?_); rintro e wb ⟨rfl, rfl⟩)
      | (go_at_call 31; (with_reducible refine (S4.out _ A1.out).mono ?_); rintro e wb ⟨⟨u, rfl⟩, hAb, hFb⟩; have UC := Lib.hid (UC.out.fg hFb hAb); have C1 := Lib.hid UC.out.cell; have A1 := Lib.hid UC.out.aw; replace hAb := Lib.hid hAb; replace hFb := Lib.hid hFb))
  all_goals
    go_wp2
    go_ret
    exact ⟨rfl, UC.out.aw, UC.out.fr⟩
end
end Go.Proofs.YthklbkgehfgdgaaDoor
