/- The contracts of tree's smallest functions: holds, get, set, child, isRed. Conditions: the table of widths lies in its block; the arena's blocks are known. -/
import Derived.Test.YtiacclmapicmdaaDoorTrTd
namespace Go.Proofs.YtiacclmapicmdaaDoor
open Go.RowKit

section
variable {w : World} {p g n : Nat} {f : Nat → Int}
set_option maxRecDepth 100000 in
theorem tget_ok (a : Aw w p g n f) (k o : Nat) (h1 : 1 ≤ k) (h2 : k + o + 4 ≤ n) :
    Calls Tryd.prog 34 #[lv p, .int .i64 k, .int .i64 o] w fun e w' => e = .returned (.int .i64 (lk f (k + o))) ∧ Below w.heap.size w w' := by
  obtain ⟨l1, l2⟩ := lk_bd a.ar.byte (k + o)
  have hn := a.ar.small
  have hv : IntKind.i64.wrap (lk f (k + o)) = lk f (k + o) := IntWalk.i64_in _ (by omega)
  have hx : IntKind.i64.wrap ((k : Int) + o) = ((k + o : Nat) : Int) := by rw [IntWalk.i64_in _ (by omega)]; omega
  have b1 := below_one w (.cells #[.pointer (some ⟨p, 0, none⟩)] 69)
  have HB := Lib.hid b1
  have HA := Lib.hid (a.below b1)
  have hk0 : ¬ ((k : Nat) : Int) = 0 := by omega
  clear a b1
  go_enter Tryd.func34, Tryd.ntmps34
  go_wp2_with (go_at_call 26; refine (load_ok p g n f (k + o) 4 HA.out.tab HA.out.ar (by decide) h2).mono ?_; rintro e w' ⟨rfl, rfl⟩; rw [show ld f (k + o) 4 = lk f (k + o) from rfl])
  go_ret
  exact ⟨rfl, HB.out⟩
set_option maxRecDepth 100000 in
theorem tget_no (p : Nat) (o : Int) (w : World) :
    Calls Tryd.prog 34 #[lv p, .int .i64 0, .int .i64 o] w fun e w' => e = .returned (.int .i64 0) ∧ Below w.heap.size w w' := by
  have HB := Lib.hid (below_one w (.cells #[.pointer (some ⟨p, 0, none⟩)] 69))
  go_enter Tryd.func34, Tryd.ntmps34
  go_wp2
  go_ret
  exact ⟨rfl, HB.out⟩
set_option maxRecDepth 100000 in
theorem tset_ok (a : Aw w p g n f) (k o v : Nat) (h1 : 1 ≤ k) (h2 : k + o + 4 ≤ n) (hv : v < 4294967296) :
    Calls Tryd.prog 46 #[lv p, .int .i64 k, .int .i64 o, .int .i64 v] w fun e w' => (∃ u, e = .returned u) ∧ Aw w' p g n (st f (k + o) v 4) ∧ Fg g w w' := by
  have hn := a.ar.small
  have hvw : IntKind.u64.wrap ((v : Nat) : Int) = v := by rw [IntKind.wrap_u64]; omega
  have hx : IntKind.i64.wrap ((k : Int) + o) = ((k + o : Nat) : Int) := by rw [IntWalk.i64_in _ (by omega)]; omega
  have b1 := below_one w (.cells #[.pointer (some ⟨p, 0, none⟩)] 69)
  have HB := Lib.hid b1
  have HA := Lib.hid (a.below b1)
  have hk0 : ¬ ((k : Nat) : Int) = 0 := by omega
  clear a b1
  go_enter Tryd.func46, Tryd.ntmps46
  go_wp2_with (go_at_call 27; refine (store_ok p g n f (k + o) 4 v HA.out.tab HA.out.ar (by omega) (by decide) h2).mono ?_; rintro e w' ⟨rfl, hA, hO⟩; replace hA := Lib.hid hA; replace hO := Lib.hid hO)
  go_end0
  exact ⟨⟨_, rfl⟩, HA.out.fg (Fg.of_only hO.out) hA.out, (Fg.of_below HB.out (Nat.le_refl _)).trans (Fg.of_only hO.out)⟩
set_option maxRecDepth 100000 in
theorem tset_no (p : Nat) (o v : Int) (w : World) :
    Calls Tryd.prog 46 #[lv p, .int .i64 0, .int .i64 o, .int .i64 v] w fun e w' => (∃ u, e = .returned u) ∧ Below w.heap.size w w' := by
  have HB := Lib.hid (below_one w (.cells #[.pointer (some ⟨p, 0, none⟩)] 69))
  go_enter Tryd.func46, Tryd.ntmps46
  go_wp2
  go_end0
  exact ⟨⟨_, rfl⟩, HB.out⟩
set_option maxRecDepth 100000 in
theorem tholds (aw : Aw w p g n f) (a size : Int) (hs : 0 ≤ size ∧ size ≤ 65536) :
    Calls Tryd.prog 33 #[lv p, .int .i64 a, .int .i64 size] w fun e w' => e = .returned (.bool (hd n a size)) ∧ Below w.heap.size w w' := by
  have hn := aw.ar.small
  have hvw : IntKind.i64.wrap ((n : Int) - size) = n - size := IntWalk.i64_in _ (by omega)
  have b1 := below_one w (.cells #[.pointer (some ⟨p, 0, none⟩)] 69)
  have HB := Lib.hid b1
  have HA := Lib.hid (aw.below b1)
  clear aw b1
  by_cases h1 : (1 : Int) ≤ a
  · have d1 : decide ((1 : Int) ≤ a) = true := decide_eq_true h1
    have e1 : hd n a size = decide (a ≤ (n : Int) - size) := by unfold hd; rw [d1]; rfl
    rw [e1]
    clear e1
    go_enter Tryd.func33, Tryd.ntmps33
    go_wp2_with (go_at_call 57; refine (len_any _ _ _ _ HA.out.ar.mem).mono ?_; rintro e w' ⟨rfl, rfl⟩)
    go_ret
    exact ⟨rfl, HB.out⟩
  · have d1 : decide ((1 : Int) ≤ a) = false := decide_eq_false h1
    have e1 : hd n a size = false := by unfold hd; rw [d1]; rfl
    rw [e1]
    clear e1 h1
    go_enter Tryd.func33, Tryd.ntmps33
    go_wp2
    go_ret
    exact ⟨rfl, HB.out⟩
theorem Aw.tholds (aw : Aw w p g n f) (a size : Int) (hs : 0 ≤ size ∧ size ≤ 65536) (r : Bool) (hr : hd n a size = r) :
    Calls Tryd.prog 33 #[lv p, .int .i64 a, .int .i64 size] w fun e w' => e = .returned (.bool r) ∧ Below w.heap.size w w' := by
  subst hr
  exact Go.Proofs.YtiacclmapicmdaaDoor.tholds aw a size hs
theorem thd_in {n a size : Nat} (h1 : 1 ≤ a) (h2 : a + size ≤ n) : hd n (a : Int) (size : Int) = true := by
  unfold hd
  have e1 : decide ((1 : Int) ≤ a) = true := decide_eq_true (by omega)
  have e2 : decide ((a : Int) ≤ (n : Int) - (size : Int)) = true := decide_eq_true (by omega)
  rw [e1, e2]
  rfl
end

/-- A function's own box of the links, beside the arena; what turned since w0. -/
structure Vb (w0 w : World) (p g n b : Nat) (f : Nat → Int) : Prop where
  aw : Aw w p g n f
  bl : Blk w b 69 #[.pointer (some ⟨p, 0, none⟩)]
  fr : Fg g w0 w
  ne : b ≠ g
section
variable {w0 w w' : World} {p g n b : Nat} {f f' : Nat → Int}
theorem Vb.below (u : Vb w0 w p g n b f) (h : Below w.heap.size w w') : Vb w0 w' p g n b f := ⟨u.aw.below h, u.bl.below h u.bl.lt, u.fr.trans (Fg.of_below h (Nat.le_refl _)), u.ne⟩
theorem Vb.fg (u : Vb w0 w p g n b f) (h : Fg g w w') (h' : Aw w' p g n f') : Vb w0 w' p g n b f' := ⟨h', u.bl.fg h u.ne, u.fr.trans h, u.ne⟩
theorem Vb.cell (u : Vb w0 w p g n b f) : w.cell? ⟨b, 0, none⟩ = some (.pointer (some ⟨p, 0, none⟩)) := u.bl.cell 0
theorem Vb.new (a : Aw w p g n f) : Vb w (w.alloc (.cells #[.pointer (some ⟨p, 0, none⟩)] 69)) p g n w.heap.size f :=
  ⟨a.below (below_one w _), Blk.new _ _ _, Fg.of_below (below_one w _) (Nat.le_refl _), by have := a.gb; omega⟩
end
/-- A leaf's number at a place: none's are 0. -/
def tgv (f : Nat → Int) (k o : Nat) : Int := if k = 0 then 0 else lk f (k + o)
def ko (d : Bool) : Nat := if d then 4 else 0
section
variable {w : World} {p g n : Nat} {f : Nat → Int}
theorem tget (a : Aw w p g n f) (k o : Nat) (hk : k = 0 ∨ k + o + 4 ≤ n) :
    Calls Tryd.prog 34 #[lv p, .int .i64 k, .int .i64 o] w fun e w' => e = .returned (.int .i64 (tgv f k o)) ∧ Below w.heap.size w w' := by
  unfold tgv
  by_cases h : k = 0
  · subst h; rw [if_pos rfl]; exact tget_no p o w
  · rw [if_neg h]; exact tget_ok a k o (by omega) (hk.resolve_left h)
theorem tgeti (a : Aw w p g n f) (k : Nat) (oi : Int) (o : Nat) (ho : oi = o) (hk : k = 0 ∨ k + o + 4 ≤ n) :
    Calls Tryd.prog 34 #[lv p, .int .i64 k, .int .i64 oi] w fun e w' => e = .returned (.int .i64 (tgv f k o)) ∧ Below w.heap.size w w' := by
  subst ho
  exact tget a k o hk
set_option maxRecDepth 100000 in
theorem tchild (a : Aw w p g n f) (k : Nat) (d : Bool) (hk : k = 0 ∨ k + 24 ≤ n) :
    Calls Tryd.prog 53 #[lv p, .int .i64 k, .bool d] w fun e w' => e = .returned (.int .i64 (tgv f k (ko d))) ∧ Below w.heap.size w w' := by
  obtain ⟨w1, hw1⟩ : ∃ w1, w1 = w.alloc (.cells #[.pointer (some ⟨p, 0, none⟩)] 69) := ⟨_, rfl⟩
  obtain ⟨b, hbe⟩ : ∃ b, b = w.heap.size := ⟨_, rfl⟩
  have UC : Hid (Vb w w1 p g n b f) := Lib.hid (by rw [hw1, hbe]; exact Vb.new a)
  have FR : Hid (Below w.heap.size w w1) := Lib.hid (by rw [hw1]; exact below_one w _)
  have HW := Lib.hid hw1
  have HBE := Lib.hid hbe
  have HK := Lib.hid hk
  clear hw1 hbe a hk
  cases d
  · go_enter Tryd.func53, Tryd.ntmps53
    go_wp2_with fail
    rw [← HBE.out, ← HW.out]
    have c1 := UC.out.cell
    go_wp2_with (go_at_call 34; (with_reducible refine (tgeti UC.out.aw k 0 0 rfl (by have := HK.out; omega)).mono ?_); rintro e wc ⟨rfl, hbc⟩; have FR := Lib.hid (FR.out.trans (hbc.mono FR.out.size)); clear hbc)
    go_ret
    exact ⟨rfl, FR.out⟩
  · go_enter Tryd.func53, Tryd.ntmps53
    go_wp2_with fail
    rw [← HBE.out, ← HW.out]
    have c1 := UC.out.cell
    go_wp2_with (go_at_call 34; (with_reducible refine (tgeti UC.out.aw k 4 4 rfl (by have := HK.out; omega)).mono ?_); rintro e wc ⟨rfl, hbc⟩; have FR := Lib.hid (FR.out.trans (hbc.mono FR.out.size)); clear hbc)
    go_ret
    exact ⟨rfl, FR.out⟩
set_option maxRecDepth 100000 in
theorem tred (a : Aw w p g n f) (k : Nat) (r : Bool) (hk : k = 0 ∨ k + 24 ≤ n) (hr : tgv f k 16 = if r then 1 else 0) :
    Calls Tryd.prog 54 #[lv p, .int .i64 k] w fun e w' => e = .returned (.bool r) ∧ Below w.heap.size w w' := by
  obtain ⟨w1, hw1⟩ : ∃ w1, w1 = w.alloc (.cells #[.pointer (some ⟨p, 0, none⟩)] 69) := ⟨_, rfl⟩
  obtain ⟨b, hbe⟩ : ∃ b, b = w.heap.size := ⟨_, rfl⟩
  have UC : Hid (Vb w w1 p g n b f) := Lib.hid (by rw [hw1, hbe]; exact Vb.new a)
  have FR : Hid (Below w.heap.size w w1) := Lib.hid (by rw [hw1]; exact below_one w _)
  have HW := Lib.hid hw1
  have HBE := Lib.hid hbe
  have HK := Lib.hid hk
  have HR := Lib.hid hr
  clear hw1 hbe a hk hr
  cases r
  · go_enter Tryd.func54, Tryd.ntmps54
    go_wp2_with fail
    rw [← HBE.out, ← HW.out]
    have c1 := UC.out.cell
    go_wp2_with (go_at_call 34; (with_reducible refine (tgeti UC.out.aw k 16 16 rfl (by have := HK.out; omega)).mono ?_); rintro e wc ⟨rfl, hbc⟩; rw [HR.out]; have FR := Lib.hid (FR.out.trans (hbc.mono FR.out.size)); clear hbc)
    go_ret
    exact ⟨rfl, FR.out⟩
  · go_enter Tryd.func54, Tryd.ntmps54
    go_wp2_with fail
    rw [← HBE.out, ← HW.out]
    have c1 := UC.out.cell
    go_wp2_with (go_at_call 34; (with_reducible refine (tgeti UC.out.aw k 16 16 rfl (by have := HK.out; omega)).mono ?_); rintro e wc ⟨rfl, hbc⟩; rw [HR.out]; have FR := Lib.hid (FR.out.trans (hbc.mono FR.out.size)); clear hbc)
    go_ret
    exact ⟨rfl, FR.out⟩
end
end Go.Proofs.YtiacclmapicmdaaDoor
