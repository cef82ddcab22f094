/- The contract of chain's All. Conditions: the table of widths lies in its block; the arena's blocks are known; its bytes are lists' links. -/
import Derived.Test.YthklbkgehfgdgaaDoorChReads
import Derived.Test.YthklbkgehfgdgaaDoorInts
import Derived.Deep.LoopGhost
namespace Go.Proofs.YthklbkgehfgdgaaDoor
open Go.RowKit

section
variable {w : World} {p g n : Nat} {H : List Nat} {N : Nat → Prop} {L : Nat → List Nat} {f : Nat → Int}
set_option maxRecDepth 100000 in
theorem all_far (a : Aw w p g n f) (h : Int) (hf : hd n h 8 = false) :
    Calls Tryd.prog 25 #[.pointer (some ⟨p, 0, none⟩), .int .i64 h] w fun e w' => e = .returned (.tuple #[.slice none 0 0, .int .i64 4]) ∧ Below w.heap.size w w' := by
  have H1 := Lib.hid hf
  obtain ⟨w1, hw1⟩ : ∃ w1, w1 = w.alloc (.cells #[.pointer (some ⟨p, 0, none⟩)] 60) := ⟨_, rfl⟩
  obtain ⟨b, hbe⟩ : ∃ b, b = w.heap.size := ⟨_, rfl⟩
  have UC : Hid (Ub w w1 p g n b f) := Lib.hid (by rw [hw1, hbe]; exact Ub.new a)
  have FR : Hid (Below w.heap.size w w1) := Lib.hid (by rw [hw1]; exact below_one w _)
  have HW := Lib.hid hw1
  have HBE := Lib.hid hbe
  clear hw1 hbe
  clear a hf
  go_enter Tryd.func25, Tryd.ntmps25
  go_wp2_with fail
  rw [← HBE.out, ← HW.out]
  have c1 := UC.out.cell
  go_wp2_with (go_at_call 28; (with_reducible refine (UC.out.aw.holds h 8 (by omega) false H1.out).mono ?_); rintro e wc ⟨rfl, hbc⟩; have FR := Lib.hid (FR.out.trans (hbc.mono FR.out.size)); have UC := Lib.hid (UC.out.below hbc); try clear c1; have c1 := UC.out.cell; clear hbc)
  go_ret2
  exact ⟨rfl, FR.out⟩
theorem take_snoc {l : List Nat} {k y : Nat} (h : l[k]? = some y) : l.take (k + 1) = l.take k ++ [y] := by
  obtain ⟨hk, e⟩ := List.getElem?_eq_some_iff.1 h
  rw [List.take_add_one, h]
  rfl
set_option maxRecDepth 100000 in
set_option maxHeartbeats 4000000 in
theorem all_ok (a : Aw w p g n f) (c : Ch n H N L f) {h : Nat} (hh : h ∈ H) (hlen : (L h).length ≤ 10000) :
    Calls Tryd.prog 25 #[.pointer (some ⟨p, 0, none⟩), .int .i64 h] w fun e w' => ∃ A cap, e = .returned (.tuple #[.slice A (L h).length cap, .int .i64 0]) ∧
      Rx w' w.heap.size A cap (L h) ∧ Below w.heap.size w w' := by
  have hb := c.lay.hin h hh
  have hn := a.ar.small
  have H1 := Lib.hid (c.lay.hdH hh)
  have e1 := c.first hh true
  have hring : ∀ k y : Nat, (L h)[k]? = some y → (1 ≤ y ∧ y + 16 ≤ n) ∧ lk f y = (((L h)[k + 1]?).getD 0 : Nat) := fun k y hy => by
    have hm := List.mem_of_getElem? hy
    refine ⟨c.lay.xin y (c.mem h hh y hm), ?_⟩
    have := c.next hh true hm
    rw [show dl true (L h) = L h from rfl, nxt_at (c.nod h hh) hy] at this
    exact this
  rw [show dl true (L h) = L h from rfl, head_at] at e1
  obtain ⟨l, hl⟩ : ∃ l, l = L h := ⟨_, rfl⟩
  rw [← hl] at hlen e1 hring ⊢
  have K1 : ∀ w, Aw w p g n f → Calls Tryd.prog 29 #[lv p, .int .i64 ((h : Int))] w fun e w' => e = .returned (.int .i64 (((l[0]?).getD 0 : Nat))) ∧ Below w.heap.size w w' := fun w a => by
    have := a.link (h) (by omega)
    rwa [show lk f h = _ from e1] at this
  replace K1 := Lib.hid K1
  have K2 : ∀ k y : Nat, l[k]? = some y → ∀ w, Aw w p g n f → Calls Tryd.prog 29 #[lv p, .int .i64 (y : Int)] w fun e w' => e = .returned (.int .i64 (((l[k + 1]?).getD 0 : Nat) : Int)) ∧ Below w.heap.size w w' := fun k y hy w a => by
    have := a.link y (by have := (hring k y hy).1; omega)
    rwa [(hring k y hy).2] at this
  have KB : ∀ k y : Nat, l[k]? = some y → 1 ≤ y ∧ y ≤ 65536 := fun k y hy => by have := (hring k y hy).1; omega
  replace K2 := Lib.hid K2
  replace KB := Lib.hid KB
  obtain ⟨w1, hw1⟩ : ∃ w1, w1 = w.alloc (.cells #[.pointer (some ⟨p, 0, none⟩)] 60) := ⟨_, rfl⟩
  obtain ⟨b, hbe⟩ : ∃ b, b = w.heap.size := ⟨_, rfl⟩
  have UC : Hid (Ub w w1 p g n b f) := Lib.hid (by rw [hw1, hbe]; exact Ub.new a)
  have FR : Hid (Below w.heap.size w w1) := Lib.hid (by rw [hw1]; exact below_one w _)
  have HW := Lib.hid hw1
  have HBE := Lib.hid hbe
  clear hw1 hbe
  have hgw : Hid (g < w1.heap.size) := Lib.hid UC.out.aw.gb
  have hws : Hid (w1.heap.size = w.heap.size + 1) := Lib.hid (by rw [HW.out]; exact World.size_alloc _ _)
  clear a c hh hl e1 hring
  go_enter Tryd.func25, Tryd.ntmps25
  go_wp2_with fail
  rw [← HBE.out, ← HW.out]
  have c1 := UC.out.cell
  go_wp2_with (first
    | (go_at_call 28; (with_reducible refine (UC.out.aw.holds h 8 (by omega) true H1.out).mono ?_); rintro e wc ⟨rfl, hbc⟩; have FR := Lib.hid (FR.out.trans (hbc.mono FR.out.size)); have UC := Lib.hid (UC.out.below hbc); try clear c1; have c1 := UC.out.cell; clear hbc)
    | (go_at_call 29; (with_reducible refine (K1.out _ UC.out.aw).mono ?_); rintro e wc ⟨rfl, hbc⟩; have FR := Lib.hid (FR.out.trans (hbc.mono FR.out.size)); have UC := Lib.hid (UC.out.below hbc); try clear c1; have c1 := UC.out.cell; clear hbc))
  have U0 := Lib.hid UC.out
  have F0 := Lib.hid FR.out
  have hs0 : Hid (b < wc.heap.size) := Lib.hid UC.out.bl.lt
  clear c1
  go_loopg [7, 8] l.length (fun gk v7 v8 wr => ∃ (k : Nat) (A : Option Addr) (cap : Nat), k + gk = l.length ∧ v8 = .int .i64 (((l[k]?).getD 0 : Nat) : Int) ∧ v7 = .slice A k cap ∧ Hid (Rx wr wc.heap.size A cap (l.take k)) ∧ Hid (Ub w wr p g n b f) ∧ Hid (Below w.heap.size w wr) ∧ Hid (wc.heap.size ≤ wr.heap.size))
  case atStart => exact ⟨0, none, 0, by omega, rfl, rfl, Lib.hid (Rx.nil _ _), U0, F0, Lib.hid (Nat.le_refl _)⟩
  case round =>
    obtain ⟨k, A, cap, hkg, rfl, rfl, hR, hU, hB, hS⟩ := hrel
    cases gk with
    | zero =>
      obtain rfl : k = l.length := by omega
      have he : (l[l.length]?).getD 0 = 0 := by simp
      rw [he]
      have RR : Hid (Rx wr wc.heap.size A cap l) := Lib.hid (by have := hR.out; rwa [List.take_length] at this)
      clear he hR
      go_wp2
      go_ret2
      exact ⟨A, cap, rfl, RR.out.less F0.out.size, hB.out⟩
    | succ gk =>
      have hk : k < l.length := by omega
      obtain ⟨y, hy⟩ : ∃ y, l[k]? = some y := ⟨_, List.getElem?_eq_getElem hk⟩
      have hyb := KB.out k y hy
      have KY := Lib.hid (K2.out k y hy)
      have TS := Lib.hid (take_snoc hy)
      have hle : (l.take k).length = k := by rw [List.length_take]; omega
      have he : (l[k]?).getD 0 = y := by rw [hy]; rfl
      rw [he]
      have hy0 : ¬ ((y : Nat) : Int) = 0 := by omega
      have hk1 : ¬ ((k : Nat) : Int) = 10000 := by omega
      obtain ⟨z, hz⟩ : ∃ z, z = (l[k + 1]?).getD 0 := ⟨_, rfl⟩
      rw [← hz] at KY
      have HZ := Lib.hid hz
      have HLE := Lib.hid hle
      have hwr : Hid (Sx (wr.alloc (.cells #[.int .i64 (y : Nat)] 3)) ⟨0, wr.heap.size + 1⟩ (some ⟨wr.heap.size, 0, none⟩) [y]) := Lib.hid (fun j x hx => by
        obtain ⟨b', o', h1, h2, h3, h4⟩ := sx_one wr ⟨0, b⟩ y ⟨Nat.zero_le _, by have := hs0.out; have := hS.out; show b < wr.heap.size; omega⟩ j x hx
        exact ⟨b', o', h1, ⟨Nat.zero_le _, by cases h1; show wr.heap.size ≠ wr.heap.size + 1; omega⟩, h3, h4⟩)
      have RA : Hid ((wr.alloc (.cells #[.int .i64 (y : Nat)] 3)).ownsRow wc.heap.size 3 1 (.slice A k cap) k (intx (l.take k))) := Lib.hid (by have := World.ownsRow.alloc hR.out.row (.cells #[.int .i64 (y : Nat)] 3); rwa [hle] at this)
      clear hy he hz hle hR
      go_wp2_with (at_builtin; refine wpList_xapp rfl (.tmp 28) (.tmp 30) rfl wc.heap.size ⟨0, wr.heap.size + 1⟩ k 1 1 _ (l.take k) [y] (some ⟨wr.heap.size, 0, none⟩) rfl RA.out rfl hwr.out rfl (by simp) (by omega) (by have := hS.out; simp; omega) ?_)
      intro v' w5 hown hgrow
      rw [← TS.out] at hown
      have hbl : Below wr.heap.size wr w5 ∨ True := .inr trivial
      have hg5 : Below wc.heap.size (wr.alloc (.cells #[.int .i64 (y : Nat)] 3)) w5 := below_grown hgrow (by have := hS.out; simp; omega) (fun r hr => (World.ownsRow.lt RA.out r hr).1)
      have U1 := hU.out.below (below_one wr (.cells #[.int .i64 (y : Nat)] 3))
      have hlt : b < wc.heap.size ∧ g < wc.heap.size ∧ p < wc.heap.size := ⟨hs0.out, U0.out.aw.gb, U0.out.aw.ar.head.lt⟩
      have w0lt : 0 < wc.heap.size := U0.out.aw.w0
      have U5 : Hid (Ub w w5 p g n b f) := Lib.hid ⟨⟨U1.aw.tab.below hg5 w0lt, U1.aw.wg, U1.aw.ar.below hg5 hlt.2.2 hlt.2.1⟩, U1.bl.below hg5 hlt.1,
        ⟨hg5.os.trans U1.fr.os, hg5.tape.trans U1.fr.tape, hg5.output.trans U1.fr.output, Nat.le_trans U1.fr.size hg5.size, fun i hi hne => (hg5.block i (Nat.lt_of_lt_of_le hi F0.out.size)).trans (U1.fr.block i hi hne)⟩, U1.ne⟩
      have B5 : Hid (Below w.heap.size w w5) := Lib.hid ((hB.out.trans ((below_one wr (.cells #[.int .i64 (y : Nat)] 3)).mono hB.out.size)).trans (hg5.mono F0.out.size))
      have S5 : Hid (wc.heap.size ≤ w5.heap.size) := Lib.hid (Nat.le_trans hS.out (Nat.le_trans (by simp) hg5.size))
      obtain ⟨A5, cap5, rfl, hl5, hR5⟩ := Rx.of hown
      have R5 := Lib.hid hR5
      have HL5 := Lib.hid hl5
      rw [← hl5]
      have c1 := U5.out.cell
      clear hown hgrow hg5 U1 w0lt hlt hl5 hR5 hbl RA hwr
      go_wp2_with (go_at_call 29; (with_reducible refine (KY.out _ U5.out.aw).mono ?_); rintro e w6 ⟨rfl, hbc⟩; have U6 := Lib.hid (U5.out.below hbc); have B6 := Lib.hid (B5.out.trans (hbc.mono B5.out.size)); have S6 := Lib.hid (Nat.le_trans S5.out hbc.size); have R6 := Lib.hid (R5.out.below hbc); clear hbc c1)
      go_roundg gk
      case measure => omega
      case rel => exact ⟨k + 1, A5, cap5, by omega, by rw [← HZ.out], rfl, R6, U6, B6, S6⟩
end
end Go.Proofs.YthklbkgehfgdgaaDoor
