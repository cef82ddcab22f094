/- The laws' arena: three heads, fourteen nodes; what each call of chain answers, and makes of the lists in the mind. Condition: the table of widths lies in its block. -/
import Derived.Test.YthklbkgehfgdgaaDoorChTakes
import Derived.Test.YthklbkgehfgdgaaDoorChAll
namespace Go.Proofs.YthklbkgehfgdgaaDoor
open Go.RowKit

def H3 : List Nat := [8, 16, 24]
def N14 (x : Nat) : Prop := ∃ k, k < 14 ∧ x = 32 + 16 * k
theorem h3_cases {h : Nat} (hh : h ∈ H3) : h = 8 ∨ h = 16 ∨ h = 24 := by simpa [H3] using hh
theorem lay14 : Lay 512 H3 N14 where
  hin := fun h hh => by rcases h3_cases hh with rfl | rfl | rfl <;> omega
  xin := fun x ⟨k, h1, h2⟩ => by omega
  hh := fun h k hh hk hn => by rcases h3_cases hh with rfl | rfl | rfl <;> rcases h3_cases hk with rfl | rfl | rfl <;> omega
  xx := fun x y ⟨k, h1, h2⟩ ⟨j, h3, h4⟩ hn => by omega
  hx := fun h x hh ⟨k, h1, h2⟩ => by rcases h3_cases hh with rfl | rfl | rfl <;> omega
theorem len_le : ∀ (m l : List Nat), l.Nodup → (∀ x, x ∈ l → x ∈ m) → l.length ≤ m.length
  | [], l, _, hs => by
    cases l with
    | nil => exact Nat.le_refl _
    | cons x l => exact absurd (hs x (by simp)) (by simp)
  | a :: m, l, hn, hs => by
    have h1 := len_le m (l.erase a) (List.Nodup.erase a hn) (fun x hx => by
      have hx' := List.mem_of_mem_erase hx
      have hne : x ≠ a := by
        rintro rfl
        exact (List.Nodup.not_mem_erase hn) hx
      rcases List.mem_cons.1 (hs x hx') with e | e
      · exact absurd e hne
      · exact e)
    have h2 : l.length ≤ (l.erase a).length + 1 := by
      rw [List.length_erase]
      split <;> omega
    simp only [List.length_cons]
    omega
theorem n14_mem {x : Nat} (h : N14 x) : x ∈ (List.range 14).map (fun k => 32 + 16 * k) := by
  obtain ⟨k, hk, rfl⟩ := h
  exact List.mem_map.2 ⟨k, by simpa using hk, rfl⟩

/-! ### The lists in the mind -/
def ow (L : Nat → List Nat) (x : Nat) : Nat := if x ∈ L 8 then 8 else if x ∈ L 16 then 16 else if x ∈ L 24 then 24 else 0
def gP (L : Nat → List Nat) (h x : Nat) (d : Bool) : Nat → List Nat := if ow L x = 0 then upL L h (pushL d x (L h)) else L
def gPe (L : Nat → List Nat) (x : Nat) : Nat := if ow L x = 0 then 0 else 8
def en (L : Nat → List Nat) (h : Nat) (d : Bool) : Nat := (dl d (L h)).headD 0
def gO (L : Nat → List Nat) (h : Nat) (d : Bool) : Nat → List Nat := if en L h d = 0 then L else upL L h ((L h).erase (en L h d))
def gOe (L : Nat → List Nat) (h : Nat) (d : Bool) : Nat := if en L h d = 0 then 6 else 0
def gR (L : Nat → List Nat) (h x : Nat) : Nat → List Nat := if x ∈ L h then upL L h ((L h).erase x) else L
def gRe (L : Nat → List Nat) (h x : Nat) : Nat := if x ∈ L h then 0 else 8
def nx (L : Nat → List Nat) (x : Nat) (d : Bool) : Nat := if ow L x = 0 then 0 else nxt (dl d (L (ow L x))) x

section
variable {n : Nat} {L : Nat → List Nat} {f : Nat → Int} {h x : Nat}
theorem Ch.ow_in (c : Ch 512 H3 N14 L f) (hh : h ∈ H3) (hx : x ∈ L h) : ow L x = h := by
  have key : ∀ k, k ∈ H3 → x ∈ L k → k = h := fun k hk hm => c.one k h hk hh x hm hx
  unfold ow
  rcases h3_cases hh with rfl | rfl | rfl
  · rw [if_pos hx]
  · rw [if_neg (fun h8 => by have := key 8 (by decide) h8; omega), if_pos hx]
  · rw [if_neg (fun h8 => by have := key 8 (by decide) h8; omega), if_neg (fun h8 => by have := key 16 (by decide) h8; omega), if_pos hx]
theorem ow_cases (L : Nat → List Nat) (x : Nat) : (ow L x = 0 ∧ ∀ h, h ∈ H3 → x ∉ L h) ∨ (ow L x ∈ H3 ∧ x ∈ L (ow L x)) := by
  unfold ow
  by_cases h8 : x ∈ L 8
  · rw [if_pos h8]; exact .inr ⟨by decide, h8⟩
  · rw [if_neg h8]
    by_cases h16 : x ∈ L 16
    · rw [if_pos h16]; exact .inr ⟨by decide, h16⟩
    · rw [if_neg h16]
      by_cases h24 : x ∈ L 24
      · rw [if_pos h24]; exact .inr ⟨by decide, h24⟩
      · rw [if_neg h24]
        refine .inl ⟨rfl, fun h hh => ?_⟩
        rcases h3_cases hh with rfl | rfl | rfl <;> assumption
theorem ow_pos (L : Nat → List Nat) (x : Nat) (h : ow L x ≠ 0) : ow L x ∈ H3 ∧ x ∈ L (ow L x) := (ow_cases L x).resolve_left fun e => h e.1
theorem ow_none (L : Nat → List Nat) (x : Nat) (h : ow L x = 0) : ∀ h, h ∈ H3 → x ∉ L h := by
  rcases ow_cases L x with e | e
  · exact e.2
  · rw [h] at e
    exact absurd e.1 (by decide)
theorem Ch.owner (c : Ch 512 H3 N14 L f) (hx : N14 x) : lk f (x + 8) = (ow L x : Nat) := by
  rcases ow_cases L x with e | e
  · rw [e.1, (c.free x hx e.2).2]; rfl
  · exact c.own _ e.1 x e.2
theorem Ch.nextv (c : Ch 512 H3 N14 L f) (hx : N14 x) (d : Bool) : lk f (x + off d) = (nx L x d : Nat) := by
  unfold nx
  rcases ow_cases L x with e | e
  · rw [if_pos e.1, (c.free x hx e.2).1 d]; rfl
  · have : ow L x ≠ 0 := fun h => by rw [h] at e; exact absurd e.1 (by decide)
    rw [if_neg this]
    exact c.next e.1 d e.2
theorem Ch.len (c : Ch 512 H3 N14 L f) (hh : h ∈ H3) : (L h).length ≤ 14 := by
  have := len_le _ (L h) (c.nod h hh) (fun x hx => n14_mem (c.mem h hh x hx))
  simpa using this
theorem Ch.mem_ow (c : Ch 512 H3 N14 L f) (hh : h ∈ H3) : x ∈ L h ↔ ow L x = h := by
  constructor
  · exact c.ow_in hh
  · intro e
    have : ow L x ≠ 0 := by rw [e]; rintro rfl; exact absurd hh (by decide)
    have := (ow_pos L x this).2
    rwa [e] at this
theorem ch0 : Ch 512 H3 N14 (fun _ => []) (fun _ => 0) where
  lay := lay14
  big := by decide
  mem := fun h _ x hx => by cases hx
  nod := fun h _ => List.nodup_nil
  one := fun h k _ _ x hx => by cases hx
  ring := fun h _ d p hp => by
    rw [lk_of_zero fun _ _ _ => rfl]
    have : dl d ([] : List Nat) = [] := by cases d <;> rfl
    rw [this]
    by_cases e : h = p
    · subst e; rw [nxt_here]; rfl
    · rw [nxt_there _ e]; rfl
  own := fun h _ x hx => by cases hx
  free := fun x _ _ => ⟨fun d => lk_of_zero fun _ _ _ => rfl, lk_of_zero fun _ _ _ => rfl⟩
  pad := fun x _ => lk_of_zero fun _ _ _ => rfl
theorem en_mem (L : Nat → List Nat) (h : Nat) (d : Bool) (hn : en L h d ≠ 0) : en L h d ∈ L h := by
  unfold en at hn ⊢
  rcases e : dl d (L h) with _ | ⟨y, ys⟩
  · rw [e] at hn; exact absurd rfl hn
  · have : y ∈ dl d (L h) := by rw [e]; simp
    simpa using dl_mem.1 this
end

/-- The laws' arena, its lists, its bytes; what was there ahead of the law. -/
structure Cs (w0 w : World) (p g : Nat) (L : Nat → List Nat) (f : Nat → Int) : Prop where
  aw : Aw w p g 512 f
  ch : Ch 512 H3 N14 L f
  bl : Below w0.heap.size w0 w
  lo : w0.heap.size ≤ g
  rest : Keep H3 N14 (fun _ => 0) f
section
variable {w0 w w' : World} {p g : Nat} {L : Nat → List Nat} {f : Nat → Int} {h x : Nat}
theorem Cs.below (c : Cs w0 w p g L f) (hb : Below w.heap.size w w') : Cs w0 w' p g L f := ⟨c.aw.below hb, c.ch, c.bl.trans (hb.mono c.bl.size), c.lo, c.rest⟩
theorem Cs.drew (c : Cs w0 w p g L f) : Cs w0 w.drew p g L f := c.below ((Below.refl _ w).drew)
theorem Cs.upto {B : Nat} (c : Cs w0 w p g L f) (hp : p < B) (hg : g < B) (hB : w0.heap.size ≤ B) (hb : Below B w w') : Cs w0 w' p g L f :=
  ⟨⟨c.aw.tab.below hb (Nat.lt_trans c.aw.wg hg), c.aw.wg, c.aw.ar.below hb hp hg⟩, c.ch, c.bl.trans (hb.mono hB), c.lo, c.rest⟩
theorem Fg.kx {b : Nat} (hf : Fg g w w') : Kx ⟨b, g⟩ w w' := ⟨hf.size, fun k h1 h2 => hf.block k h2 h1.2⟩
theorem Cs.fg {L' : Nat → List Nat} {f' : Nat → Int} (c : Cs w0 w p g L f) (ha : Aw w' p g 512 f') (hf : Fg g w w') (hc : Ch 512 H3 N14 L' f') (hk : Keep H3 N14 f f') : Cs w0 w' p g L' f' :=
  ⟨ha, hc, c.bl.trans (hf.below c.bl.size c.lo), c.lo, c.rest.trans hk⟩
/-- What a call answers; what the lists become; nothing but the arena's bytes turns. -/
def Ct (w0 w : World) (p g : Nat) (L' : Nat → List Nat) (v : Value) (e : Ending) (w' : World) : Prop := e = .returned v ∧ ∃ f', Cs w0 w' p g L' f' ∧ Fg g w w'
theorem cs_push (c : Cs w0 w p g L f) (d : Bool) (hh : h ∈ H3) (hx : N14 x) :
    Calls Tryd.prog 14 #[.pointer (some ⟨p, 0, none⟩), .int .i64 h, .int .i64 x, .bool d] w (Ct w0 w p g (gP L h x d) (.int .i64 (gPe L x : Nat))) := by
  unfold gP gPe
  by_cases e : ow L x = 0
  · rw [if_pos e, if_pos e]
    refine (push_ok c.aw c.ch d hh hx (ow_none L x e)).mono ?_
    rintro _ w' ⟨rfl, ha, hf⟩
    exact ⟨rfl, _, c.fg ha hf (c.ch.push hh hx (ow_none L x e) d) (c.ch.keepPush hh hx d), hf⟩
  · rw [if_neg e, if_neg e]
    refine (push_in c.aw c.ch.lay d hh hx (c.ch.owner hx) e).mono ?_
    rintro _ w' ⟨rfl, hb⟩
    exact ⟨rfl, _, c.below hb, Fg.of_below hb (Nat.le_refl _)⟩
theorem cs_pop (c : Cs w0 w p g L f) (d : Bool) (hh : h ∈ H3) :
    Calls Tryd.prog 16 #[.pointer (some ⟨p, 0, none⟩), .int .i64 h, .bool d] w (Ct w0 w p g (gO L h d) (.tuple #[.int .i64 (en L h d : Nat), .int .i64 (gOe L h d : Nat)])) := by
  have hb := c.ch.lay.hin h hh
  unfold gO gOe
  by_cases e : en L h d = 0
  · rw [if_pos e, if_pos e, e]
    refine (pop_none c.aw h d hb.1 hb.2 (by rw [c.ch.first hh d]; unfold en at e; rw [e]; rfl)).mono ?_
    rintro _ w' ⟨rfl, hb⟩
    exact ⟨rfl, _, c.below hb, Fg.of_below hb (Nat.le_refl _)⟩
  · rw [if_neg e, if_neg e]
    refine (pop_ok c.aw c.ch d hh (en_mem L h d e) rfl).mono ?_
    rintro _ w' ⟨rfl, ha, hf⟩
    exact ⟨rfl, _, c.fg ha hf (c.ch.cut hh (en_mem L h d e)) (c.ch.keepCut hh (en_mem L h d e)), hf⟩
theorem cs_remove (c : Cs w0 w p g L f) (hh : h ∈ H3) (hx : N14 x) :
    Calls Tryd.prog 18 #[.pointer (some ⟨p, 0, none⟩), .int .i64 h, .int .i64 x] w (Ct w0 w p g (gR L h x) (.int .i64 (gRe L h x : Nat))) := by
  unfold gR gRe
  by_cases e : x ∈ L h
  · rw [if_pos e, if_pos e]
    refine (remove_ok c.aw c.ch hh e).mono ?_
    rintro _ w' ⟨rfl, ha, hf⟩
    exact ⟨rfl, _, c.fg ha hf (c.ch.cut hh e) (c.ch.keepCut hh e), hf⟩
  · rw [if_neg e, if_neg e]
    refine (remove_not c.aw c.ch.lay hh hx (c.ch.owner hx) (fun h' => e ((c.ch.mem_ow hh).2 h'))).mono ?_
    rintro _ w' ⟨rfl, hb⟩
    exact ⟨rfl, _, c.below hb, Fg.of_below hb (Nat.le_refl _)⟩
theorem cs_end (c : Cs w0 w p g L f) (d : Bool) (hh : h ∈ H3) :
    Calls Tryd.prog 21 #[.pointer (some ⟨p, 0, none⟩), .int .i64 h, .bool d] w fun e w' => e = .returned (.tuple #[.int .i64 (en L h d : Nat), .int .i64 0]) ∧ Below w.heap.size w w' := by
  have hb := c.ch.lay.hin h hh
  exact end_at c.aw h _ d hb.1 hb.2 (c.ch.first hh d)
theorem cs_next (c : Cs w0 w p g L f) (d : Bool) (hx : N14 x) :
    Calls Tryd.prog 23 #[.pointer (some ⟨p, 0, none⟩), .int .i64 x, .bool d] w fun e w' => e = .returned (.tuple #[.int .i64 (nx L x d : Nat), .int .i64 0]) ∧ Below w.heap.size w w' := by
  have hb := c.ch.lay.xin x hx
  exact next_at c.aw x _ d hb.1 hb.2 (c.ch.nextv hx d)
theorem cs_owner (c : Cs w0 w p g L f) (hx : N14 x) :
    Calls Tryd.prog 22 #[.pointer (some ⟨p, 0, none⟩), .int .i64 x] w fun e w' => e = .returned (.tuple #[.int .i64 (ow L x : Nat), .int .i64 0]) ∧ Below w.heap.size w w' := by
  have hb := c.ch.lay.xin x hx
  exact owner_at c.aw x _ hb.1 hb.2 (c.ch.owner hx)
theorem cs_all (c : Cs w0 w p g L f) (hh : h ∈ H3) :
    Calls Tryd.prog 25 #[.pointer (some ⟨p, 0, none⟩), .int .i64 h] w fun e w' => ∃ A cap, e = .returned (.tuple #[.slice A (L h).length cap, .int .i64 0]) ∧
      Sx w' ⟨w0.heap.size, g⟩ A (L h) ∧ Below w.heap.size w w' := by
  refine (all_ok c.aw c.ch hh (by have := c.ch.len hh; omega)).mono ?_
  rintro e w' ⟨A, cap, rfl, hr, hb⟩
  have := c.aw.gb
  have := c.bl.size
  exact ⟨A, cap, rfl, hr.sx (fun k hk => ⟨by show w0.heap.size ≤ k; omega, by show k ≠ g; omega⟩), hb⟩
set_option maxRecDepth 100000 in
theorem cs_new (hT : Tab w) (hw : 0 < w.heap.size) (hb : Below w0.heap.size w0 w) :
    Calls Tryd.prog 10 #[] w fun e w' => ∃ p g, e = .returned (.pointer (some ⟨p, 0, none⟩)) ∧ Cs w0 w' p g (fun _ => []) (fun _ => 0) ∧ Below w.heap.size w w' := by
  have N1 := Lib.hid (new_ok (w := w) 512 (by decide))
  have HT := Lib.hid hT
  have HB := Lib.hid hb
  clear hT hb
  go_enter Tryd.func10, Tryd.ntmps10
  go_wp2_with (go_at_call 27; refine N1.out.mono ?_; rintro e w' ⟨rfl, ha, hz, hl⟩; replace ha := Lib.hid ha; replace hz := Lib.hid hz; replace hl := Lib.hid hl)
  go_ret
  refine ⟨_, _, rfl, ⟨⟨HT.out.below hl.out hw, hw, ha.out⟩, ch0, HB.out.trans (hl.out.mono HB.out.size), HB.out.size, fun _ _ _ => rfl⟩, hl.out⟩
def hdN (n : Nat) : Nat := 8 + 8 * (n % 3)
def ndN (n : Nat) : Nat := 32 + 16 * (n % 14)
theorem hdN_in (n : Nat) : hdN n ∈ H3 := by
  unfold hdN
  have : n % 3 = 0 ∨ n % 3 = 1 ∨ n % 3 = 2 := by omega
  rcases this with e | e | e <;> rw [e] <;> decide
theorem ndN_in (n : Nat) : N14 (ndN n) := ⟨n % 14, by omega, rfl⟩
theorem head_any (n : Nat) (hn : n ≤ 255) (w : World) : Calls Tryd.prog 12 #[.int .u8 n] w fun e w' => e = .returned (.int .i64 (hdN n : Nat)) ∧ w = w' := by
  have e : ((hdN n : Nat) : Int) = 8 + 8 * ((n : Int) % 3) := by unfold hdN; omega
  rw [e]
  clear e
  go_enter Tryd.func12, Tryd.ntmps12
  go_wp2
  go_ret
  exact ⟨rfl, rfl⟩
theorem node_any (n : Nat) (hn : n ≤ 255) (w : World) : Calls Tryd.prog 13 #[.int .u8 n] w fun e w' => e = .returned (.int .i64 (ndN n : Nat)) ∧ w = w' := by
  have e : ((ndN n : Nat) : Int) = 32 + 16 * ((n : Int) % 14) := by unfold ndN; omega
  rw [e]
  clear e
  go_enter Tryd.func13, Tryd.ntmps13
  go_wp2
  go_ret
  exact ⟨rfl, rfl⟩
end
end Go.Proofs.YthklbkgehfgdgaaDoor
